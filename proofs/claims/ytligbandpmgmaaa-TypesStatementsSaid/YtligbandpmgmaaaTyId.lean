/-
  Index; Check and hasUndeclared need it. Condition: the unit's names lie in memory.
-/
import Derived.Test.YtligbandpmgmaaaTyCc
import Derived.Test.YtligbandpmgmaaaTyCk
namespace Go.Proofs.Ytligbandpmgmaaa
open Go Go.RowKit Go.Proofs Go.Shelf
attribute [local go_sem] Oper.semAt_some

theorem Sts.of_own {w : World} {base : Nat} {A : Option Addr} {n c : Nat} {l : List ByteArray} (hl : l.length = n) (h : w.ownsRow base 9 1 (.slice A n c) n (l.map Value.string)) : Sts w.heap.size w A n l := ⟨hl, fun hn => by
  obtain ⟨g, cap, hv, _, hlt⟩ := h.form hn
  have hA : A = some ⟨g, 0, none⟩ := by injection hv
  subst hA
  refine ⟨g, 0, rfl, hlt, fun j hj => ?_⟩
  have hc := h.cells (g := g) rfl j (.string (l[j]'(by omega))) (by rw [List.getElem?_map, List.getElem?_eq_getElem (by omega)]; rfl)
  rw [Addr.add_lit] at hc
  rw [hc, List.getElem?_eq_getElem (by omega)]
  rfl⟩
set_option maxHeartbeats 4000000 in
theorem Index_any (W : World) (hi : Nat) (Ax Ay Az : Option Addr) (cx cy mz cz : Nat) (dur vol : List ByteArray) (h1 : Stn hi W Ax cx dur) (h2 : Stn hi W Ay cy vol) (hl : dur.length + vol.length ≤ 100000) : IdxC W hi (.agg #[.slice Ax dur.length cx, .slice Ay vol.length cy, .slice Az mz cz]) (dur ++ vol) := by
  intro V s hV hh _
  obtain ⟨W1, hW1⟩ : ∃ U, V.alloc (.cells #[.slice Ax dur.length cx, .slice Ay vol.length cy, .slice Az mz cz] 36) = U := ⟨_, rfl⟩
  obtain ⟨W2, hW2⟩ : ∃ U, W1.alloc (.cells #[.slice Ax dur.length cx, .slice Ay vol.length cy] 33) = U := ⟨_, rfl⟩
  have z1 : W1.heap.size = V.heap.size + 1 := by rw [← hW1, World.size_alloc]
  have z2 : W2.heap.size = V.heap.size + 1 + 1 := by rw [← hW2, World.size_alloc, z1]
  have b1 : Below V.heap.size V W1 := by rw [← hW1]; exact (Below.refl _ _).alloc (Nat.le_refl _) _
  have b2 : Below V.heap.size V W2 := by rw [← hW2]; exact b1.alloc (by omega) _
  have ho := World.alloc_heap_new W1 (.cells #[.slice Ax dur.length cx, .slice Ay vol.length cy] 33)
  rw [hW2, z1] at ho
  have hWW : Below hi W W2 := hV.trans (b2.mono hh)
  have hst : strs [(Ax, cx, dur), (Ay, cy, vol)] = dur ++ vol := by simp [strs]
  have hcc := concat_any W2 hi (V.heap.size + 1) 2 [(Ax, cx, dur), (Ay, cy, vol)] rfl (by decide) (by omega) (by omega) (fun j x hx => by
    match j, hx with
    | 0, hx =>
      injection hx with hx
      subst hx
      exact ⟨cell_of_row W2 _ 0 _ _ (0, 0) ho, h1.below hWW⟩
    | 1, hx =>
      injection hx with hx
      subst hx
      exact ⟨cell_of_row W2 _ 1 _ _ (0, 0) ho, h2.below hWW⟩
    | j + 2, hx => simp at hx) (by rw [hst, List.length_append]; exact hl)
  rw [hst] at hcc
  obtain ⟨X, hX⟩ : ∃ X, dur ++ vol = X := ⟨_, rfl⟩
  have hXl : X.length ≤ 100000 := by rw [← hX, List.length_append]; exact hl
  rw [hX] at hcc ⊢
  obtain ⟨N, hN⟩ : ∃ N, X.length = N := ⟨_, rfl⟩
  obtain ⟨mx, hmx⟩ : ∃ N, dur.length = N := ⟨_, rfl⟩
  obtain ⟨my, hmy⟩ : ∃ N, vol.length = N := ⟨_, rfl⟩
  rw [hN] at hcc
  rw [hmx, hmy] at hW1 ⊢
  rw [hmx, hmy] at hW2
  have HC := Lib.hid hcc
  have HW1 := Lib.hid hW1
  have HW2 := Lib.hid hW2
  have HB2 := Lib.hid b2
  have HN := Lib.hid hN
  have HXL := Lib.hid hXl
  obtain ⟨q, hq⟩ : ∃ q, TY.idx X s = q := ⟨_, rfl⟩
  rw [hq]
  have HQ := Lib.hid hq
  clear hcc hW1 hW2 b1 b2 ho hWW hst h1 h2 hl hX hXl hN hmx hmy hV hq
  go_enter Try.func18, Try.ntmps18
  go_wp2_with (first
    | (rw [HW1.out, HW2.out]; go_at_call 26; refine HC.out.mono ?_; clear HC; rintro e w3 ⟨A, c, rfl, ho3, hb3⟩; have HI := Lib.hid (sliceIdx_any w3 _ A N c X s (Sts.of_own HN.out ho3) (by have := HXL.out; have := HN.out; omega)); have HB3 := Lib.hid (HB2.out.trans (hb3.mono HB2.out.size)); clear ho3 hb3)
    | (go_at_call 25; refine HI.out.mono ?_; clear HI; rintro e w4 ⟨rfl, rfl⟩))
  go_ret
  rw [HQ.out]
  exact ⟨rfl, HB3.out⟩
end Go.Proofs.Ytligbandpmgmaaa
