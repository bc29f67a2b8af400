/-
  A program in memory: what Check, Index and the reference's Index answer at any later world.
-/
import Derived.Test.YtofeidacffabdaaTyUt
import Derived.Test.YtofeidacffabdaaTyRx
namespace Go.Proofs.Ytofeidacffabdaa
open Go Go.RowKit Go.Proofs Go.Shelf
attribute [local go_sem] Oper.semAt_some

set_option maxHeartbeats 4000000 in
theorem Index_all (W : World) (hi : Nat) (Ax Ay Az : Option Addr) (cx cy mz cz : Nat) (dur vol : List ByteArray) (h1 : Stn hi W Ax cx dur) (h2 : Stn hi W Ay cy vol) (hl : dur.length + vol.length ≤ 100000) : ∀ (V : World) (s : ByteArray), Below hi W V → hi ≤ V.heap.size → Calls Try.prog 24 #[.agg #[.slice Ax dur.length cx, .slice Ay vol.length cy, .slice Az mz cz], .string s] V fun e w' => e = .returned (.int .i64 (TY.idx (dur ++ vol) s)) ∧ Below V.heap.size V w' := by
  intro V s hV hh
  obtain ⟨W1, hW1⟩ : ∃ U, V.alloc (.cells #[.slice Ax dur.length cx, .slice Ay vol.length cy, .slice Az mz cz] 35) = U := ⟨_, rfl⟩
  obtain ⟨W2, hW2⟩ : ∃ U, W1.alloc (.cells #[.slice Ax dur.length cx, .slice Ay vol.length cy] 32) = U := ⟨_, rfl⟩
  have z1 : W1.heap.size = V.heap.size + 1 := by rw [← hW1, World.size_alloc]
  have z2 : W2.heap.size = V.heap.size + 1 + 1 := by rw [← hW2, World.size_alloc, z1]
  have b1 : Below V.heap.size V W1 := by rw [← hW1]; exact (Below.refl _ _).alloc (Nat.le_refl _) _
  have b2 : Below V.heap.size V W2 := by rw [← hW2]; exact b1.alloc (by omega) _
  have ho := World.alloc_heap_new W1 (.cells #[.slice Ax dur.length cx, .slice Ay vol.length cy] 32)
  rw [hW2, z1] at ho
  have hWW : Below hi W W2 := hV.trans (b2.mono hh)
  have hst : strs [(Ax, cx, dur), (Ay, cy, vol)] = dur ++ vol := by simp [strs]
  have hcc := concat_any W2 hi (V.heap.size + 1) 2 [(Ax, cx, dur), (Ay, cy, vol)] rfl (by decide) (by omega) (by omega) (fun j x hx => by
    match j, hx with
    | 0, hx =>
      injection hx with hx
      subst hx
      exact ⟨cell_of_row W2 _ 0 _ _ (0, 0) ho, h1.below hWW⟩
    | 1, hx =>
      injection hx with hx
      subst hx
      exact ⟨cell_of_row W2 _ 1 _ _ (0, 0) ho, h2.below hWW⟩
    | j + 2, hx => simp at hx) (by rw [hst, List.length_append]; exact hl)
  rw [hst] at hcc
  obtain ⟨X, hX⟩ : ∃ X, dur ++ vol = X := ⟨_, rfl⟩
  have hXl : X.length ≤ 100000 := by rw [← hX, List.length_append]; exact hl
  rw [hX] at hcc ⊢
  obtain ⟨N, hN⟩ : ∃ N, X.length = N := ⟨_, rfl⟩
  obtain ⟨mx, hmx⟩ : ∃ N, dur.length = N := ⟨_, rfl⟩
  obtain ⟨my, hmy⟩ : ∃ N, vol.length = N := ⟨_, rfl⟩
  rw [hN] at hcc
  rw [hmx, hmy] at hW1 ⊢
  rw [hmx, hmy] at hW2
  have HC := Lib.hid hcc
  have HW1 := Lib.hid hW1
  have HW2 := Lib.hid hW2
  have HB2 := Lib.hid b2
  have HN := Lib.hid hN
  have HXL := Lib.hid hXl
  obtain ⟨q, hq⟩ : ∃ q, TY.idx X s = q := ⟨_, rfl⟩
  rw [hq]
  have HQ := Lib.hid hq
  clear hcc hW1 hW2 b1 b2 ho hWW hst h1 h2 hl hX hXl hN hmx hmy hV hq
  go_enter Try.func24, Try.ntmps24
  go_wp2_with (first
    | (rw [HW1.out, HW2.out]; go_at_call 41; refine HC.out.mono ?_; clear HC; rintro e w3 ⟨A, c, rfl, ho3, hb3⟩; have HI := Lib.hid (sliceIdx_any w3 _ A N c X s (Sts.of_own HN.out ho3) (by have := HXL.out; have := HN.out; omega)); have HB3 := Lib.hid (HB2.out.trans (hb3.mono HB2.out.size)); clear ho3 hb3)
    | (go_at_call 40; refine HI.out.mono ?_; clear HI; rintro e w4 ⟨rfl, rfl⟩))
  go_ret
  rw [HQ.out]
  exact ⟨rfl, HB3.out⟩

theorem UnV.index {W : World} {u : TY.Un} {v : Value} (h : UnV W u v) {V : World} (hV : Below W.heap.size W V) (s : ByteArray) : Calls Try.prog 24 #[v, .string s] V fun e w' => e = .returned (.int .i64 (TY.idx u.vars s)) ∧ Below V.heap.size V w' := by
  obtain ⟨Ad, cd, Av, cv, A, c, rfl, h1, h2, h3, h4, h5, h6, h7, h8⟩ := h
  exact Index_all W W.heap.size Ad Av A cd cv u.on.length c u.dur u.vol h1 h2 (by omega) V s hV hV.size
theorem UnV.check {W : World} {u : TY.Un} {v : Value} (h : UnV W u v) {V : World} (hV : Below W.heap.size W V) : Calls Try.prog 16 #[v] V fun e w' => e = .returned (.int .i64 (TY.chk u)) ∧ Below V.heap.size V w' := by
  obtain ⟨Ad, cd, Av, cv, A, c, rfl, h1, h2, h3, h4, h5, h6, h7, h8⟩ := h
  have hI := Index_any W W.heap.size Ad Av A cd cv u.on.length c u.dur u.vol h1 h2 (by omega)
  exact Check_any u.vars Ad Av A u.dur.length cd u.vol.length cv u.on.length c u.on rfl h4 (by omega) V W.heap.size (h3.below hV) (fun U s hU a b => hI U s (hV.trans hU) a b) hV.size
theorem UnV.refIndex {W : World} {u : TY.Un} {v : Value} (h : UnV W u v) {V : World} (hV : Below W.heap.size W V) (s : ByteArray) : Calls Try.prog 26 #[v, .string s] V fun e w' => e = .returned (.int .i64 (TY.idx u.vars s)) ∧ Below V.heap.size V w' := by
  obtain ⟨Ad, cd, Av, cv, A, c, rfl, h1, h2, h3, h4, h5, h6, h7, h8⟩ := h
  exact refIndex_any V W.heap.size Ad Av A u.dur.length cd u.vol.length cv u.on.length c u.dur u.vol s (h1.below hV).sts (h2.below hV).sts (by omega) hV.size
theorem UnV.shape {W : World} {u : TY.Un} {v : Value} (h : UnV W u v) : ∃ (Ad : Option Addr) (md cd : Nat) (Av : Option Addr) (mv cv : Nat) (A : Option Addr) (m c : Nat), v = .agg #[.slice Ad md cd, .slice Av mv cv, .slice A m c] ∧ u.dur.length = md ∧ u.vol.length = mv ∧ u.on.length = m ∧ m ≤ c ∧ c ≤ maxLen ∧ md ≤ 20 ∧ mv ≤ 20 ∧ m ≤ 4 ∧ md ≤ cd ∧ cd ≤ maxLen ∧ mv ≤ cv ∧ cv ≤ maxLen ∧ Stn W.heap.size W Ad cd u.dur ∧ Stn W.heap.size W Av cv u.vol ∧ Hs W W.heap.size A u.on := by
  obtain ⟨Ad, cd, Av, cv, A, c, rfl, h1, h2, h3, h4, h5, h6, h7, h8⟩ := h
  exact ⟨Ad, _, cd, Av, _, cv, A, _, c, rfl, rfl, rfl, rfl, h4, h5, h6, h7, h8, h1.1, h1.2.1, h2.1, h2.2.1, h1, h2, h3⟩
end Go.Proofs.Ytofeidacffabdaa
