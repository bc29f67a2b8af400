/-
  slices.Index; hasUndeclared, given what Index answers. Conditions: the value is a tree; the list's cells hold the names.
-/
import Derived.Test.YtligbandpmgmaaaTySq
import Derived.Test.YtligbandpmgmaaaTyIf
import Derived.Test.YtligbandpmgmaaaTyU
namespace Go.Proofs.Ytligbandpmgmaaa
open Go Go.RowKit Go.Proofs Go.Shelf
attribute [local go_sem] Oper.semAt_some

theorem idx_at {l : List ByteArray} {j : Nat} {s : ByteArray} (hj : l[j]? = some s) (h : TY.inL (l.take j) s = false) : TY.idx l s = (j : Int) := by
  unfold TY.idx
  rw [if_pos (TY.inL_iff.2 (List.mem_of_getElem? hj))]
  obtain ⟨hlt, e⟩ := List.getElem?_eq_some_iff.1 hj
  have : (l.findIdx fun x => decide (x = s)) = j := by
    rw [List.findIdx_eq hlt]
    refine ⟨by rw [e]; simp, fun i hi => ?_⟩
    rw [decide_eq_false_iff_not]
    intro k
    have : s ∈ l.take j := by
      rw [← k]
      exact List.mem_of_getElem? (i := i) (by rw [List.getElem?_take_of_lt hi]; exact List.getElem?_eq_getElem _)
    rw [TY.inL_iff.2 this] at h
    cases h
  rw [this]
theorem idx_no {l : List ByteArray} {s : ByteArray} (h : TY.inL l s = false) : TY.idx l s = -1 := by
  unfold TY.idx
  rw [h]
  rfl
theorem idx_yes {l : List ByteArray} {s : ByteArray} (h : TY.inL l s = true) : 0 ≤ TY.idx l s := by
  unfold TY.idx
  rw [if_pos h]
  omega
set_option maxHeartbeats 2000000 in
theorem sliceIdx_any (W : World) (hi : Nat) (A : Option Addr) (m c : Nat) (l : List ByteArray) (s : ByteArray) (h : Sts hi W A m l) (hm : m ≤ 100000) : Calls Try.prog 25 #[.slice A m c, .string s] W fun e w' => e = .returned (.int .i64 (TY.idx l s)) ∧ w' = W := by
  have HL := Lib.hid h.1
  have HS := Lib.hid h
  clear h
  go_enter Try.func25, Try.ntmps25
  go_wp2_with fail
  go_loopw [8] (fun i V => ∃ j : Nat, j ≤ m ∧ i = .int .i64 (j : Int) ∧ Hid (TY.inL (l.take j) s = false) ∧ V = W) (fun i _ => m - (intOf i).toNat)
  case atStart => exact ⟨0, by omega, rfl, (show TY.inL (l.take 0) s = false from rfl), rfl⟩
  case round =>
    obtain ⟨j, hj, rfl, hT, rfl⟩ := hrel
    by_cases hjm : j < m
    · obtain ⟨x, hx⟩ : ∃ t, l[j]? = some t := ⟨l[j]'(by rw [HL.out]; exact hjm), List.getElem?_eq_getElem (by rw [HL.out]; exact hjm)⟩
      obtain ⟨b, off, rfl, hb, hcx⟩ := HS.out.2 (by omega)
      have ex := hcx j hjm
      rw [hx] at ex
      simp only [Option.getD_some] at ex
      by_cases hxs : x = s
      · subst hxs
        have HY := Lib.hid (idx_at hx hT.out)
        clear hcx hx
        go_wp2_with fail
        go_ret
        rw [HY.out]
        exact ⟨rfl, rfl⟩
      · have HSN := Lib.hid (inL_snoc hx hT.out hxs)
        have e1 : (s.toList == x.toList) = false := by rw [str_eq, decide_eq_false (fun e => hxs e.symm)]
        clear hcx hx
        go_wp2_with fail
        go_roundw
        case rel => exact ⟨j + 1, by omega, by go_num, HSN.out, trivial⟩
        case measure => simp [intOf]; omega
    · obtain rfl : j = m := by omega
      have HY := Lib.hid (idx_no (show TY.inL l s = false by
        have := hT.out
        rwa [List.take_of_length_le (by rw [HL.out]; exact Nat.le_refl _)] at this))
      go_wp2_with fail
      go_ret
      rw [HY.out]
      exact ⟨rfl, rfl⟩
/-- What Index answers of the unit uv, whose variables are l, in every later world. -/
def IdxC (W : World) (hi : Nat) (uv : Value) (l : List ByteArray) : Prop := ∀ (V : World) (s : ByteArray), Below hi W V → hi ≤ V.heap.size → s.size ≤ 1000 → Calls Try.prog 18 #[uv, .string s] V fun e w' => e = .returned (.int .i64 (TY.idx l s)) ∧ Below V.heap.size V w'
/-- A box that holds a unit. -/
def UBox (W : World) (B : Nat) (x y z : Value) : Prop := W.heap[B]? = some (.cells #[x, y, z] 36 (0, 0))
abbrev undF (bu bs : Nat) : Value := .func (.func 23) #[] #[.pointer (some ⟨bu, 0, none⟩), .pointer (some ⟨bs, 0, none⟩)]
set_option maxHeartbeats 4000000 in
theorem und_any (l : List ByteArray) (Ax Ay Az : Option Addr) (mx cx my cy mz cz : Nat) : ∀ (t : TY.Nd) (W : World) (hi bu bs : Nat), IdxC W hi (.agg #[.slice Ax mx cx, .slice Ay my cy, .slice Az mz cz]) l → UBox W bu (.slice Ax mx cx) (.slice Ay my cy) (.slice Az mz cz) → FBox W bs (undF bu bs) → bu < W.heap.size → bs < W.heap.size → hi ≤ W.heap.size →
    Dec 23 #[] #[.pointer (some ⟨bu, 0, none⟩), .pointer (some ⟨bs, 0, none⟩)] W hi (TY.undec l) t := by
  intro t
  induction t using TY.Nd.ind with
  | h k n s kids ih =>
  intro W hi bu bs hI hU hF hbu hbs hh V v hV hv
  have hvo := hv.open_
  obtain ⟨A, c, vs, rfl, _, _, _, _, hss, _⟩ := hvo
  obtain ⟨W1, hW1⟩ : ∃ U, V.alloc (.cells #[.int .i64 k, .int .i64 n, .string s, .slice A kids.length c] 25) = U := ⟨_, rfl⟩
  have hb1 : Below V.heap.size V W1 := by rw [← hW1]; exact (Below.refl _ _).alloc (Nat.le_refl _) _
  have z1 : W1.heap.size = V.heap.size + 1 := by rw [← hW1, World.size_alloc]
  have hs := hV.size
  have hVW : Below W.heap.size W W1 := hV.trans (hb1.mono hs)
  obtain ⟨d0, d1, d2, d3⟩ := node_cells hW1
  have hIX := hI W1 s (hVW.mono hh) (by omega) hss
  have hU1 := (hVW.block _ hbu).trans hU
  have hF1 := (hVW.block _ hbs).trans hF
  have u0 : W1.cell? ⟨bu, 0, none⟩ = some (.slice Ax mx cx) := cell_of_row W1 bu 0 _ _ (0, 0) hU1
  have u1 : W1.cell? ⟨bu, 1, none⟩ = some (.slice Ay my cy) := cell_of_row W1 bu 1 _ _ (0, 0) hU1
  have u2 : W1.cell? ⟨bu, 2, none⟩ = some (.slice Az mz cz) := cell_of_row W1 bu 2 _ _ (0, 0) hU1
  have g0 : W1.cell? ⟨bs, 0, none⟩ = some (undF bu bs) := cell_of_row W1 bs 0 _ _ (0, 0) hF1
  have HCF := Lib.hid (fun U (hU' : Below W1.heap.size W1 U) => containsFunc_any (enters_of Try.func23 (by kernel_rfl) rfl) (P := TY.undec l) U hi _ (hv.under ((hb1.mono (by omega)).trans (hU'.mono (by omega))) (Nat.le_refl _)) (Nat.le_trans (by omega) hU'.size) (fun t ht => (ih t ht W hi bu bs hI hU hF hbu hbs hh).under (hVW.trans (hU'.mono hVW.size))) A c rfl)
  have hlt : V.heap.size < W1.heap.size := by omega
  have hbs1 : bs < W1.heap.size := by have := hVW.size; omega
  have hun : TY.undec l (.mk k n s kids) = ((decide (k = 1 ∨ k = 14) && !TY.inL l s) || kids.any (TY.undec l)) := by
    rw [TY.undec_eq, List.any_map]
    rfl
  show Calls _ _ _ _ fun e w' => e = .returned (.bool (TY.undec l (.mk k n s kids))) ∧ Below V.heap.size V w'
  rw [hun]
  obtain ⟨q, hq⟩ : ∃ q, kids.any (TY.undec l) = q := ⟨_, rfl⟩
  rw [hq] at HCF ⊢
  have D3 := Lib.hid d3
  have G0 := Lib.hid g0
  have HB1 := Lib.hid hb1
  have HW1 := Lib.hid hW1
  rw [← hW1] at d0 d1 d2 d3 u0 u1 u2 g0
  clear hW1 hb1 hv hV hVW hI hU hF hU1 hF1 ih hq hun
  by_cases hk : k = 1 ∨ k = 14
  · by_cases hin : TY.inL l s = true
    · have h0 := idx_yes hin
      obtain ⟨y, hy⟩ : ∃ y, TY.idx l s = y := ⟨_, rfl⟩
      rw [hy] at hIX h0
      have hneg : decide (y < 0) = false := by rw [decide_eq_false_iff_not]; omega
      have HIX := Lib.hid hIX
      rw [decide_eq_true hk, hin, show ((true && !true) || q) = q by simp]
      clear hIX hy hin
      rcases hk with rfl | rfl
      all_goals
        go_enter Try.func23, Try.ntmps23
        go_wp2_with (first
          | (rw [HW1.out]; go_at_call 18; refine HIX.out.mono ?_; clear HIX; rintro e w2 ⟨rfl, hb2⟩; have d3' := (hb2.cell (p := ⟨V.heap.size, 3, none⟩) hlt).trans D3.out; have g0' := (hb2.cell (p := ⟨bs, 0, none⟩) hbs1).trans G0.out; have HB2 := Lib.hid hb2; clear hb2)
          | (go_at_call 24; refine (HCF.out _ HB2.out).mono ?_; clear HCF; rintro e w3 ⟨rfl, hb3⟩))
        go_ret
        exact ⟨rfl, HB1.out.trans ((HB2.out.trans (hb3.mono HB2.out.size)).mono HB1.out.size)⟩
    · have hin' : TY.inL l s = false := by simpa using hin
      rw [idx_no hin'] at hIX
      have HIX := Lib.hid hIX
      rw [decide_eq_true hk, hin', show ((true && !false) || q) = true by simp]
      clear hIX hin hin'
      rcases hk with rfl | rfl
      all_goals
        go_enter Try.func23, Try.ntmps23
        go_wp2_with (first
          | (rw [HW1.out]; go_at_call 18; refine HIX.out.mono ?_; clear HIX; rintro e w2 ⟨rfl, hb2⟩; have HB2 := Lib.hid hb2; clear hb2))
        go_ret
        exact ⟨rfl, HB1.out.trans (HB2.out.mono HB1.out.size)⟩
  · rw [decide_eq_false hk, show ((false && !TY.inL l s) || q) = q by simp]
    have e1 : (k == 1) = false := by simp; omega
    have e14 : (k == 14) = false := by simp; omega
    have HC := Lib.hid (HCF.out W1 (Below.refl _ _))
    clear hIX HCF hk
    go_enter Try.func23, Try.ntmps23
    go_wp2_with (first
      | (rw [HW1.out]; go_at_call 24; refine HC.out.mono ?_; clear HC; rintro e w3 ⟨rfl, hb3⟩))
    go_ret
    exact ⟨rfl, HB1.out.trans (hb3.mono HB1.out.size)⟩
end Go.Proofs.Ytligbandpmgmaaa
