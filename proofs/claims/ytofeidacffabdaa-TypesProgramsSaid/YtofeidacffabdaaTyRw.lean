/-
  The reference's Well, by induction over the tree. Condition: the value is a statement as the grammar has it.
-/
import Derived.Test.YtofeidacffabdaaTyRt
import Derived.Test.YtofeidacffabdaaTyU
namespace Go.Proofs.Ytofeidacffabdaa
open Go Go.RowKit Go.Proofs Go.Shelf
attribute [local go_sem] Oper.semAt_some

/-- What the reference's Well does at the tree t. -/
def QAt (t : TY.Nd) : Prop := TY.FitS t → ∀ (W : World) (hi : Nat) (v : Value), NdV W hi t v → hi ≤ W.heap.size →
  Calls Try.prog 39 #[v] W fun e w' => e = .returned (.bool (TY.wellR t)) ∧ Below W.heap.size W w'
theorem wellR_11 (n : Int) (s : ByteArray) (l : List TY.Nd) : TY.wellR (.mk 11 n s l) = l.all TY.wellR := by
  rw [TY.wellR_eq, if_pos rfl, List.all_map]
  rfl
theorem wellR_cond (k n : Int) (s : ByteArray) (x : TY.Nd) (l : List TY.Nd) (h : k = 2 ∨ k = 3) (hx : l[0]? = some x) : TY.wellR (.mk k n s l) = ((l.drop 1).all TY.wellR && decide (TY.refTy x = 2)) := by
  cases l with
  | nil => cases hx
  | cons z l =>
    injection hx with hx
    subst hx
    rw [TY.wellR_eq, if_neg (by omega), if_pos h, List.map_cons, List.map_cons, List.head?_cons, List.drop_succ_cons, List.drop_zero, List.drop_succ_cons, List.drop_zero, List.all_map]
    congr 1
    simp
theorem wellR_out (k n : Int) (s : ByteArray) (l : List TY.Nd) (h : k ≠ 11) (h2 : ¬ (k = 2 ∨ k = 3)) : TY.wellR (.mk k n s l) = l.all fun t => decide (TY.refTy t = 1) := by
  rw [TY.wellR_eq, if_neg h, if_neg h2, List.all_map]
  rfl
theorem drop_take_snoc {l : List TY.Nd} {P : TY.Nd → Bool} {j : Nat} {t : TY.Nd} (hj : 1 ≤ j) (ht : l[j]? = some t) (h : ((l.take j).drop 1).all P = true) (e : P t = true) : ((l.take (j + 1)).drop 1).all P = true := by
  have hlt := (List.getElem?_eq_some_iff.1 ht).1
  rw [List.take_add_one, ht, List.drop_append_of_le_length (by rw [List.length_take]; omega), List.all_append, h]
  simp [e]
set_option maxHeartbeats 8000000 in
theorem well_any : ∀ t, QAt t := by
  intro t
  induction t using TY.Nd.ind with
  | h k n s l ih =>
  intro hfit W hi v hv hh
  have hvo := hv.open_
  obtain ⟨A, c, vs, hvA, hvl, hlc, hcm, hlm, hss, hkd, hkids⟩ := hvo
  subst hvA
  obtain ⟨W1, hW1⟩ : ∃ U, W.alloc (.cells #[.int .i64 k, .int .i64 n, .string s, .slice A l.length c] 25) = U := ⟨_, rfl⟩
  have hb1 : Below W.heap.size W W1 := by rw [← hW1]; exact (Below.refl _ _).alloc (Nat.le_refl _) _
  have z1 : W1.heap.size = W.heap.size + 1 := by rw [← hW1, World.size_alloc]
  obtain ⟨d0, d1, d2, d3⟩ := node_cells hW1
  have HW1 := Lib.hid hW1
  have HB1 := Lib.hid hb1
  clear hW1 hb1 d1 d2 hv
  obtain ⟨m, hm⟩ : ∃ m, l.length = m := ⟨_, rfl⟩
  have HM := Lib.hid hm
  rw [hm] at hlc hlm hvl d3 HW1 ⊢
  have HVL := Lib.hid hvl
  have HKD := Lib.hid hkd
  have HKI := Lib.hid hkids
  have HIH := Lib.hid ih
  have hlt : W.heap.size < W1.heap.size := by omega
  have B1 : Hid (Below W1.heap.size W1 W1) := Below.refl _ _
  clear hm hvl hkd hkids ih
  by_cases h11 : k = 11
  · subst h11
    rw [wellR_11]
    have HF : Hid (∀ t ∈ l, TY.FitS t) := by
      cases hfit with
      | plain _ _ _ _ h _ => omega
      | bare _ _ _ h => omega
      | cond _ _ _ _ _ h => omega
      | block _ _ _ h => exact h
    obtain ⟨q, hq⟩ : ∃ q, l.all TY.wellR = q := ⟨_, rfl⟩
    rw [hq]
    have HQ := Lib.hid hq
    clear hq hfit d0
    go_enter Try.func39, Try.ntmps39
    go_wp2_with fail
    rw [HW1.out]
    go_wp2_with fail
    go_loopw [3] (fun i V => ∃ j : Nat, j ≤ m ∧ i = .int .i64 (j : Int) ∧ Hid ((l.take j).all (fun t => TY.wellR t) = true) ∧ Hid (Below W1.heap.size W1 V)) (fun i _ => m - (intOf i).toNat)
    case atStart => exact ⟨0, by omega, rfl, (show (l.take 0).all (fun t => TY.wellR t) = true from rfl), B1.out⟩
    case round =>
      obtain ⟨j, hj, rfl, hT, hBl⟩ := hrel
      have d3w := (hBl.out.cell (p := ⟨W.heap.size, 3, none⟩) hlt).trans d3
      have HBW : Hid (Below W.heap.size W wr) := HB1.out.trans (hBl.out.mono HB1.out.size)
      by_cases hjm : j < m
      · obtain ⟨t, ht⟩ : ∃ t, l[j]? = some t := ⟨l[j]'(by rw [HM.out]; exact hjm), List.getElem?_eq_getElem (by rw [HM.out]; exact hjm)⟩
        obtain ⟨vj, hvj⟩ : ∃ x, vs[j]? = some x := ⟨vs[j]'(by rw [HVL.out]; exact hjm), List.getElem?_eq_getElem (by rw [HVL.out]; exact hjm)⟩
        have hnv := HKI.out j t vj ht hvj
        obtain ⟨b, off, kj, nj, sj, Aj, lj, cj, rfl, hbh, rfl, c0, c1, c2', c3⟩ := HKD.out.tree hvj hnv
        have hbW : b < W.heap.size := by omega
        have e0 := (HBW.out.cell (p := ⟨b, off + j * 4, none⟩) hbW).trans c0
        have e1 := (HBW.out.cell (p := ⟨b, off + j * 4 + 1, none⟩) hbW).trans c1
        have e2 := (HBW.out.cell (p := ⟨b, off + j * 4 + 2, none⟩) hbW).trans c2'
        have e3 := (HBW.out.cell (p := ⟨b, off + j * 4 + 3, none⟩) hbW).trans c3
        have hin : t ∈ l := List.mem_of_getElem? ht
        have HC := Lib.hid (HIH.out t (List.mem_of_getElem? ht) (HF.out t (List.mem_of_getElem? ht)) wr hi _ (hnv.under (HBW.out.mono hh) (Nat.le_refl _)) (Nat.le_trans hh HBW.out.size))
        by_cases hy : (fun t => TY.wellR t) t = true
        · have HSN := Lib.hid (all_take_snoc (P := fun t => TY.wellR t) ht hT.out hy)
          rw [show TY.wellR t = true from hy] at HC
          clear hnv c0 c1 c2' c3 ht hvj hy hin
          go_wp2_with (first
            | (go_at_call 39; refine HC.out.mono ?_; clear HC; rintro e w5 ⟨rfl, hb5⟩; have HB5 := Lib.hid (hBl.out.trans (hb5.mono hBl.out.size)); clear hb5))
          go_roundw
          case rel => exact ⟨j + 1, by omega, by go_num, HSN.out, HB5.out⟩
          case measure => simp [intOf]; omega
        · have HN := Lib.hid (show (l.all fun t => TY.wellR t) = false by
            rw [Bool.eq_false_iff]
            exact fun h => hy (List.all_eq_true.1 h t hin))
          rw [show TY.wellR t = false by simpa using hy] at HC
          clear hnv c0 c1 c2' c3 ht hvj hin
          go_wp2_with (first
            | (go_at_call 39; refine HC.out.mono ?_; clear HC; rintro e w5 ⟨rfl, hb5⟩; have HB5 := Lib.hid (HB1.out.trans ((hBl.out.trans (hb5.mono hBl.out.size)).mono HB1.out.size)); clear hb5))
          go_ret
          rw [← HQ.out, HN.out]
          exact ⟨rfl, HB5.out⟩
      · obtain rfl : j = m := by omega
        have HY := Lib.hid (show (l.all fun t => TY.wellR t) = true by
          have := hT.out
          rwa [List.take_of_length_le (by rw [HM.out]; exact Nat.le_refl _)] at this)
        go_wp2_with fail
        go_ret
        rw [← HQ.out, HY.out]
        exact ⟨rfl, HBW.out⟩
  by_cases hc : k = 2 ∨ k = 3
  · obtain ⟨x, hx, hF⟩ : ∃ x, l[0]? = some x ∧ ∀ t ∈ l.drop 1, TY.FitS t := by
      cases hfit with
      | plain _ _ _ _ h _ => omega
      | bare _ _ _ h => omega
      | cond _ _ _ z l' _ _ h => exact ⟨z, rfl, h⟩
      | block _ _ _ h => omega
    have HF := Lib.hid hF
    rw [wellR_cond k n s x l hc hx]
    have hm1 : 0 < m := by
      have := (List.getElem?_eq_some_iff.1 hx).1
      have := HM.out
      omega
    obtain ⟨v0, hv0⟩ : ∃ x, vs[0]? = some x := ⟨vs[0]'(by rw [HVL.out]; exact hm1), List.getElem?_eq_getElem (by rw [HVL.out]; exact hm1)⟩
    have hnv := HKI.out 0 x v0 hx hv0
    obtain ⟨b0, o0, k0, n0, s0, A0, l0, g0, rfl, hbh0, rfl, c0, c1, c2', c3⟩ := HKD.out.tree hv0 hnv
    rw [Nat.zero_mul, Nat.add_zero] at c0 c1 c2' c3
    have hbW0 : b0 < W.heap.size := by omega
    have e0 := (HB1.out.cell (p := ⟨b0, o0, none⟩) hbW0).trans c0
    have e1 := (HB1.out.cell (p := ⟨b0, o0 + 1, none⟩) hbW0).trans c1
    have e2 := (HB1.out.cell (p := ⟨b0, o0 + 2, none⟩) hbW0).trans c2'
    have e3 := (HB1.out.cell (p := ⟨b0, o0 + 3, none⟩) hbW0).trans c3
    have hc0 := ref_any x W1 hi _ (hnv.under (HB1.out.mono hh) (Nat.le_refl _)) (Nat.le_trans hh HB1.out.size)
    obtain ⟨y0, hy0⟩ : ∃ y, TY.refTy x = y := ⟨_, rfl⟩
    rw [hy0] at hc0 ⊢
    have HC0 := Lib.hid hc0
    have HEQ := Lib.hid (show ((y0 : Int) == (2 : Int)) = decide (y0 = 2) by rw [Bool.eq_iff_iff, beq_iff_eq, decide_eq_true_iff]; omega)
    obtain ⟨q, hq⟩ : ∃ q, ((l.drop 1).all TY.wellR && decide (y0 = 2)) = q := ⟨_, rfl⟩
    rw [hq]
    have HQ := Lib.hid hq
    clear hq hfit hF hx hv0 hnv hc0 hy0 e0 e1 e2 e3
    rcases hc with rfl | rfl
    all_goals
      go_enter Try.func39, Try.ntmps39
      go_wp2_with (first
        | (rw [HW1.out]; go_at_call 13; refine HC0.out.mono ?_; clear HC0; rintro e w2 ⟨rfl, hb2⟩; have B2 := Lib.hid hb2; have d3' := (hb2.cell (p := ⟨W.heap.size, 3, none⟩) hlt).trans d3; clear hb2))
      go_loopw [6] (fun i V => ∃ j : Nat, 1 ≤ j ∧ j ≤ m ∧ i = .int .i64 (j : Int) ∧ Hid (((l.take j).drop 1).all (fun t => TY.wellR t) = true) ∧ Hid (Below W1.heap.size W1 V)) (fun i _ => m - (intOf i).toNat)
      case atStart => exact ⟨1, by omega, by omega, rfl, (show ((l.take 1).drop 1).all (fun t => TY.wellR t) = true by rw [List.drop_eq_nil_of_le (by rw [List.length_take]; omega)]; rfl), B2.out⟩
      case round =>
        obtain ⟨j, hj1, hj, rfl, hT, hBl⟩ := hrel
        have d3w := (hBl.out.cell (p := ⟨W.heap.size, 3, none⟩) hlt).trans d3
        have HBW : Hid (Below W.heap.size W wr) := HB1.out.trans (hBl.out.mono HB1.out.size)
        by_cases hjm : j < m
        · obtain ⟨t, ht⟩ : ∃ t, l[j]? = some t := ⟨l[j]'(by rw [HM.out]; exact hjm), List.getElem?_eq_getElem (by rw [HM.out]; exact hjm)⟩
          obtain ⟨vj, hvj⟩ : ∃ x, vs[j]? = some x := ⟨vs[j]'(by rw [HVL.out]; exact hjm), List.getElem?_eq_getElem (by rw [HVL.out]; exact hjm)⟩
          have hnv := HKI.out j t vj ht hvj
          obtain ⟨b, off, kj, nj, sj, Aj, lj, cj, eA, hbh, rfl, c0, c1, c2', c3⟩ := HKD.out.tree hvj hnv
          injection eA with eA
          injection eA with eb eo _
          subst eb eo
          have hbW : b0 < W.heap.size := by omega
          have e0 := (HBW.out.cell (p := ⟨b0, o0 + j * 4, none⟩) hbW).trans c0
          have e1 := (HBW.out.cell (p := ⟨b0, o0 + j * 4 + 1, none⟩) hbW).trans c1
          have e2 := (HBW.out.cell (p := ⟨b0, o0 + j * 4 + 2, none⟩) hbW).trans c2'
          have e3 := (HBW.out.cell (p := ⟨b0, o0 + j * 4 + 3, none⟩) hbW).trans c3
          have hin : t ∈ (l.drop 1) := (show t ∈ l.drop 1 from List.mem_of_getElem? (i := j - 1) (by rw [List.getElem?_drop, show 1 + (j - 1) = j by omega]; exact ht))
          have HC := Lib.hid (HIH.out t (List.mem_of_getElem? ht) (HF.out t hin) wr hi _ (hnv.under (HBW.out.mono hh) (Nat.le_refl _)) (Nat.le_trans hh HBW.out.size))
          by_cases hy : (fun t => TY.wellR t) t = true
          · have HSN := Lib.hid (drop_take_snoc (P := fun t => TY.wellR t) hj1 ht hT.out hy)
            rw [show TY.wellR t = true from hy] at HC
            clear hnv c0 c1 c2' c3 ht hvj hy hin
            go_wp2_with (first
              | (go_at_call 39; refine HC.out.mono ?_; clear HC; rintro e w5 ⟨rfl, hb5⟩; have HB5 := Lib.hid (hBl.out.trans (hb5.mono hBl.out.size)); clear hb5))
            go_roundw
            case rel => exact ⟨j + 1, by omega, by omega, by go_num, HSN.out, HB5.out⟩
            case measure => simp [intOf]; omega
          · have HN := Lib.hid (show ((l.drop 1).all fun t => TY.wellR t) = false by
              rw [Bool.eq_false_iff]
              exact fun h => hy (List.all_eq_true.1 h t hin))
            rw [show TY.wellR t = false by simpa using hy] at HC
            clear hnv c0 c1 c2' c3 ht hvj hin
            go_wp2_with (first
              | (go_at_call 39; refine HC.out.mono ?_; clear HC; rintro e w5 ⟨rfl, hb5⟩; have HB5 := Lib.hid (HB1.out.trans ((hBl.out.trans (hb5.mono hBl.out.size)).mono HB1.out.size)); clear hb5))
            go_ret
            rw [← HQ.out, HN.out]
            exact ⟨rfl, HB5.out⟩
        · obtain rfl : j = m := by omega
          have HY := Lib.hid (show ((l.drop 1).all fun t => TY.wellR t) = true by
            have := hT.out
            rwa [List.take_of_length_le (by rw [HM.out]; exact Nat.le_refl _)] at this)
          go_wp2_with fail
          go_ret
          exact ⟨by rw [← HQ.out, HY.out, Bool.true_and, ← HEQ.out]; rfl, HBW.out⟩
  · rw [wellR_out k n s l h11 hc]
    have e11 : (k == 11) = false := by simp; omega
    have e2 : (k == 2) = false := by simp; omega
    have e3' : (k == 3) = false := by simp; omega
    obtain ⟨q, hq⟩ : ∃ q, (l.all fun t => decide (TY.refTy t = 1)) = q := ⟨_, rfl⟩
    rw [hq]
    have HQ := Lib.hid hq
    clear hq hfit d0 hc h11 HIH
    go_enter Try.func39, Try.ntmps39
    go_wp2_with fail
    rw [HW1.out]
    go_wp2_with fail
    go_loopw [8] (fun i V => ∃ j : Nat, j ≤ m ∧ i = .int .i64 (j : Int) ∧ Hid ((l.take j).all (fun t => decide (TY.refTy t = 1)) = true) ∧ Hid (Below W1.heap.size W1 V)) (fun i _ => m - (intOf i).toNat)
    case atStart => exact ⟨0, by omega, rfl, (show (l.take 0).all (fun t => decide (TY.refTy t = 1)) = true from rfl), B1.out⟩
    case round =>
      obtain ⟨j, hj, rfl, hT, hBl⟩ := hrel
      have d3w := (hBl.out.cell (p := ⟨W.heap.size, 3, none⟩) hlt).trans d3
      have HBW : Hid (Below W.heap.size W wr) := HB1.out.trans (hBl.out.mono HB1.out.size)
      by_cases hjm : j < m
      · obtain ⟨t, ht⟩ : ∃ t, l[j]? = some t := ⟨l[j]'(by rw [HM.out]; exact hjm), List.getElem?_eq_getElem (by rw [HM.out]; exact hjm)⟩
        obtain ⟨vj, hvj⟩ : ∃ x, vs[j]? = some x := ⟨vs[j]'(by rw [HVL.out]; exact hjm), List.getElem?_eq_getElem (by rw [HVL.out]; exact hjm)⟩
        have hnv := HKI.out j t vj ht hvj
        obtain ⟨b, off, kj, nj, sj, Aj, lj, cj, rfl, hbh, rfl, c0, c1, c2', c3⟩ := HKD.out.tree hvj hnv
        have hbW : b < W.heap.size := by omega
        have e0 := (HBW.out.cell (p := ⟨b, off + j * 4, none⟩) hbW).trans c0
        have e1 := (HBW.out.cell (p := ⟨b, off + j * 4 + 1, none⟩) hbW).trans c1
        have e2 := (HBW.out.cell (p := ⟨b, off + j * 4 + 2, none⟩) hbW).trans c2'
        have e3 := (HBW.out.cell (p := ⟨b, off + j * 4 + 3, none⟩) hbW).trans c3
        have hin : t ∈ l := List.mem_of_getElem? ht
        have HC := Lib.hid (ref_any t wr hi _ (hnv.under (HBW.out.mono hh) (Nat.le_refl _)) (Nat.le_trans hh HBW.out.size))
        by_cases hy : (fun t => decide (TY.refTy t = 1)) t = true
        · have HSN := Lib.hid (all_take_snoc (P := fun t => decide (TY.refTy t = 1)) ht hT.out hy)
          rw [show TY.refTy t = 1 from of_decide_eq_true hy] at HC
          clear hnv c0 c1 c2' c3 ht hvj hy hin
          go_wp2_with (first
            | (go_at_call 13; refine HC.out.mono ?_; clear HC; rintro e w5 ⟨rfl, hb5⟩; have HB5 := Lib.hid (hBl.out.trans (hb5.mono hBl.out.size)); clear hb5))
          go_roundw
          case rel => exact ⟨j + 1, by omega, by go_num, HSN.out, HB5.out⟩
          case measure => simp [intOf]; omega
        · have HN := Lib.hid (show (l.all fun t => decide (TY.refTy t = 1)) = false by
            rw [Bool.eq_false_iff]
            exact fun h => hy (List.all_eq_true.1 h t hin))
          obtain ⟨y, hyy⟩ : ∃ y, TY.refTy t = y := ⟨_, rfl⟩
          have hy1 : y ≠ 1 := fun h => hy (decide_eq_true (hyy.trans h))
          rw [hyy] at HC
          have hne : ((y : Int) != 1) = true := by rw [bne_iff_ne]; omega
          clear hyy hy
          clear hnv c0 c1 c2' c3 ht hvj hin
          go_wp2_with (first
            | (go_at_call 13; refine HC.out.mono ?_; clear HC; rintro e w5 ⟨rfl, hb5⟩; have HB5 := Lib.hid (HB1.out.trans ((hBl.out.trans (hb5.mono hBl.out.size)).mono HB1.out.size)); clear hb5))
          go_ret
          rw [← HQ.out, HN.out]
          exact ⟨rfl, HB5.out⟩
      · obtain rfl : j = m := by omega
        have HY := Lib.hid (show (l.all fun t => decide (TY.refTy t = 1)) = true by
          have := hT.out
          rwa [List.take_of_length_le (by rw [HM.out]; exact Nat.le_refl _)] at this)
        go_wp2_with fail
        go_ret
        rw [← HQ.out, HY.out]
        exact ⟨rfl, HBW.out⟩
end Go.Proofs.Ytofeidacffabdaa
