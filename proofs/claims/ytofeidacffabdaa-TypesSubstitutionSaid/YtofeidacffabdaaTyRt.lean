/-
  The reference's TypeOf, by induction over the tree. Condition: the value is a tree.
-/
import Derived.Test.YtofeidacffabdaaTyRf
namespace Go.Proofs.Ytofeidacffabdaa
open Go Go.RowKit Go.Proofs Go.Shelf
attribute [local go_sem] Oper.semAt_some

theorem not_33 {s : ByteArray} (hs : s ≠ TY.sNot) : ¬ s.toList = [33] := fun h => hs (by
  have e : s.data.toList = TY.sNot.data.toList := by rw [← Lib.toList_data]; exact h
  exact ByteArray.ext (Array.toList_inj.1 e))
set_option maxHeartbeats 8000000 in
theorem ref_any : ∀ t, RAt t := by
  intro t
  induction t using TY.Nd.ind with
  | h k n s l ih =>
  intro W hi v hv hh
  have hvo := hv.open_
  obtain ⟨A, c, vs, hvA, hvl, hlc, hcm, hlm, hss, hkd, hkids⟩ := hvo
  subst hvA
  obtain ⟨W1, hW1⟩ : ∃ U, W.alloc (.cells #[.int .i64 k, .int .i64 n, .string s, .slice A l.length c] 25) = U := ⟨_, rfl⟩
  have hb1 : Below W.heap.size W W1 := by rw [← hW1]; exact (Below.refl _ _).alloc (Nat.le_refl _) _
  have z1 : W1.heap.size = W.heap.size + 1 := by rw [← hW1, World.size_alloc]
  obtain ⟨d0, d1, d2, d3⟩ := node_cells hW1
  have HW1 := Lib.hid hW1
  have HB1 := Lib.hid hb1
  clear hW1 hb1 d1 hv
  by_cases h3 : k = 16 ∨ k = 17 ∨ k = 18
  · rw [refTy_op _ _ _ _ h3]
    have hway := way k s h3
    have hall : ((l.map TY.refTy).all fun t => decide (t = TY.refOp k s)) = l.all fun t => decide (TY.refTy t = TY.refOp k s) := by rw [List.all_map]; rfl
    rw [hall]
    clear hall
    obtain ⟨a, ha⟩ : ∃ a, TY.refOp k s = a := ⟨_, rfl⟩
    obtain ⟨r, hr⟩ : ∃ a, TY.refRes k s = a := ⟨_, rfl⟩
    rw [ha, hr] at hway
    rw [ha, hr]
    clear ha hr h3
    obtain ⟨q, hq⟩ : ∃ q, (if (l.all fun t => decide (TY.refTy t = a)) then r else 0 : Nat) = q := ⟨_, rfl⟩
    rw [hq]
    have HQ := Lib.hid hq
    clear hq
    obtain ⟨m, hm⟩ : ∃ m, l.length = m := ⟨_, rfl⟩
    have HM := Lib.hid hm
    rw [hm] at hlc hlm hvl d3 HW1 ⊢
    have HVL := Lib.hid hvl
    have HKD := Lib.hid hkd
    have HKI := Lib.hid hkids
    have HIH := Lib.hid ih
    have hlt : W.heap.size < W1.heap.size := by omega
    have B1 : Hid (Below W1.heap.size W1 W1) := Below.refl _ _
    clear hm hvl hkd hkids ih
    rcases hway with ⟨rfl, rfl, rfl⟩ | ⟨rfl, rfl, rfl, rfl⟩ | ⟨rfl, hs, rfl, rfl⟩ | ⟨rfl, hl1, hl2, rfl, rfl⟩ | ⟨rfl, hl1, hl2, rfl, rfl⟩ | ⟨rfl, hl1, hl2, rfl, rfl⟩
    · clear d2 d0
      go_enter Try.func13, Try.ntmps13
      go_wp2_with fail
      rw [HW1.out]
      go_wp2_with fail
      go_loopw [5] (fun i V => ∃ j : Nat, j ≤ m ∧ i = .int .i64 (j : Int) ∧ Hid ((l.take j).all (fun t => decide (TY.refTy t = 1)) = true) ∧ Hid (Below W1.heap.size W1 V)) (fun i _ => m - (intOf i).toNat)
      case atStart => exact ⟨0, by omega, rfl, (show (l.take 0).all (fun t => decide (TY.refTy t = 1)) = true from rfl), B1.out⟩
      case round =>
        obtain ⟨j, hj, rfl, hT, hBl⟩ := hrel
        have d3w := (hBl.out.cell (p := ⟨W.heap.size, 3, none⟩) hlt).trans d3
        have HBW : Hid (Below W.heap.size W wr) := HB1.out.trans (hBl.out.mono HB1.out.size)
        by_cases hjm : j < m
        · obtain ⟨t, ht⟩ : ∃ t, l[j]? = some t := ⟨l[j]'(by rw [HM.out]; exact hjm), List.getElem?_eq_getElem (by rw [HM.out]; exact hjm)⟩
          obtain ⟨vj, hvj⟩ : ∃ x, vs[j]? = some x := ⟨vs[j]'(by rw [HVL.out]; exact hjm), List.getElem?_eq_getElem (by rw [HVL.out]; exact hjm)⟩
          have hnv := HKI.out j t vj ht hvj
          obtain ⟨b, off, kj, nj, sj, Aj, lj, cj, rfl, hbh, rfl, c0, c1, c2', c3⟩ := HKD.out.tree hvj hnv
          have hbW : b < W.heap.size := by omega
          have e0 := (HBW.out.cell (p := ⟨b, off + j * 4, none⟩) hbW).trans c0
          have e1 := (HBW.out.cell (p := ⟨b, off + j * 4 + 1, none⟩) hbW).trans c1
          have e2 := (HBW.out.cell (p := ⟨b, off + j * 4 + 2, none⟩) hbW).trans c2'
          have e3 := (HBW.out.cell (p := ⟨b, off + j * 4 + 3, none⟩) hbW).trans c3
          have HC := Lib.hid (HIH.out t (List.mem_of_getElem? ht) wr hi _ (hnv.under (HBW.out.mono hh) (Nat.le_refl _)) (Nat.le_trans hh HBW.out.size))
          by_cases hy : TY.refTy t = 1
          · have HSN := Lib.hid (all_take_snoc (P := fun t => decide (TY.refTy t = 1)) ht hT.out (by simp [hy]))
            rw [hy] at HC
            clear hnv c0 c1 c2' c3 ht hvj hy
            go_wp2_with (first
              | (go_at_call 13; refine HC.out.mono ?_; clear HC; rintro e w5 ⟨rfl, hb5⟩; have HB5 := Lib.hid (hBl.out.trans (hb5.mono hBl.out.size)); clear hb5))
            go_roundw
            case rel => exact ⟨j + 1, by omega, by go_num, HSN.out, HB5.out⟩
            case measure => simp [intOf]; omega
          · have HN := Lib.hid (show (l.all fun t => decide (TY.refTy t = 1)) = false by
              rw [Bool.eq_false_iff]
              intro h
              have := List.all_eq_true.1 h t (List.mem_of_getElem? ht)
              rw [decide_eq_true_iff] at this
              exact hy this)
            obtain ⟨y, hyy⟩ : ∃ y, TY.refTy t = y := ⟨_, rfl⟩
            rw [hyy] at HC hy
            have hne : ((y : Int) != 1) = true := by rw [bne_iff_ne]; omega
            clear hnv c0 c1 c2' c3 ht hvj hyy
            go_wp2_with (first
              | (go_at_call 13; refine HC.out.mono ?_; clear HC; rintro e w5 ⟨rfl, hb5⟩; have HB5 := Lib.hid (HB1.out.trans ((hBl.out.trans (hb5.mono hBl.out.size)).mono HB1.out.size)); clear hb5))
            go_ret
            rw [← HQ.out, HN.out]
            exact ⟨rfl, HB5.out⟩
        · obtain rfl : j = m := by omega
          have HY := Lib.hid (show (l.all fun t => decide (TY.refTy t = 1)) = true by
            have := hT.out
            rwa [List.take_of_length_le (by rw [HM.out]; exact Nat.le_refl _)] at this)
          go_wp2_with fail
          go_ret
          rw [← HQ.out, HY.out]
          exact ⟨rfl, HBW.out⟩
    · clear d2 d0
      go_enter Try.func13, Try.ntmps13
      go_wp2_with fail
      rw [HW1.out]
      go_wp2_with fail
      go_loopw [5] (fun i V => ∃ j : Nat, j ≤ m ∧ i = .int .i64 (j : Int) ∧ Hid ((l.take j).all (fun t => decide (TY.refTy t = 2)) = true) ∧ Hid (Below W1.heap.size W1 V)) (fun i _ => m - (intOf i).toNat)
      case atStart => exact ⟨0, by omega, rfl, (show (l.take 0).all (fun t => decide (TY.refTy t = 2)) = true from rfl), B1.out⟩
      case round =>
        obtain ⟨j, hj, rfl, hT, hBl⟩ := hrel
        have d3w := (hBl.out.cell (p := ⟨W.heap.size, 3, none⟩) hlt).trans d3
        have HBW : Hid (Below W.heap.size W wr) := HB1.out.trans (hBl.out.mono HB1.out.size)
        by_cases hjm : j < m
        · obtain ⟨t, ht⟩ : ∃ t, l[j]? = some t := ⟨l[j]'(by rw [HM.out]; exact hjm), List.getElem?_eq_getElem (by rw [HM.out]; exact hjm)⟩
          obtain ⟨vj, hvj⟩ : ∃ x, vs[j]? = some x := ⟨vs[j]'(by rw [HVL.out]; exact hjm), List.getElem?_eq_getElem (by rw [HVL.out]; exact hjm)⟩
          have hnv := HKI.out j t vj ht hvj
          obtain ⟨b, off, kj, nj, sj, Aj, lj, cj, rfl, hbh, rfl, c0, c1, c2', c3⟩ := HKD.out.tree hvj hnv
          have hbW : b < W.heap.size := by omega
          have e0 := (HBW.out.cell (p := ⟨b, off + j * 4, none⟩) hbW).trans c0
          have e1 := (HBW.out.cell (p := ⟨b, off + j * 4 + 1, none⟩) hbW).trans c1
          have e2 := (HBW.out.cell (p := ⟨b, off + j * 4 + 2, none⟩) hbW).trans c2'
          have e3 := (HBW.out.cell (p := ⟨b, off + j * 4 + 3, none⟩) hbW).trans c3
          have HC := Lib.hid (HIH.out t (List.mem_of_getElem? ht) wr hi _ (hnv.under (HBW.out.mono hh) (Nat.le_refl _)) (Nat.le_trans hh HBW.out.size))
          by_cases hy : TY.refTy t = 2
          · have HSN := Lib.hid (all_take_snoc (P := fun t => decide (TY.refTy t = 2)) ht hT.out (by simp [hy]))
            rw [hy] at HC
            clear hnv c0 c1 c2' c3 ht hvj hy
            go_wp2_with (first
              | (go_at_call 13; refine HC.out.mono ?_; clear HC; rintro e w5 ⟨rfl, hb5⟩; have HB5 := Lib.hid (hBl.out.trans (hb5.mono hBl.out.size)); clear hb5))
            go_roundw
            case rel => exact ⟨j + 1, by omega, by go_num, HSN.out, HB5.out⟩
            case measure => simp [intOf]; omega
          · have HN := Lib.hid (show (l.all fun t => decide (TY.refTy t = 2)) = false by
              rw [Bool.eq_false_iff]
              intro h
              have := List.all_eq_true.1 h t (List.mem_of_getElem? ht)
              rw [decide_eq_true_iff] at this
              exact hy this)
            obtain ⟨y, hyy⟩ : ∃ y, TY.refTy t = y := ⟨_, rfl⟩
            rw [hyy] at HC hy
            have hne : ((y : Int) != 2) = true := by rw [bne_iff_ne]; omega
            clear hnv c0 c1 c2' c3 ht hvj hyy
            go_wp2_with (first
              | (go_at_call 13; refine HC.out.mono ?_; clear HC; rintro e w5 ⟨rfl, hb5⟩; have HB5 := Lib.hid (HB1.out.trans ((hBl.out.trans (hb5.mono hBl.out.size)).mono HB1.out.size)); clear hb5))
            go_ret
            rw [← HQ.out, HN.out]
            exact ⟨rfl, HB5.out⟩
        · obtain rfl : j = m := by omega
          have HY := Lib.hid (show (l.all fun t => decide (TY.refTy t = 2)) = true by
            have := hT.out
            rwa [List.take_of_length_le (by rw [HM.out]; exact Nat.le_refl _)] at this)
          go_wp2_with fail
          go_ret
          rw [← HQ.out, HY.out]
          exact ⟨rfl, HBW.out⟩
    · clear d2 d0
      have hse' := not_33 hs
      have hse : (s.toList == [33]) = false := by rw [Bool.eq_false_iff]; exact fun h => hse' (beq_iff_eq.1 h)
      clear hs
      go_enter Try.func13, Try.ntmps13
      go_wp2_with fail
      rw [HW1.out]
      go_wp2_with fail
      go_loopw [5] (fun i V => ∃ j : Nat, j ≤ m ∧ i = .int .i64 (j : Int) ∧ Hid ((l.take j).all (fun t => decide (TY.refTy t = 1)) = true) ∧ Hid (Below W1.heap.size W1 V)) (fun i _ => m - (intOf i).toNat)
      case atStart => exact ⟨0, by omega, rfl, (show (l.take 0).all (fun t => decide (TY.refTy t = 1)) = true from rfl), B1.out⟩
      case round =>
        obtain ⟨j, hj, rfl, hT, hBl⟩ := hrel
        have d3w := (hBl.out.cell (p := ⟨W.heap.size, 3, none⟩) hlt).trans d3
        have HBW : Hid (Below W.heap.size W wr) := HB1.out.trans (hBl.out.mono HB1.out.size)
        by_cases hjm : j < m
        · obtain ⟨t, ht⟩ : ∃ t, l[j]? = some t := ⟨l[j]'(by rw [HM.out]; exact hjm), List.getElem?_eq_getElem (by rw [HM.out]; exact hjm)⟩
          obtain ⟨vj, hvj⟩ : ∃ x, vs[j]? = some x := ⟨vs[j]'(by rw [HVL.out]; exact hjm), List.getElem?_eq_getElem (by rw [HVL.out]; exact hjm)⟩
          have hnv := HKI.out j t vj ht hvj
          obtain ⟨b, off, kj, nj, sj, Aj, lj, cj, rfl, hbh, rfl, c0, c1, c2', c3⟩ := HKD.out.tree hvj hnv
          have hbW : b < W.heap.size := by omega
          have e0 := (HBW.out.cell (p := ⟨b, off + j * 4, none⟩) hbW).trans c0
          have e1 := (HBW.out.cell (p := ⟨b, off + j * 4 + 1, none⟩) hbW).trans c1
          have e2 := (HBW.out.cell (p := ⟨b, off + j * 4 + 2, none⟩) hbW).trans c2'
          have e3 := (HBW.out.cell (p := ⟨b, off + j * 4 + 3, none⟩) hbW).trans c3
          have HC := Lib.hid (HIH.out t (List.mem_of_getElem? ht) wr hi _ (hnv.under (HBW.out.mono hh) (Nat.le_refl _)) (Nat.le_trans hh HBW.out.size))
          by_cases hy : TY.refTy t = 1
          · have HSN := Lib.hid (all_take_snoc (P := fun t => decide (TY.refTy t = 1)) ht hT.out (by simp [hy]))
            rw [hy] at HC
            clear hnv c0 c1 c2' c3 ht hvj hy
            go_wp2_with (first
              | (go_at_call 13; refine HC.out.mono ?_; clear HC; rintro e w5 ⟨rfl, hb5⟩; have HB5 := Lib.hid (hBl.out.trans (hb5.mono hBl.out.size)); clear hb5))
            go_roundw
            case rel => exact ⟨j + 1, by omega, by go_num, HSN.out, HB5.out⟩
            case measure => simp [intOf]; omega
          · have HN := Lib.hid (show (l.all fun t => decide (TY.refTy t = 1)) = false by
              rw [Bool.eq_false_iff]
              intro h
              have := List.all_eq_true.1 h t (List.mem_of_getElem? ht)
              rw [decide_eq_true_iff] at this
              exact hy this)
            obtain ⟨y, hyy⟩ : ∃ y, TY.refTy t = y := ⟨_, rfl⟩
            rw [hyy] at HC hy
            have hne : ((y : Int) != 1) = true := by rw [bne_iff_ne]; omega
            clear hnv c0 c1 c2' c3 ht hvj hyy
            go_wp2_with (first
              | (go_at_call 13; refine HC.out.mono ?_; clear HC; rintro e w5 ⟨rfl, hb5⟩; have HB5 := Lib.hid (HB1.out.trans ((hBl.out.trans (hb5.mono hBl.out.size)).mono HB1.out.size)); clear hb5))
            go_ret
            rw [← HQ.out, HN.out]
            exact ⟨rfl, HB5.out⟩
        · obtain rfl : j = m := by omega
          have HY := Lib.hid (show (l.all fun t => decide (TY.refTy t = 1)) = true by
            have := hT.out
            rwa [List.take_of_length_le (by rw [HM.out]; exact Nat.le_refl _)] at this)
          go_wp2_with fail
          go_ret
          rw [← HQ.out, HY.out]
          exact ⟨rfl, HBW.out⟩
    · obtain ⟨W2, hW2⟩ : ∃ U, W1.alloc (.cells #[.string TY.sAnd, .string TY.sOr] 9) = U := ⟨_, rfl⟩
      have hb2 : Below W1.heap.size W1 W2 := by rw [← hW2]; exact (Below.refl _ _).alloc (Nat.le_refl _) _
      have z2 : W2.heap.size = W.heap.size + 1 + 1 := by rw [← hW2, World.size_alloc, z1]
      have ho := World.alloc_heap_new W1 (.cells #[.string TY.sAnd, .string TY.sOr] 9)
      rw [hW2, z1] at ho
      have hst : Sts W2.heap.size W2 (some ⟨W.heap.size + 1, 0, none⟩) 2 TY.logic := Sts.of ho (by omega) rfl fun j hj => by
        match j, hj with
        | 0, _ => rfl
        | 1, _ => rfl
      have HC1 := Lib.hid (in_any W2 _ _ 2 2 _ s hst (by decide))
      have HC2 := Lib.hid (comparison_any W2 s)
      rw [hl1] at HC1
      rw [hl2] at HC2
      have d2' := (hb2.cell (p := ⟨W.heap.size, 2, none⟩) hlt).trans d2
      have d0' := (hb2.cell (p := ⟨W.heap.size, 0, none⟩) hlt).trans d0
      have d2'' : (W1.alloc (.cells #[.string TY.sAnd, .string TY.sOr] 9)).cell? ⟨W.heap.size, 2, none⟩ = some (.string s) := by rw [hW2]; exact d2'
      have HB2 := Lib.hid hb2
      have HW2 := Lib.hid hW2
      clear hst ho hb2 hW2 z2 z1 hl1 hl2
      go_enter Try.func13, Try.ntmps13
      go_wp2_with (first
        | (rw [HW1.out, HW2.out]; go_at_call 34; refine HC1.out.mono ?_; clear HC1; rintro e w2 ⟨rfl, rfl⟩)
        | (go_at_call 35; refine HC2.out.mono ?_; clear HC2; rintro e w3 ⟨rfl, hb3⟩; have B3 := Lib.hid (HB2.out.trans (hb3.mono HB2.out.size)); clear hb3))
      go_loopw [5] (fun i V => ∃ j : Nat, j ≤ m ∧ i = .int .i64 (j : Int) ∧ Hid ((l.take j).all (fun t => decide (TY.refTy t = 2)) = true) ∧ Hid (Below W1.heap.size W1 V)) (fun i _ => m - (intOf i).toNat)
      case atStart => exact ⟨0, by omega, rfl, (show (l.take 0).all (fun t => decide (TY.refTy t = 2)) = true from rfl), B3.out⟩
      case round =>
        obtain ⟨j, hj, rfl, hT, hBl⟩ := hrel
        have d3w := (hBl.out.cell (p := ⟨W.heap.size, 3, none⟩) hlt).trans d3
        have HBW : Hid (Below W.heap.size W wr) := HB1.out.trans (hBl.out.mono HB1.out.size)
        by_cases hjm : j < m
        · obtain ⟨t, ht⟩ : ∃ t, l[j]? = some t := ⟨l[j]'(by rw [HM.out]; exact hjm), List.getElem?_eq_getElem (by rw [HM.out]; exact hjm)⟩
          obtain ⟨vj, hvj⟩ : ∃ x, vs[j]? = some x := ⟨vs[j]'(by rw [HVL.out]; exact hjm), List.getElem?_eq_getElem (by rw [HVL.out]; exact hjm)⟩
          have hnv := HKI.out j t vj ht hvj
          obtain ⟨b, off, kj, nj, sj, Aj, lj, cj, rfl, hbh, rfl, c0, c1, c2', c3⟩ := HKD.out.tree hvj hnv
          have hbW : b < W.heap.size := by omega
          have e0 := (HBW.out.cell (p := ⟨b, off + j * 4, none⟩) hbW).trans c0
          have e1 := (HBW.out.cell (p := ⟨b, off + j * 4 + 1, none⟩) hbW).trans c1
          have e2 := (HBW.out.cell (p := ⟨b, off + j * 4 + 2, none⟩) hbW).trans c2'
          have e3 := (HBW.out.cell (p := ⟨b, off + j * 4 + 3, none⟩) hbW).trans c3
          have HC := Lib.hid (HIH.out t (List.mem_of_getElem? ht) wr hi _ (hnv.under (HBW.out.mono hh) (Nat.le_refl _)) (Nat.le_trans hh HBW.out.size))
          by_cases hy : TY.refTy t = 2
          · have HSN := Lib.hid (all_take_snoc (P := fun t => decide (TY.refTy t = 2)) ht hT.out (by simp [hy]))
            rw [hy] at HC
            clear hnv c0 c1 c2' c3 ht hvj hy
            go_wp2_with (first
              | (go_at_call 13; refine HC.out.mono ?_; clear HC; rintro e w5 ⟨rfl, hb5⟩; have HB5 := Lib.hid (hBl.out.trans (hb5.mono hBl.out.size)); clear hb5))
            go_roundw
            case rel => exact ⟨j + 1, by omega, by go_num, HSN.out, HB5.out⟩
            case measure => simp [intOf]; omega
          · have HN := Lib.hid (show (l.all fun t => decide (TY.refTy t = 2)) = false by
              rw [Bool.eq_false_iff]
              intro h
              have := List.all_eq_true.1 h t (List.mem_of_getElem? ht)
              rw [decide_eq_true_iff] at this
              exact hy this)
            obtain ⟨y, hyy⟩ : ∃ y, TY.refTy t = y := ⟨_, rfl⟩
            rw [hyy] at HC hy
            have hne : ((y : Int) != 2) = true := by rw [bne_iff_ne]; omega
            clear hnv c0 c1 c2' c3 ht hvj hyy
            go_wp2_with (first
              | (go_at_call 13; refine HC.out.mono ?_; clear HC; rintro e w5 ⟨rfl, hb5⟩; have HB5 := Lib.hid (HB1.out.trans ((hBl.out.trans (hb5.mono hBl.out.size)).mono HB1.out.size)); clear hb5))
            go_ret
            rw [← HQ.out, HN.out]
            exact ⟨rfl, HB5.out⟩
        · obtain rfl : j = m := by omega
          have HY := Lib.hid (show (l.all fun t => decide (TY.refTy t = 2)) = true by
            have := hT.out
            rwa [List.take_of_length_le (by rw [HM.out]; exact Nat.le_refl _)] at this)
          go_wp2_with fail
          go_ret
          rw [← HQ.out, HY.out]
          exact ⟨rfl, HBW.out⟩
    · obtain ⟨W2, hW2⟩ : ∃ U, W1.alloc (.cells #[.string TY.sAnd, .string TY.sOr] 9) = U := ⟨_, rfl⟩
      have hb2 : Below W1.heap.size W1 W2 := by rw [← hW2]; exact (Below.refl _ _).alloc (Nat.le_refl _) _
      have z2 : W2.heap.size = W.heap.size + 1 + 1 := by rw [← hW2, World.size_alloc, z1]
      have ho := World.alloc_heap_new W1 (.cells #[.string TY.sAnd, .string TY.sOr] 9)
      rw [hW2, z1] at ho
      have hst : Sts W2.heap.size W2 (some ⟨W.heap.size + 1, 0, none⟩) 2 TY.logic := Sts.of ho (by omega) rfl fun j hj => by
        match j, hj with
        | 0, _ => rfl
        | 1, _ => rfl
      have HC1 := Lib.hid (in_any W2 _ _ 2 2 _ s hst (by decide))
      have HC2 := Lib.hid (comparison_any W2 s)
      rw [hl1] at HC1
      rw [hl2] at HC2
      have d2' := (hb2.cell (p := ⟨W.heap.size, 2, none⟩) hlt).trans d2
      have d0' := (hb2.cell (p := ⟨W.heap.size, 0, none⟩) hlt).trans d0
      have d2'' : (W1.alloc (.cells #[.string TY.sAnd, .string TY.sOr] 9)).cell? ⟨W.heap.size, 2, none⟩ = some (.string s) := by rw [hW2]; exact d2'
      have HB2 := Lib.hid hb2
      have HW2 := Lib.hid hW2
      clear hst ho hb2 hW2 z2 z1 hl1 hl2
      go_enter Try.func13, Try.ntmps13
      go_wp2_with (first
        | (rw [HW1.out, HW2.out]; go_at_call 34; refine HC1.out.mono ?_; clear HC1; rintro e w2 ⟨rfl, rfl⟩)
        | (go_at_call 35; refine HC2.out.mono ?_; clear HC2; rintro e w3 ⟨rfl, hb3⟩; have B3 := Lib.hid (HB2.out.trans (hb3.mono HB2.out.size)); clear hb3))
      go_loopw [5] (fun i V => ∃ j : Nat, j ≤ m ∧ i = .int .i64 (j : Int) ∧ Hid ((l.take j).all (fun t => decide (TY.refTy t = 1)) = true) ∧ Hid (Below W1.heap.size W1 V)) (fun i _ => m - (intOf i).toNat)
      case atStart => exact ⟨0, by omega, rfl, (show (l.take 0).all (fun t => decide (TY.refTy t = 1)) = true from rfl), B3.out⟩
      case round =>
        obtain ⟨j, hj, rfl, hT, hBl⟩ := hrel
        have d3w := (hBl.out.cell (p := ⟨W.heap.size, 3, none⟩) hlt).trans d3
        have HBW : Hid (Below W.heap.size W wr) := HB1.out.trans (hBl.out.mono HB1.out.size)
        by_cases hjm : j < m
        · obtain ⟨t, ht⟩ : ∃ t, l[j]? = some t := ⟨l[j]'(by rw [HM.out]; exact hjm), List.getElem?_eq_getElem (by rw [HM.out]; exact hjm)⟩
          obtain ⟨vj, hvj⟩ : ∃ x, vs[j]? = some x := ⟨vs[j]'(by rw [HVL.out]; exact hjm), List.getElem?_eq_getElem (by rw [HVL.out]; exact hjm)⟩
          have hnv := HKI.out j t vj ht hvj
          obtain ⟨b, off, kj, nj, sj, Aj, lj, cj, rfl, hbh, rfl, c0, c1, c2', c3⟩ := HKD.out.tree hvj hnv
          have hbW : b < W.heap.size := by omega
          have e0 := (HBW.out.cell (p := ⟨b, off + j * 4, none⟩) hbW).trans c0
          have e1 := (HBW.out.cell (p := ⟨b, off + j * 4 + 1, none⟩) hbW).trans c1
          have e2 := (HBW.out.cell (p := ⟨b, off + j * 4 + 2, none⟩) hbW).trans c2'
          have e3 := (HBW.out.cell (p := ⟨b, off + j * 4 + 3, none⟩) hbW).trans c3
          have HC := Lib.hid (HIH.out t (List.mem_of_getElem? ht) wr hi _ (hnv.under (HBW.out.mono hh) (Nat.le_refl _)) (Nat.le_trans hh HBW.out.size))
          by_cases hy : TY.refTy t = 1
          · have HSN := Lib.hid (all_take_snoc (P := fun t => decide (TY.refTy t = 1)) ht hT.out (by simp [hy]))
            rw [hy] at HC
            clear hnv c0 c1 c2' c3 ht hvj hy
            go_wp2_with (first
              | (go_at_call 13; refine HC.out.mono ?_; clear HC; rintro e w5 ⟨rfl, hb5⟩; have HB5 := Lib.hid (hBl.out.trans (hb5.mono hBl.out.size)); clear hb5))
            go_roundw
            case rel => exact ⟨j + 1, by omega, by go_num, HSN.out, HB5.out⟩
            case measure => simp [intOf]; omega
          · have HN := Lib.hid (show (l.all fun t => decide (TY.refTy t = 1)) = false by
              rw [Bool.eq_false_iff]
              intro h
              have := List.all_eq_true.1 h t (List.mem_of_getElem? ht)
              rw [decide_eq_true_iff] at this
              exact hy this)
            obtain ⟨y, hyy⟩ : ∃ y, TY.refTy t = y := ⟨_, rfl⟩
            rw [hyy] at HC hy
            have hne : ((y : Int) != 1) = true := by rw [bne_iff_ne]; omega
            clear hnv c0 c1 c2' c3 ht hvj hyy
            go_wp2_with (first
              | (go_at_call 13; refine HC.out.mono ?_; clear HC; rintro e w5 ⟨rfl, hb5⟩; have HB5 := Lib.hid (HB1.out.trans ((hBl.out.trans (hb5.mono hBl.out.size)).mono HB1.out.size)); clear hb5))
            go_ret
            rw [← HQ.out, HN.out]
            exact ⟨rfl, HB5.out⟩
        · obtain rfl : j = m := by omega
          have HY := Lib.hid (show (l.all fun t => decide (TY.refTy t = 1)) = true by
            have := hT.out
            rwa [List.take_of_length_le (by rw [HM.out]; exact Nat.le_refl _)] at this)
          go_wp2_with fail
          go_ret
          rw [← HQ.out, HY.out]
          exact ⟨rfl, HBW.out⟩
    · obtain ⟨W2, hW2⟩ : ∃ U, W1.alloc (.cells #[.string TY.sAnd, .string TY.sOr] 9) = U := ⟨_, rfl⟩
      have hb2 : Below W1.heap.size W1 W2 := by rw [← hW2]; exact (Below.refl _ _).alloc (Nat.le_refl _) _
      have z2 : W2.heap.size = W.heap.size + 1 + 1 := by rw [← hW2, World.size_alloc, z1]
      have ho := World.alloc_heap_new W1 (.cells #[.string TY.sAnd, .string TY.sOr] 9)
      rw [hW2, z1] at ho
      have hst : Sts W2.heap.size W2 (some ⟨W.heap.size + 1, 0, none⟩) 2 TY.logic := Sts.of ho (by omega) rfl fun j hj => by
        match j, hj with
        | 0, _ => rfl
        | 1, _ => rfl
      have HC1 := Lib.hid (in_any W2 _ _ 2 2 _ s hst (by decide))
      have HC2 := Lib.hid (comparison_any W2 s)
      rw [hl1] at HC1
      rw [hl2] at HC2
      have d2' := (hb2.cell (p := ⟨W.heap.size, 2, none⟩) hlt).trans d2
      have d0' := (hb2.cell (p := ⟨W.heap.size, 0, none⟩) hlt).trans d0
      have d2'' : (W1.alloc (.cells #[.string TY.sAnd, .string TY.sOr] 9)).cell? ⟨W.heap.size, 2, none⟩ = some (.string s) := by rw [hW2]; exact d2'
      have HB2 := Lib.hid hb2
      have HW2 := Lib.hid hW2
      clear hst ho hb2 hW2 z2 z1 hl1 hl2
      go_enter Try.func13, Try.ntmps13
      go_wp2_with (first
        | (rw [HW1.out, HW2.out]; go_at_call 34; refine HC1.out.mono ?_; clear HC1; rintro e w2 ⟨rfl, rfl⟩)
        | (go_at_call 35; refine HC2.out.mono ?_; clear HC2; rintro e w3 ⟨rfl, hb3⟩; have B3 := Lib.hid (HB2.out.trans (hb3.mono HB2.out.size)); clear hb3))
      go_loopw [5] (fun i V => ∃ j : Nat, j ≤ m ∧ i = .int .i64 (j : Int) ∧ Hid ((l.take j).all (fun t => decide (TY.refTy t = 1)) = true) ∧ Hid (Below W1.heap.size W1 V)) (fun i _ => m - (intOf i).toNat)
      case atStart => exact ⟨0, by omega, rfl, (show (l.take 0).all (fun t => decide (TY.refTy t = 1)) = true from rfl), B3.out⟩
      case round =>
        obtain ⟨j, hj, rfl, hT, hBl⟩ := hrel
        have d3w := (hBl.out.cell (p := ⟨W.heap.size, 3, none⟩) hlt).trans d3
        have HBW : Hid (Below W.heap.size W wr) := HB1.out.trans (hBl.out.mono HB1.out.size)
        by_cases hjm : j < m
        · obtain ⟨t, ht⟩ : ∃ t, l[j]? = some t := ⟨l[j]'(by rw [HM.out]; exact hjm), List.getElem?_eq_getElem (by rw [HM.out]; exact hjm)⟩
          obtain ⟨vj, hvj⟩ : ∃ x, vs[j]? = some x := ⟨vs[j]'(by rw [HVL.out]; exact hjm), List.getElem?_eq_getElem (by rw [HVL.out]; exact hjm)⟩
          have hnv := HKI.out j t vj ht hvj
          obtain ⟨b, off, kj, nj, sj, Aj, lj, cj, rfl, hbh, rfl, c0, c1, c2', c3⟩ := HKD.out.tree hvj hnv
          have hbW : b < W.heap.size := by omega
          have e0 := (HBW.out.cell (p := ⟨b, off + j * 4, none⟩) hbW).trans c0
          have e1 := (HBW.out.cell (p := ⟨b, off + j * 4 + 1, none⟩) hbW).trans c1
          have e2 := (HBW.out.cell (p := ⟨b, off + j * 4 + 2, none⟩) hbW).trans c2'
          have e3 := (HBW.out.cell (p := ⟨b, off + j * 4 + 3, none⟩) hbW).trans c3
          have HC := Lib.hid (HIH.out t (List.mem_of_getElem? ht) wr hi _ (hnv.under (HBW.out.mono hh) (Nat.le_refl _)) (Nat.le_trans hh HBW.out.size))
          by_cases hy : TY.refTy t = 1
          · have HSN := Lib.hid (all_take_snoc (P := fun t => decide (TY.refTy t = 1)) ht hT.out (by simp [hy]))
            rw [hy] at HC
            clear hnv c0 c1 c2' c3 ht hvj hy
            go_wp2_with (first
              | (go_at_call 13; refine HC.out.mono ?_; clear HC; rintro e w5 ⟨rfl, hb5⟩; have HB5 := Lib.hid (hBl.out.trans (hb5.mono hBl.out.size)); clear hb5))
            go_roundw
            case rel => exact ⟨j + 1, by omega, by go_num, HSN.out, HB5.out⟩
            case measure => simp [intOf]; omega
          · have HN := Lib.hid (show (l.all fun t => decide (TY.refTy t = 1)) = false by
              rw [Bool.eq_false_iff]
              intro h
              have := List.all_eq_true.1 h t (List.mem_of_getElem? ht)
              rw [decide_eq_true_iff] at this
              exact hy this)
            obtain ⟨y, hyy⟩ : ∃ y, TY.refTy t = y := ⟨_, rfl⟩
            rw [hyy] at HC hy
            have hne : ((y : Int) != 1) = true := by rw [bne_iff_ne]; omega
            clear hnv c0 c1 c2' c3 ht hvj hyy
            go_wp2_with (first
              | (go_at_call 13; refine HC.out.mono ?_; clear HC; rintro e w5 ⟨rfl, hb5⟩; have HB5 := Lib.hid (HB1.out.trans ((hBl.out.trans (hb5.mono hBl.out.size)).mono HB1.out.size)); clear hb5))
            go_ret
            rw [← HQ.out, HN.out]
            exact ⟨rfl, HB5.out⟩
        · obtain rfl : j = m := by omega
          have HY := Lib.hid (show (l.all fun t => decide (TY.refTy t = 1)) = true by
            have := hT.out
            rwa [List.take_of_length_le (by rw [HM.out]; exact Nat.le_refl _)] at this)
          go_wp2_with fail
          go_ret
          rw [← HQ.out, HY.out]
          exact ⟨rfl, HBW.out⟩
  by_cases h12 : k = 12 ∨ k = 14 ∨ k = 15
  · rw [refTy_lit _ _ _ _ h12]
    clear ih hkids hkd h3 d0 d2 d3
    rcases h12 with rfl | rfl | rfl
    all_goals
      go_enter Try.func13, Try.ntmps13
      go_wp2_with fail
      go_ret
      rw [HW1.out]
      exact ⟨rfl, HB1.out⟩
  by_cases h13 : k = 13
  · subst h13
    rw [refTy_13]
    clear ih hkids hkd h3 d0 d2 d3
    go_enter Try.func13, Try.ntmps13
    go_wp2_with fail
    go_ret
    rw [HW1.out]
    exact ⟨rfl, HB1.out⟩
  rw [refTy_out _ _ _ _ h12 h13 h3]
  have e12 : (k == 12) = false := by simp; omega
  have e13 : (k == 13) = false := by simp; omega
  have e14 : (k == 14) = false := by simp; omega
  have e15 : (k == 15) = false := by simp; omega
  have e16 : (k != 16) = true := by simp; omega
  have e17 : (k != 17) = true := by simp; omega
  have e18 : (k != 18) = true := by simp; omega
  clear ih hkids hkd h3 h12 h13 d0 d2 d3
  go_enter Try.func13, Try.ntmps13
  go_wp2_with fail
  go_ret
  rw [HW1.out]
  exact ⟨rfl, HB1.out⟩
end Go.Proofs.Ytofeidacffabdaa
