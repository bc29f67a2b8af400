/-
  The contract of IsLinear. Condition: at most 8 elements.
-/
import Derived.Test.YtlgdcbhdmffnoaaDoorK10

namespace Go.Proofs.YtlgdcbhdmffnoaaDoor
open Go Go.RowKit Go.Proofs

theorem isLin_no {R : List Nat} {l : List Int} {j : Nat} (hj : j < l.length) (h : PO.okAt R l j = false) : PO.isLinI R l = false := by
  cases hb : PO.isLinI R l with
  | false => rfl
  | true =>
    unfold PO.isLinI at hb
    rw [Bool.and_eq_true, List.all_eq_true] at hb
    rw [hb.2 j (List.mem_range.2 hj)] at h
    cases h
theorem isLin_yes {R : List Nat} {l : List Int} (hl : l.length = R.length) (h : PO.okTo R l l.length = true) : PO.isLinI R l = true := by
  unfold PO.isLinI
  rw [decide_eq_true hl]
  exact h
theorem okAt_el {R : List Nat} {l : List Int} {j : Nat} (h : PO.isEl R.length (l[j]?.getD 0) = false) : PO.okAt R l j = false := by
  unfold PO.okAt
  rw [h]
  rfl
set_option maxRecDepth 100000 in
set_option maxHeartbeats 8000000 in
theorem isLinear_any {w : World} {hi p : Nat} {R : List Nat} (h : Od w hi p R) (hR : R.length ≤ 8) (hs : PO.Small R) (hlo : hi ≤ w.heap.size) (A : Option Addr) (m c : Nat) (zs : List Int) (hI : Ints .i64 w.heap.size w A m zs) :
    Calls Tryd.prog 31 #[.pointer (some ⟨p, 0, none⟩), .slice A m c] w fun e w' => e = .returned (.bool (PO.isLinI R zs)) ∧ Below w.heap.size w w' := by
  have hzl := hI.len
  have HI := Lib.hid hI
  have HO := Lib.hid (h.more hlo)
  have HS := Lib.hid hs
  obtain ⟨n, hne⟩ : ∃ n, R.length = n := ⟨_, rfl⟩
  obtain ⟨k, hk⟩ : ∃ k, wk n = k := ⟨_, rfl⟩
  have HLN := Lib.hid (len_any h)
  have hn8 : n ≤ 8 := by omega
  have HNS := Lib.hid (newSet_any n k hn8 hk w)
  have HRN := Lib.hid hne
  rw [hne] at HLN
  by_cases hml : m = n
  · have hk1 : k ≤ 1 := by rw [← hk]; exact wk_le n
    obtain ⟨w1, hw1⟩ : ∃ W, w.alloc (.cells (Array.replicate k (.int .u64 0)) 78) = W := ⟨_, rfl⟩
    have hb1 : Below w.heap.size w w1 := by rw [← hw1]; exact (Below.refl _ _).alloc (Nat.le_refl _) _
    have hs1 : Sw w1 k w.heap.size 0 := ⟨hk1, fun _ => rfl, by rw [← hw1]; exact World.alloc_heap_new w _⟩
    have hsz1 : w1.heap.size = w.heap.size + 1 := by rw [← hw1]; simp
    have HW1 := Lib.hid hw1
    have HB1 := Lib.hid hb1
    have HS1 := Lib.hid hs1
    have hmn : ((m : Int) == (n : Int)) = true := by simp [hml]
    have HML := Lib.hid hml
    have hm8 : m ≤ 8 := by omega
    clear hI hs hne hw1 hb1 hs1 h hR hml
    go_enter Tryd.func31, Tryd.ntmps31
    go_wp2_with (first
      | (go_at_call 22; refine HLN.out.mono ?_; rintro e w' ⟨rfl, rfl⟩)
      | (go_at_call 41; refine HNS.out.mono ?_; rintro e w' ⟨rfl, e'⟩; rw [HW1.out] at e'; subst e'))
    obtain ⟨w1, hww⟩ : ∃ W, W = w' := ⟨_, rfl⟩
    subst hww
    go_loopw [18] (fun i V => ∃ j : Nat, j ≤ m ∧ i = .int .i64 (j : Int) ∧ Hid (PO.okTo R zs j = true) ∧ Hid (Sw V k w.heap.size (PO.preM zs j)) ∧ Hid (Below w.heap.size w V)) (fun i _ => m - (intOf i).toNat)
    case atStart => exact ⟨0, Nat.zero_le _, rfl, (show PO.okTo R zs 0 = true from rfl), HS1.out, HB1.out⟩
    case round =>
      obtain ⟨j, hj, rfl, hok, hsw, hB⟩ := hrel
      by_cases hlt : j < m
      · obtain ⟨b, off, rfl, hbl, hcs⟩ := HI.out.at_ (by omega)
        have hcz : wr.cell? ⟨b, off + j, none⟩ = some (.int .i64 (zs[j]?.getD 0)) := (hB.out.cell (p := ⟨b, off + j, none⟩) hbl).trans (hcs j hlt)
        have hgz : zs[j]? = some (zs[j]?.getD 0) := by rw [List.getElem?_eq_getElem (by omega)]; rfl
        have hno := isLin_no (R := R) (l := zs) (j := j) (by omega)
        have hel0 := okAt_el (R := R) (l := zs) (j := j)
        obtain ⟨z, hz⟩ : ∃ z, zs[j]?.getD 0 = z := ⟨_, rfl⟩
        rw [hz] at hcz hgz hel0
        have hel := hasEl_any (HO.out.below hB.out) z
        rw [HRN.out] at hel
        have HEL := Lib.hid hel
        clear hz hcs hel
        cases hb : PO.isEl n z with
        | false =>
          have HNO := Lib.hid (hno (hel0 (by rw [HRN.out]; exact hb)))
          rw [hb] at HEL
          clear hb hno hel0 hgz
          go_wp2_with (go_at_call 42; refine HEL.out.mono ?_; rintro e w' ⟨rfl, rfl⟩)
          go_ret
          rw [HNO.out]
          exact ⟨rfl, hB.out⟩
        | true =>
          obtain ⟨x, rfl, hx⟩ := PO.isEl_iff.1 hb
          rw [hb] at HEL
          obtain rfl : k = 1 := by rw [← hk]; exact wk_pos (by omega)
          have hpl := PO.preM_lt hok.out
          rw [HRN.out] at hpl
          have hp8 := lt256 hpl hn8
          have hod := HO.out.below hB.out
          obtain ⟨ga, ws, hc0, hab⟩ := hod.cell
          rw [HRN.out] at hc0
          obtain ⟨g, _, hcg, hsg, _⟩ := hab.at_ (i := x) (by rw [HRN.out]; exact hx)
          have hr8 : PO.rw_ R x < 256 := lt256 (PO.rw_lt HS.out.2 x) (by rw [HRN.out]; exact hn8)
          have HH := Lib.hid (has_any w.heap.size (PO.preM zs j) x wr hsw.out (by omega) hp8)
          have HM := Lib.hid (meets_any w.heap.size (PO.preM zs j) g (PO.rw_ R x) wr hsw.out hsg hp8 hr8)
          have HADD := Lib.hid (add_any w.heap.size (PO.preM zs j) x wr hsw.out (by omega) hp8)
          have hat := PO.okAt_iff hok.out hgz (by rw [HRN.out]; exact hx)
          have hsu := PO.preM_succ hgz
          have hoks := PO.okTo_succ R zs j
          rw [hok.out] at hoks
          have hde : decide (PO.preM zs j &&& PO.rw_ R x = 0) = !decide (PO.preM zs j &&& PO.rw_ R x ≠ 0) := by simp
          rw [hde] at hat
          obtain ⟨b1, hb1⟩ : ∃ b, (PO.preM zs j).testBit x = b := ⟨_, rfl⟩
          obtain ⟨b2, hb2⟩ : ∃ b, decide (PO.preM zs j &&& PO.rw_ R x ≠ 0) = b := ⟨_, rfl⟩
          rw [hb1] at HH hat
          rw [hb2] at HM hat
          have HSU := Lib.hid hsu
          clear hb1 hb2 hab hsg hod hr8 hp8 hpl hde hel0 hb hgz hsu
          cases b1 with
          | true =>
            have HNO := Lib.hid (hno hat)
            clear hno hat hoks
            go_wp2_with (first
              | (go_at_call 42; refine HEL.out.mono ?_; rintro e w' ⟨rfl, rfl⟩)
              | (go_at_call 46; refine HH.out.mono ?_; rintro e w' ⟨rfl, rfl⟩))
            go_ret
            rw [HNO.out]
            exact ⟨rfl, hB.out⟩
          | false =>
            cases b2 with
            | true =>
              have HNO := Lib.hid (hno hat)
              clear hno hat hoks
              go_wp2_with (first
                | (go_at_call 42; refine HEL.out.mono ?_; rintro e w' ⟨rfl, rfl⟩)
                | (go_at_call 46; refine HH.out.mono ?_; rintro e w' ⟨rfl, rfl⟩)
                | (go_at_call 50; refine HM.out.mono ?_; rintro e w' ⟨rfl, rfl⟩))
              go_ret
              rw [HNO.out]
              exact ⟨rfl, hB.out⟩
            | false =>
              have HOK := Lib.hid (show PO.okTo R zs (j + 1) = true by rw [hoks, hat]; rfl)
              clear hno hat hoks
              go_wp2_with (first
                | (go_at_call 42; refine HEL.out.mono ?_; rintro e w' ⟨rfl, rfl⟩)
                | (go_at_call 46; refine HH.out.mono ?_; rintro e w' ⟨rfl, rfl⟩)
                | (go_at_call 50; refine HM.out.mono ?_; rintro e w' ⟨rfl, rfl⟩)
                | (go_at_call 43; refine HADD.out.mono ?_; rintro e w' ⟨⟨v, rfl⟩, rfl⟩))
              go_roundw
              case rel => exact ⟨j + 1, by omega, by go_num, HOK.out, by rw [HSU.out]; exact (hsw.out.set).keep rfl, ((hB.out.setCell (p := ⟨w.heap.size, 0, none⟩) (Nat.le_refl _) _).drew)⟩
              case measure => simp [intOf]; omega
      · obtain rfl : m = j := by omega
        have HY := Lib.hid (isLin_yes (R := R) (l := zs) (by rw [HRN.out]; have := HML.out; omega) (by rw [hzl]; exact hok.out))
        clear hsw hok
        go_wp2_with fail
        go_ret
        rw [HY.out]
        exact ⟨rfl, hB.out⟩
  · have hmn : ((m : Int) == (n : Int)) = false := by simp; omega
    have HNO := Lib.hid (show PO.isLinI R zs = false by unfold PO.isLinI; rw [decide_eq_false (by rw [hne]; omega)]; rfl)
    clear hI hs hne h hR
    go_enter Tryd.func31, Tryd.ntmps31
    go_wp2_with (go_at_call 22; refine HLN.out.mono ?_; rintro e w' ⟨rfl, rfl⟩)
    go_ret
    rw [HNO.out]
    exact ⟨rfl, Below.refl _ _⟩
end Go.Proofs.YtlgdcbhdmffnoaaDoor
