/-
  The contract of the reference's Less: by its matrix. Condition: the first element is one of the order.
  The contract of the reference's Down: by its matrix. Conditions: at most 8 elements, at most 1000 members of the list.
  Down, as sets: the reference's is the program's, it is idempotent, and joins go over to joins.
-/
import Derived.Test.YtlgdcbhdmffnoaaDoorK14
import Derived.BigQuiet
import Derived.Deep.QuietTactic
import Derived.Test.YtlgdcbhdmffnoaaDoorK10
import Derived.Deep.RegionWith

namespace Go.Proofs.YtlgdcbhdmffnoaaDoor
open Go Go.RowKit Go.Proofs

/-- Less by a matrix, at any integer. -/
def lssM (k : Nat) (M : Nat → Nat → Bool) (a : Nat) (z : Int) : Bool := decide (0 ≤ z) && decide (z < (k : Int)) && M a z.toNat
set_option maxRecDepth 100000 in
set_option maxHeartbeats 2000000 in
theorem refLess_any (W : World) (lo k : Nat) (A : Option Addr) (c : Nat) (gs : List Nat) (M : Nat → Nat → Bool) (hmx : Mx W lo (.slice A k c) k k gs M) (hk : k ≤ 1000) (a : Nat) (ha : a < k) (z : Int) :
    Calls Tryd.prog 19 #[.agg #[.int .i64 (k : Int), .slice A k c], .int .i64 (a : Int), .int .i64 z] W fun e w' => e = .returned (.bool (lssM k M a z)) ∧ Below W.heap.size W w' := by
  have HB1 := Lib.hid (show Below W.heap.size W (W.alloc (.cells #[.int .i64 (k : Int), .slice A k c] 33)) from (Below.refl _ _).alloc (Nat.le_refl _) _)
  have ha0 : decide ((a : Int) < 0) = false := decide_eq_false (by omega)
  have hak : decide ((k : Int) ≤ (a : Int)) = false := decide_eq_false (by omega)
  have hak' : decide (k ≤ a) = false := decide_eq_false (by omega)
  by_cases hz : 0 ≤ z
  · obtain ⟨y, rfl⟩ := Int.eq_ofNat_of_zero_le hz
    have hz0 : decide ((y : Int) < 0) = false := decide_eq_false (by omega)
    by_cases hzk : y < k
    · have hyk : decide ((k : Int) ≤ (y : Int)) = false := decide_eq_false (by omega)
      have hyk' : decide (k ≤ y) = false := decide_eq_false (by omega)
      have HE := Lib.hid (show lssM k M a (y : Int) = M a y by unfold lssM; rw [decide_eq_true hz, decide_eq_true (by omega)]; rfl)
      have HM := Lib.hid (hmx.below HB1.out)
      obtain ⟨gm, cm, hv, _, _⟩ := hmx.form (by omega)
      injection hv with hA _ hc
      subst hA hc
      obtain ⟨g, hg, hcg⟩ := HM.out.cell (i := a) ha
      have hbit := HM.out.bit hg hzk
      clear hz hg hmx HM
      go_enter Tryd.func19, Tryd.ntmps19
      go_wp2_with fail
      go_ret
      exact ⟨by rw [HE.out]; rfl, HB1.out⟩
    · have hyk : decide ((k : Int) ≤ (y : Int)) = true := decide_eq_true (by omega)
      have hyk' : decide (k ≤ y) = true := decide_eq_true (by omega)
      have HE := Lib.hid (show lssM k M a (y : Int) = false by unfold lssM; rw [decide_eq_true hz, decide_eq_false (by omega)]; rfl)
      clear hz
      go_enter Tryd.func19, Tryd.ntmps19
      go_wp2_with fail
      go_ret
      exact ⟨by rw [HE.out]; rfl, HB1.out⟩
  · have hz0 : decide (z < 0) = true := decide_eq_true (by omega)
    have HE := Lib.hid (show lssM k M a z = false by unfold lssM; rw [decide_eq_false (by omega)]; rfl)
    go_enter Tryd.func19, Tryd.ntmps19
    go_wp2_with fail
    go_ret
    exact ⟨by rw [HE.out]; rfl, HB1.out⟩
end Go.Proofs.YtlgdcbhdmffnoaaDoor

namespace Go.Proofs.YtlgdcbhdmffnoaaDoor
open Go Go.RowKit Go.Proofs

/-- A member of a list decides that a lies below it. -/
def dnM (k : Nat) (M : Nat → Nat → Bool) (l : List Int) (a : Nat) : Bool := l.any fun z => decide (z = (a : Int)) || lssM k M a z
theorem dnM_take {k a j : Nat} {M : Nat → Nat → Bool} {l : List Int} (h : j < l.length) : dnM k M (l.take (j + 1)) a = (dnM k M (l.take j) a || (decide (l[j]?.getD 0 = (a : Int)) || lssM k M a (l[j]?.getD 0))) := by
  rw [ints_take h]
  unfold dnM
  rw [List.any_append]
  simp
set_option maxRecDepth 100000 in
set_option maxHeartbeats 4000000 in
theorem refDown_any (w : World) (lo k : Nat) (A : Option Addr) (c : Nat) (gs : List Nat) (M : Nat → Nat → Bool) (hmx : Mx w lo (.slice A k c) k k gs M) (hk : k ≤ 8) (B : Option Addr) (m d : Nat) (zs : List Int) (hI : Ints .i64 w.heap.size w B m zs) (hm : m ≤ 1000) :
    Calls Tryd.prog 37 #[.agg #[.int .i64 (k : Int), .slice A k c], .slice B m d] w fun e w' => ∃ v, e = .returned v ∧ Own w' w.heap.size v ((List.range k).filter (dnM k M zs)) ∧ Below w.heap.size w w' := by
  have hzl := hI.len
  obtain ⟨i0, hi0, hz0, hz1, hz2⟩ := info_parts info_int
  obtain ⟨w1, hw1⟩ : ∃ V, w.alloc (.cells #[.int .i64 (k : Int), .slice A k c] 33) = V := ⟨_, rfl⟩
  have hb1 : Below w.heap.size w w1 := by rw [← hw1]; exact (Below.refl _ _).alloc (Nat.le_refl _) _
  have ho1 : OB w1 w.heap.size k (.slice A k c) := by rw [← hw1]; exact World.alloc_heap_new w _
  have hs1 : w1.heap.size = w.heap.size + 1 := by rw [← hw1]; simp
  have HM := Lib.hid (hmx.below hb1)
  have HI := Lib.hid ((hI.below hb1).more hb1.size)
  have HO := Lib.hid ho1
  have HW1 := Lib.hid hw1
  have HB1 := Lib.hid hb1
  clear hmx hI hw1 hb1 ho1
  go_enter Tryd.func37, Tryd.ntmps37
  go_wp2_with fail
  rw [HW1.out]
  go_loopw [5, 6] (fun ov i V => ∃ a : Nat, a ≤ k ∧ i = .int .i64 (a : Int) ∧ Hid (Own V w1.heap.size ov ((List.range a).filter (dnM k M zs))) ∧ Hid (Below w1.heap.size w1 V)) (fun _ i _ => k - (intOf i).toNat)
  case atStart => exact ⟨0, Nat.zero_le _, rfl, Own.nil _ _, Below.refl _ _⟩
  case round =>
    obtain ⟨a, ha, rfl, ho, hB⟩ := hrel
    obtain ⟨ov, hov⟩ : ∃ O, O = u5 := ⟨_, rfl⟩
    subst hov
    obtain ⟨oA, oc, hov, _, _⟩ := ho.out.slice
    subst hov
    have hOB := (hB.out.block _ (by omega)).trans HO.out
    obtain ⟨c0, c1, _, _⟩ := OB.facts (show OB wr w.heap.size k (.slice A k c) from hOB)
    by_cases hlt : a < k
    · have hfl := range_filter (dnM k M zs) a
      obtain ⟨L, hL⟩ : ∃ L, (List.range a).filter (dnM k M zs) = L := ⟨_, rfl⟩
      rw [hL] at ho hfl ⊢
      obtain ⟨wo, hwo⟩ : ∃ W, W = wr := ⟨_, rfl⟩
      subst hwo
      have hso := hB.out.size
      go_wp2_with fail
      go_loopw [7, 8] (fun bv i V => ∃ j : Nat, j ≤ m ∧ i = .int .i64 (j : Int) ∧ bv = .bool (dnM k M (zs.take j) a) ∧ Hid (Below wo.heap.size wo V)) (fun _ i _ => m - (intOf i).toNat)
      case atStart => exact ⟨0, Nat.zero_le _, rfl, rfl, Below.refl _ _⟩
      case round =>
        obtain ⟨j, hj, rfl, hbv, hV⟩ := hrel
        obtain ⟨bv, hbvv⟩ : ∃ O, O = u7 := ⟨_, rfl⟩
        subst hbvv
        subst hbv
        have hBr : Below w1.heap.size w1 wr := hB.out.trans (hV.out.mono hso)
        have hOBr : OB wr w.heap.size k (.slice A k c) := (hBr.block _ (by omega)).trans HO.out
        obtain ⟨d0, d1, _, _⟩ := hOBr.facts
        by_cases hjm : j < m
        · have HDT := Lib.hid (dnM_take (k := k) (a := a) (M := M) (l := zs) (j := j) (by omega))
          obtain ⟨b, off, rfl, hbl, hcs⟩ := HI.out.at_ (by omega)
          have hcz : wr.cell? ⟨b, off + j, none⟩ = some (.int .i64 (zs[j]?.getD 0)) := (hBr.cell (p := ⟨b, off + j, none⟩) hbl).trans (hcs j hjm)
          obtain ⟨z, hz⟩ : ∃ z, zs[j]?.getD 0 = z := ⟨_, rfl⟩
          rw [hz] at hcz HDT
          have hj0 : (0 : Int) ≤ (j : Int) := by omega
          clear hz hcs
          obtain ⟨b1, hb1⟩ : ∃ b, dnM k M (zs.take j) a = b := ⟨_, rfl⟩
          rw [hb1] at HDT ⊢
          cases b1 with
          | true =>
            have HDT2 := Lib.hid (show dnM k M (zs.take (j + 1)) a = true by rw [HDT.out]; rfl)
            go_wp2_with fail
            go_quiet (fail)
            go_wp2
            go_roundw
            case rel => exact ⟨j + 1, by omega, by go_num, by rw [HDT2.out], below_drewN' hV.out _⟩
            case measure => simp [intOf]; omega
          | false =>
            by_cases hza : z = (a : Int)
            · have HDT2 := Lib.hid (show dnM k M (zs.take (j + 1)) a = true by rw [HDT.out, decide_eq_true hza]; rfl)
              have hzb : (z == (a : Int)) = true := by simp [hza]
              go_wp2_with fail
              go_quiet (fail)
              go_wp2
              go_roundw
              case rel => exact ⟨j + 1, by omega, by go_num, by rw [HDT2.out], below_drewN' hV.out _⟩
              case measure => simp [intOf]; omega
            · have HDT2 := Lib.hid (show dnM k M (zs.take (j + 1)) a = lssM k M a z by rw [HDT.out, decide_eq_false hza]; rfl)
              have hzb : (z == (a : Int)) = false := by simp [hza]
              have HRL := Lib.hid (fun V (h : Below wr.heap.size wr V) => refLess_any V lo k A c gs M ((HM.out.below hBr).below h) (by omega) a hlt z)
              go_wp2_with fail
              go_region_with (go_at_call 19; refine (HRL.out _ (Below.refl _ _).drew).mono ?_; rintro e w8 ⟨rfl, hb8⟩)
              all_goals
                go_wp2
                go_roundw
                case rel => exact ⟨j + 1, by omega, by go_num, by rw [HDT2.out], hV.out.drew.trans (hb8.mono hV.out.size)⟩
                case measure => simp [intOf]; omega
        · obtain rfl : m = j := by omega
          rw [List.take_of_length_le (by omega)]
          have HOW := Lib.hid (show Own wr w1.heap.size (.slice oA L.length oc) L from ho.out.keep fun b hb => hV.out.block b (ho.out.lt b hb).2)
          have HOA := Lib.hid (show Own (wr.alloc (.cells #[.int .i64 (a : Int)] 3)) w1.heap.size (.slice oA L.length oc) L from HOW.out.keep fun b hb => Below.heap_alloc _ _ _ (HOW.out.lt b hb).2)
          have HBR := Lib.hid hBr
          have hLl : L.length ≤ 8 := by rw [← hL]; have := List.length_filter_le (dnM k M zs) (List.range a); rw [List.length_range] at this; omega
          have hsr := hBr.size
          obtain ⟨b1, hb1⟩ : ∃ b, dnM k M zs a = b := ⟨_, rfl⟩
          rw [hb1] at hfl ⊢
          have HFL := Lib.hid hfl
          clear hL hb1 ho hOB hOBr hBr hV hfl
          cases b1 with
          | true =>
            go_wp2_with (
               at_builtin
               refine wpList_append_lies _ rfl (.tmp 40) (.tmp 42) 22 rfl w1.heap.size 3 i0 _ 1 8 Tryd.underlying22 hi0 hz0 hz1 hz2 rfl (by decide) (.slice oA L.length oc) L.length (L.map nv) rfl HOA.out ⟨wr.heap.size, 0, none⟩ 1 1 [.int .i64 (a : Int)] rfl rfl (fun j u hu => cell_one_new wr _ _ j u hu) (by simp [Value.oneCell']) (by decide) (by simp only [maxLen]; omega) (by omega) (by simp; omega) _ rfl ?_
               intro g7 c7 w7 hown7 hgrow7 hat7 hlt7
               have ho7 : Own w7 w1.heap.size (.slice (some ⟨g7, 0, none⟩) (L.length + 1) c7) (L ++ [a]) := by
                 unfold Own
                 rw [List.length_append, List.map_append]
                 exact hown7
               have hb7 := (HBR.out.alloc hsr (.cells #[.int .i64 (a : Int)] 3)).grown hgrow7 (by simp; omega) (fun b e => (HOA.out.lt b e).1)
               have HO7 := Lib.hid ho7
               have HB7 := Lib.hid hb7
               clear hown7 hgrow7 hat7 hlt7 ho7 hb7)
            go_roundw
            case rel => exact ⟨a + 1, by omega, by go_num, by rw [HFL.out]; exact HO7.out, HB7.out⟩
            case measure => simp [intOf]; omega
          | false =>
            go_wp2_with fail
            go_roundw
            case rel => exact ⟨a + 1, by omega, by go_num, by rw [HFL.out, if_neg (by decide), List.append_nil]; exact HOW.out, HBR.out⟩
            case measure => simp [intOf]; omega
    · obtain rfl : a = k := by omega
      go_wp2_with fail
      go_ret
      exact ⟨_, rfl, ho.out.base_ fun b hb => by have := (ho.out.lt b hb).1; omega, HB1.out.trans (hB.out.mono HB1.out.size)⟩
end Go.Proofs.YtlgdcbhdmffnoaaDoor

namespace Go.Proofs.YtlgdcbhdmffnoaaDoor
open Go Go.RowKit Go.Proofs

theorem lssM_lt {R : List Nat} {M : Nat → Nat → Bool} {k : Nat} (hl : R.length = k) (hM : ∀ a b, PO.lt R a b = M a b) {a : Nat} (ha : a < k) (z : Int) : lssM k M a z = PO.ltI R (a : Int) z := by
  unfold lssM PO.ltI
  rw [PO.isEl_nat (by omega), Bool.true_and, hl]
  unfold PO.isEl
  rw [Int.toNat_natCast, hM]
theorem dnM_down {R : List Nat} {M : Nat → Nat → Bool} {k : Nat} (hl : R.length = k) (hM : ∀ a b, PO.lt R a b = M a b) (zs : List Int) : (List.range k).filter (dnM k M zs) = PO.downI R zs := by
  unfold PO.downI
  rw [hl]
  refine List.filter_congr fun a ha => ?_
  have ha := List.mem_range.1 ha
  unfold dnM PO.downB
  congr 1
  funext z
  rw [lssM_lt hl hM ha]
theorem downB_app (R : List Nat) (l l' : List Int) (a : Nat) : PO.downB R (l ++ l') a = (PO.downB R l a || PO.downB R l' a) := by
  unfold PO.downB
  rw [List.any_append]
theorem downI_mem {R : List Nat} {l : List Int} {a : Nat} : a ∈ PO.downI R l ↔ a < R.length ∧ PO.downB R l a = true := by
  unfold PO.downI
  rw [List.mem_filter, List.mem_range]
theorem down_twice {R : List Nat} (h : PO.Cl R) (l : List Int) : PO.downI R ((PO.downI R l).map fun n : Nat => (n : Int)) = PO.downI R l := by
  unfold PO.downI
  refine List.filter_congr fun a ha => ?_
  have ha := List.mem_range.1 ha
  rw [Bool.eq_iff_iff]
  constructor
  · intro h1
    unfold PO.downB at h1
    rw [List.any_eq_true] at h1
    obtain ⟨z, hz, h1⟩ := h1
    obtain ⟨y, hy, rfl⟩ := List.mem_map.1 hz
    obtain ⟨hyl, hyb⟩ := downI_mem.1 hy
    rw [Bool.or_eq_true, decide_eq_true_iff] at h1
    rcases h1 with h1 | h1
    · have : y = a := by omega
      rw [← this]
      exact hyb
    · rw [PO.ltI_nat' h.small] at h1
      unfold PO.downB at hyb ⊢
      rw [List.any_eq_true] at hyb ⊢
      obtain ⟨z, hz, h2⟩ := hyb
      refine ⟨z, hz, ?_⟩
      rw [Bool.or_eq_true, decide_eq_true_iff] at h2 ⊢
      rcases h2 with rfl | h2
      · right
        rw [PO.ltI_nat' h.small]
        exact h1
      · right
        unfold PO.ltI at h2 ⊢
        rw [Bool.and_eq_true, Bool.and_eq_true] at h2 ⊢
        obtain ⟨⟨_, h3⟩, h4⟩ := h2
        rw [Int.toNat_natCast] at h4 ⊢
        exact ⟨⟨PO.isEl_nat ha, h3⟩, h.tr a y _ h1 h4⟩
  · intro h1
    unfold PO.downB
    rw [List.any_eq_true]
    refine ⟨(a : Int), List.mem_map.2 ⟨a, downI_mem.2 ⟨ha, h1⟩, rfl⟩, by simp⟩
/-- Membership in the results, as the law asks it. -/
theorem down_has {R : List Nat} {k a : Nat} (hl : R.length = k) (ha : a < k) (l : List Int) : decide ((a : Int) ∈ (PO.downI R l).map fun n : Nat => (n : Int)) = PO.downB R l a := by
  rw [Bool.eq_iff_iff, decide_eq_true_iff]
  constructor
  · intro h
    obtain ⟨y, hy, e⟩ := List.mem_map.1 h
    have : y = a := by omega
    subst this
    exact (downI_mem.1 hy).2
  · exact fun h => List.mem_map.2 ⟨a, downI_mem.2 ⟨by omega, h⟩, rfl⟩
theorem downI_len {R : List Nat} (l : List Int) : (PO.downI R l).length ≤ R.length := by
  unfold PO.downI
  have := List.length_filter_le (PO.downB R l) (List.range R.length)
  rwa [List.length_range] at this
end Go.Proofs.YtlgdcbhdmffnoaaDoor
