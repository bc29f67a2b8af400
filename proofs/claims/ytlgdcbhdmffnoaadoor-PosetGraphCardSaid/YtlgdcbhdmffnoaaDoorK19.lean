/-
  The contract of the reference's IsLinear: by its matrix. Condition: at most 8 elements.
  What the reference's Linear tests, as the step of the least topological order (mathematics alone; the walk is not written yet).
  The contract of the reference's Linear: the least linear extension. Conditions: at most 8 elements; the matrix is a closed order's.
  Rows of a call's own, of integers; what a Go bool comparison of one answer says. No function of the program.
-/
import Derived.Test.YtlgdcbhdmffnoaaDoorK16
import Derived.Test.YtlgdcbhdmffnoaaDoorK15
import Derived.BigQuiet
import Derived.Deep.QuietTactic
import Derived.Test.YtlgdcbhdmffnoaaDoorK18
import Derived.Deep.AppendLies
import Derived.Test.YtlgdcbhdmffnoaaDoorK14
import Derived.Test.YtlgdcbhdmffnoaaDoorK2

namespace Go.Proofs.YtlgdcbhdmffnoaaDoor
open Go Go.RowKit Go.Proofs

/-- The places before t suit place i. -/
def prT (R : List Nat) (l : List Int) (i t : Nat) : Bool := (List.range t).all fun k => decide (l[k]?.getD 0 ≠ l[i]?.getD 0) && !PO.lt R (l[i]?.getD 0).toNat (l[k]?.getD 0).toNat
theorem prT_succ (R : List Nat) (l : List Int) (i t : Nat) : prT R l i (t + 1) = (prT R l i t && (decide (l[t]?.getD 0 ≠ l[i]?.getD 0) && !PO.lt R (l[i]?.getD 0).toNat (l[t]?.getD 0).toNat)) := by
  unfold prT
  rw [List.range_succ, List.all_append]
  simp
theorem okAt_prT (R : List Nat) (l : List Int) (i : Nat) : PO.okAt R l i = (PO.isEl R.length (l[i]?.getD 0) && prT R l i i) := rfl
theorem prT_no {R : List Nat} {l : List Int} {i t : Nat} (ht : t < i) (h : prT R l i (t + 1) = false) : PO.okAt R l i = false := by
  rw [okAt_prT]
  have : prT R l i i = false := by
    cases hb : prT R l i i with
    | false => rfl
    | true =>
      unfold prT at hb h
      rw [List.all_eq_true] at hb
      have h2 : ((List.range (t + 1)).all fun k => decide (l[k]?.getD 0 ≠ l[i]?.getD 0) && !PO.lt R (l[i]?.getD 0).toNat (l[k]?.getD 0).toNat) = true :=
        List.all_eq_true.2 fun k hk => hb k (List.mem_range.2 (by have := List.mem_range.1 hk; omega))
      rw [h2] at h
      cases h
  rw [this, Bool.and_false]
set_option maxRecDepth 100000 in
set_option maxHeartbeats 4000000 in
theorem refIsLinear_any (w : World) (lo k : Nat) (A : Option Addr) (c : Nat) (gs : List Nat) (M : Nat → Nat → Bool) (hmx : Mx w lo (.slice A k c) k k gs M) (hk : k ≤ 8) (R : List Nat) (hRl : R.length = k) (hM : ∀ a b, PO.lt R a b = M a b) (B : Option Addr) (m d : Nat) (zs : List Int) (hI : Ints .i64 w.heap.size w B m zs) :
    Calls Tryd.prog 33 #[.agg #[.int .i64 (k : Int), .slice A k c], .slice B m d] w fun e w' => e = .returned (.bool (PO.isLinI R zs)) ∧ Below w.heap.size w w' := by
  have hzl := hI.len
  obtain ⟨w1, hw1⟩ : ∃ V, w.alloc (.cells #[.int .i64 (k : Int), .slice A k c] 33) = V := ⟨_, rfl⟩
  have hb1 : Below w.heap.size w w1 := by rw [← hw1]; exact (Below.refl _ _).alloc (Nat.le_refl _) _
  have ho1 : OB w1 w.heap.size k (.slice A k c) := by rw [← hw1]; exact World.alloc_heap_new w _
  have hs1 : w1.heap.size = w.heap.size + 1 := by rw [← hw1]; simp
  have HM := Lib.hid (hmx.below hb1)
  have HI := Lib.hid ((hI.below hb1).more hb1.size)
  have HO := Lib.hid ho1
  have HW1 := Lib.hid hw1
  have HB1 := Lib.hid hb1
  have HLM := Lib.hid hM
  have HRL := Lib.hid hRl
  obtain ⟨c0w, _, _, _⟩ := OB.facts (show OB (w.alloc (.cells #[.int .i64 (k : Int), .slice A k c] 33)) w.heap.size k (.slice A k c) by rw [hw1]; exact ho1)
  clear hmx hI hw1 hb1 ho1 hM hRl
  by_cases hmk : m = k
  · have hmn : ((m : Int) != (k : Int)) = false := by simp [hmk]
    have HMK := Lib.hid hmk
    have hm8 : m ≤ 8 := by omega
    clear hmk
    go_enter Tryd.func33, Tryd.ntmps33
    go_wp2_with fail
    rw [HW1.out]
    go_loopw [5] (fun i V => ∃ a : Nat, a ≤ m ∧ i = .int .i64 (a : Int) ∧ Hid (PO.okTo R zs a = true) ∧ Hid (Below w1.heap.size w1 V)) (fun i _ => m - (intOf i).toNat)
    case atStart => exact ⟨0, Nat.zero_le _, rfl, (show PO.okTo R zs 0 = true from rfl), Below.refl _ _⟩
    case round =>
      obtain ⟨a, ha, rfl, hok, hB⟩ := hrel
      by_cases hlt : a < m
      · have hOB : OB wr w.heap.size k (.slice A k c) := (hB.out.block _ (by omega)).trans HO.out
        obtain ⟨c0, c1, _, _⟩ := hOB.facts
        obtain ⟨b, off, rfl, hbl, hcs⟩ := HI.out.at_ (by omega)
        have hcz : wr.cell? ⟨b, off + a, none⟩ = some (.int .i64 (zs[a]?.getD 0)) := (hB.out.cell (p := ⟨b, off + a, none⟩) hbl).trans (hcs a hlt)
        have hno := isLin_no (R := R) (l := zs) (j := a) (by omega)
        have hel0 := okAt_el (R := R) (l := zs) (j := a)
        have HPS := Lib.hid (fun t => prT_succ R zs a t)
        have hat := okAt_prT R zs a
        have hoks := PO.okTo_succ R zs a
        rw [hok.out, Bool.true_and] at hoks
        obtain ⟨z, hz⟩ : ∃ z, zs[a]?.getD 0 = z := ⟨_, rfl⟩
        have HZ := Lib.hid hz
        rw [hz] at hcz hel0 hat
        rw [HRL.out] at hel0 hat
        have ha0 : (0 : Int) ≤ (a : Int) := by omega
        by_cases hz0 : 0 ≤ z
        · obtain ⟨x, rfl⟩ := Int.eq_ofNat_of_zero_le hz0
          have hz0d : decide ((x : Int) < 0) = false := decide_eq_false (by omega)
          by_cases hxk : x < k
          · have hxd : decide ((k : Int) ≤ (x : Int)) = false := decide_eq_false (by omega)
            have hxd' : decide (k ≤ x) = false := decide_eq_false (by omega)
            rw [PO.isEl_nat hxk, Bool.true_and] at hat
            have HAT := Lib.hid hat
            have HOKS := Lib.hid hoks
            have HNO := Lib.hid hno
            have HCS := Lib.hid hcs
            clear hat hoks hno hel0 hcs hz
            go_wp2_with fail
            go_quiet (fail)
            go_wp2_with fail
            have HBq := Lib.hid (below_drewN' hB.out nq)
            clear hB
            go_loopw [6] (fun i V => ∃ t : Nat, t ≤ a ∧ i = .int .i64 (t : Int) ∧ Hid (prT R zs a t = true) ∧ Hid (Below w1.heap.size w1 V)) (fun i _ => a - (intOf i).toNat)
            case atStart => exact ⟨0, Nat.zero_le _, rfl, (show prT R zs a 0 = true from rfl), HBq.out⟩
            case round =>
              obtain ⟨t, ht, rfl, hp, hV⟩ := hrel
              by_cases hta : t < a
              · have hOV : OB wr w.heap.size k (.slice A k c) := (hV.out.block _ (by omega)).trans HO.out
                obtain ⟨e0, e1, _, _⟩ := hOV.facts
                have hcx := (hV.out.cell (p := ⟨b, off + a, none⟩) hbl).trans (HCS.out a hlt)
                have hcy := (hV.out.cell (p := ⟨b, off + t, none⟩) hbl).trans (HCS.out t (by omega))
                have hyz : PO.isEl R.length (zs[t]?.getD 0) = true := PO.okTo_el hok.out (by
                  rw [List.getElem?_eq_getElem (by omega), Option.getD_some]
                  exact List.mem_iff_getElem.2 ⟨t, by rw [List.length_take]; omega, by rw [List.getElem_take]⟩)
                have hps := HPS.out t
                rw [HZ.out] at hps hcx
                rw [hp.out, Bool.true_and] at hps
                obtain ⟨y, hy, hyk⟩ := PO.isEl_iff.1 hyz
                rw [hy] at hcy hps
                rw [HRL.out] at hyk
                rw [Int.toNat_natCast, Int.toNat_natCast, HLM.out] at hps
                obtain ⟨gm, cm, hv, _, _⟩ := HM.out.form (by omega)
                injection hv with hA _ hcm
                have hM2 := HM.out.below hV.out
                rw [hA] at hM2 e1
                obtain ⟨g, hg, hcg⟩ := hM2.cell (i := x) hxk
                have hbit := hM2.bit hg hyk
                clear hA hcm hM2
                have hno2 := fun h => HNO.out (prT_no (R := R) (l := zs) (i := a) (t := t) hta h)
                have ht0 : (0 : Int) ≤ (t : Int) := by omega
                clear hyz hy hg hOV
                by_cases hxy : y = x
                · have hxyb : ((y : Int) == (x : Int)) = true := by simp [hxy]
                  have HN2 := Lib.hid (hno2 (by rw [hps, decide_eq_false (by omega)]; rfl))
                  clear hno2 hps
                  go_wp2_with fail
                  go_quiet (fail)
                  go_wp2_with fail
                  go_ret
                  rw [HN2.out]
                  exact ⟨rfl, HB1.out.trans ((below_drewN' hV.out _).mono HB1.out.size)⟩
                · have hxyb : ((y : Int) == (x : Int)) = false := by simp; omega
                  rw [decide_eq_true (show (y : Int) ≠ (x : Int) by omega), Bool.true_and] at hps
                  obtain ⟨bm, hbm⟩ : ∃ b, M x y = b := ⟨_, rfl⟩
                  rw [hbm] at hps hbit
                  clear hbm
                  cases bm with
                  | true =>
                    have HN2 := Lib.hid (hno2 hps)
                    clear hno2 hps
                    go_wp2_with fail
                    go_quiet (fail)
                    go_wp2_with fail
                    go_ret
                    rw [HN2.out]
                    exact ⟨rfl, HB1.out.trans ((below_drewN' hV.out _).mono HB1.out.size)⟩
                  | false =>
                    have HN2 := Lib.hid hps
                    clear hno2 hps
                    go_wp2_with fail
                    go_quiet (fail)
                    go_wp2
                    go_roundw
                    case rel => exact ⟨t + 1, by omega, by go_num, HN2.out, below_drewN' hV.out _⟩
                    case measure => simp [intOf]; omega
              · obtain rfl : t = a := by omega
                have HOK := Lib.hid (show PO.okTo R zs (t + 1) = true by rw [HOKS.out, HAT.out]; exact hp.out)
                go_wp2_with fail
                go_roundw
                case rel => exact ⟨t + 1, by omega, by go_num, HOK.out, hV.out⟩
                case measure => simp [intOf]; omega
          · have hxd : decide ((k : Int) ≤ (x : Int)) = true := decide_eq_true (by omega)
            have hxd' : decide (k ≤ x) = true := decide_eq_true (by omega)
            have HNO := Lib.hid (hno (hel0 (by unfold PO.isEl; rw [decide_eq_true hz0, decide_eq_false (by omega)]; rfl)))
            clear hat hoks hno hel0 hcs hz
            go_wp2_with fail
            go_quiet (fail)
            go_wp2_with fail
            go_ret
            rw [HNO.out]
            exact ⟨rfl, HB1.out.trans ((below_drewN' hB.out _).mono HB1.out.size)⟩
        · have hz0d : decide (z < 0) = true := decide_eq_true (by omega)
          have HNO := Lib.hid (hno (hel0 (by unfold PO.isEl; rw [decide_eq_false hz0]; rfl)))
          clear hat hoks hno hel0 hcs hz
          go_wp2_with fail
          go_quiet (fail)
          go_wp2_with fail
          go_ret
          rw [HNO.out]
          exact ⟨rfl, HB1.out.trans ((below_drewN' hB.out _).mono HB1.out.size)⟩
      · obtain rfl : m = a := by omega
        have HY := Lib.hid (isLin_yes (R := R) (l := zs) (by have := HMK.out; have := HRL.out; omega) (by rw [hzl]; exact hok.out))
        go_wp2_with fail
        go_ret
        rw [HY.out]
        exact ⟨rfl, HB1.out.trans (hB.out.mono HB1.out.size)⟩
  · have hmn : ((m : Int) != (k : Int)) = true := by simp; omega
    have HNO := Lib.hid (show PO.isLinI R zs = false by unfold PO.isLinI; rw [decide_eq_false (by rw [HRL.out]; omega)]; rfl)
    go_enter Tryd.func33, Tryd.ntmps33
    go_wp2_with fail
    go_ret
    rw [HNO.out, HW1.out]
    exact ⟨rfl, HB1.out⟩
end Go.Proofs.YtlgdcbhdmffnoaaDoor

namespace Go.Proofs.YtlgdcbhdmffnoaaDoor
open Go Go.RowKit Go.Proofs

/-- a is not listed, and of the elements before t all that lie below it are. -/
def frM (M : Nat → Nat → Bool) (d : List Nat) (a t : Nat) : Bool := !decide (a ∈ d) && (List.range t).all fun b => !(M b a && !decide (b ∈ d))
theorem frM_succ (M : Nat → Nat → Bool) (d : List Nat) (a t : Nat) : frM M d a (t + 1) = (frM M d a t && !(M t a && !decide (t ∈ d))) := by
  unfold frM
  rw [List.range_succ, List.all_append, Bool.and_assoc]
  simp
theorem frM_go {R : List Nat} {M : Nat → Nat → Bool} {k : Nat} (hs : PO.Small R) (hl : R.length = k) (hM : ∀ a b, PO.lt R a b = M a b) (d : List Nat) (a : Nat) : frM M d a k = canGo (PO.rows R) d a := by
  rw [Bool.eq_iff_iff, canGo_iff]
  unfold frM
  rw [Bool.and_eq_true, List.all_eq_true, PO.rows_len, hl]
  simp only [List.mem_range, Bool.not_eq_true', Bool.and_eq_false_iff, decide_eq_false_iff_not, Bool.not_eq_false', decide_eq_true_eq]
  refine and_congr Iff.rfl (forall_congr' fun u => forall_congr' fun _ => ?_)
  rw [PO.lt_nb hs, hM]
  constructor
  · rintro (h | h) h2
    · rw [h] at h2; cases h2
    · exact h
  · intro h
    cases hm : M u a with
    | false => exact .inl rfl
    | true => exact .inr (h hm)
/-- The scan for the next element finds the first that may go. -/
theorem kStep_first {nx : List (List Nat)} {d : List Nat} {a : Nat} (ha : a < nx.length) (h : canGo nx d a = true) (hb : ∀ b, b < a → canGo nx d b = false) : kStep nx d = some a := by
  unfold kStep
  rw [List.find?_range_eq_some]
  exact ⟨h, List.mem_range.2 ha, fun b hb' => by rw [hb b hb']; rfl⟩
end Go.Proofs.YtlgdcbhdmffnoaaDoor

namespace Go.Proofs.YtlgdcbhdmffnoaaDoor
open Go Go.RowKit Go.Proofs

def lenV : Value → Nat | .slice _ n _ => n | _ => 0
theorem has_nat (L : List Nat) (x : Nat) : decide (((x : Nat) : Int) ∈ L.map fun n : Nat => (n : Int)) = decide (x ∈ L) := by
  rw [decide_eq_decide, List.mem_map]
  constructor
  · rintro ⟨y, hy, e⟩
    have : y = x := by omega
    exact this ▸ hy
  · exact fun h => ⟨x, h, rfl⟩
set_option maxRecDepth 100000 in
set_option maxHeartbeats 4000000 in
theorem refLinear_any (w : World) (lo k : Nat) (A : Option Addr) (c : Nat) (gs : List Nat) (M : Nat → Nat → Bool) (hmx : Mx w lo (.slice A k c) k k gs M) (hk : k ≤ 8) (R : List Nat) (hRl : R.length = k) (hM : ∀ a b, PO.lt R a b = M a b) (hcl : PO.Cl R) :
    Calls Tryd.prog 30 #[.agg #[.int .i64 (k : Int), .slice A k c]] w fun e w' => ∃ v, e = .returned v ∧ Own w' w.heap.size v (topoL (PO.rows R)) ∧ Below w.heap.size w w' := by
  obtain ⟨i0, hi0, hz0, hz1, hz2⟩ := info_parts info_int
  obtain ⟨w1, hw1⟩ : ∃ V, w.alloc (.cells #[.int .i64 (k : Int), .slice A k c] 33) = V := ⟨_, rfl⟩
  have hb1 : Below w.heap.size w w1 := by rw [← hw1]; exact (Below.refl _ _).alloc (Nat.le_refl _) _
  have ho1 : OB w1 w.heap.size k (.slice A k c) := by rw [← hw1]; exact World.alloc_heap_new w _
  have hs1 : w1.heap.size = w.heap.size + 1 := by rw [← hw1]; simp
  have HMX := Lib.hid (hmx.below hb1)
  have HO := Lib.hid ho1
  have HW1 := Lib.hid hw1
  have HB1 := Lib.hid hb1
  have HFG := Lib.hid (fun d a => frM_go hcl.small hRl hM d a)
  have HCL := Lib.hid hcl
  have HRL := Lib.hid hRl
  clear hmx hw1 hb1 ho1 hM hRl hcl
  go_enter Tryd.func30, Tryd.ntmps30
  go_wp2_with fail
  rw [HW1.out]
  go_loopw [3] (fun ov V => ∃ (B : Option Addr) (d : Nat) (L : List Nat), ov = .slice B L.length d ∧ L.length ≤ k ∧ Hid (Own V w1.heap.size (.slice B L.length d) L) ∧ Hid (PO.Dn R L) ∧ Hid (kahn (PO.rows R) (k - L.length) L = topoL (PO.rows R)) ∧ Hid (Below w1.heap.size w1 V)) (fun ov _ => k - lenV ov)
  case atStart => exact ⟨none, 0, [], rfl, Nat.zero_le _, Own.nil _ _, PO.Dn.nil _, (show kahn (PO.rows R) (k - 0) [] = topoL (PO.rows R) by unfold topoL; rw [PO.rows_len, HRL.out]; rfl), Below.refl _ _⟩
  case round =>
    obtain ⟨B, d, L, hov, hLk, hO, hD, hK, hB⟩ := hrel
    obtain ⟨ov, hovv⟩ : ∃ O, O = u3 := ⟨_, rfl⟩
    subst hovv
    subst hov
    have hOB : OB wr w.heap.size k (.slice A k c) := (hB.out.block _ (by omega)).trans HO.out
    obtain ⟨c0, c1, _, _⟩ := hOB.facts
    by_cases hlt : L.length < k
    · obtain ⟨wo, hwo⟩ : ∃ W, W = wr := ⟨_, rfl⟩
      subst hwo
      clear hOB
      go_wp2_with fail
      go_loopw [3, 4] (fun ov i V => ∃ a : Nat, a ≤ k ∧ i = .int .i64 (a : Int) ∧ ov = .slice B L.length d ∧ Hid (∀ b, b < a → canGo (PO.rows R) L b = false) ∧ V = wo) (fun _ i _ => k - (intOf i).toNat)
      case atStart => exact ⟨0, Nat.zero_le _, rfl, rfl, (show ∀ b, b < 0 → canGo (PO.rows R) L b = false from fun b h => absurd h (by omega)), rfl⟩
      case round =>
        obtain ⟨a, ha, rfl, hov, hno, rfl⟩ := hrel
        obtain ⟨ov, hovv⟩ : ∃ O, O = u3 := ⟨_, rfl⟩
        subst hovv
        subst hov
        by_cases hak : a < k
        · have HHA := Lib.hid (refHas_any B L.length d _ (a : Int) wr (own_ints hO.out).2 (by omega))
          rw [has_nat] at HHA
          obtain ⟨gm, cm, hv, _, _⟩ := HMX.out.form (by omega)
          injection hv with hA _ hcm
          have hM2 := HMX.out.below hB.out
          rw [hA] at hM2 c1
          have HM2 := Lib.hid hM2
          have HFS := Lib.hid (frM_succ M L a)
          have HGO := Lib.hid (HFG.out L a)
          have hf0 : frM M L a 0 = !decide (a ∈ L) := by unfold frM; simp
          rw [← Bool.not_not (decide (a ∈ L)), ← hf0] at HHA
          have HF0 := Lib.hid hf0
          clear hA hcm hM2 hf0
          go_wp2_with (go_at_call 38; refine HHA.out.mono ?_; clear HHA; rintro e w' ⟨rfl, rfl⟩)
          obtain ⟨wi, hwi⟩ : ∃ W, W = w' := ⟨_, rfl⟩
          subst hwi
          go_loopw [5, 6] (fun bv i V => ∃ t : Nat, t ≤ k ∧ i = .int .i64 (t : Int) ∧ bv = .bool (frM M L a t) ∧ V = wi) (fun _ i _ => k - (intOf i).toNat)
          case atStart => exact ⟨0, by omega, rfl, by simp, rfl⟩
          case round =>
            obtain ⟨t, ht, rfl, hbv, rfl⟩ := hrel
            obtain ⟨bv, hbvv⟩ : ∃ O, O = u5 := ⟨_, rfl⟩
            subst hbvv
            subst hbv
            by_cases htk : t < k
            · obtain ⟨g, hg, hcg⟩ := HM2.out.cell (i := t) htk
              have hbit := HM2.out.bit hg hak
              have HHT := Lib.hid (refHas_any B L.length d _ (t : Int) wr (own_ints hO.out).2 (by omega))
              rw [has_nat] at HHT
              have hfs := HFS.out t
              obtain ⟨bm, hbm⟩ : ∃ b, M t a = b := ⟨_, rfl⟩
              obtain ⟨bl, hbl⟩ : ∃ b, decide (t ∈ L) = b := ⟨_, rfl⟩
              rw [hbm] at hbit hfs
              rw [hbl] at HHT hfs
              clear hbm hbl hg
              cases bm with
              | false =>
                have HF := Lib.hid (show frM M L a (t + 1) = frM M L a t by rw [hfs]; simp)
                clear hfs HHT
                go_wp2_with fail
                go_roundw
                case rel => exact ⟨t + 1, by omega, by go_num, by rw [HF.out], trivial⟩
                case measure => simp [intOf]; omega
              | true =>
                cases bl with
                | true =>
                  have HF := Lib.hid (show frM M L a (t + 1) = frM M L a t by rw [hfs]; simp)
                  clear hfs
                  go_wp2_with (go_at_call 38; refine HHT.out.mono ?_; clear HHT; rintro e w' ⟨rfl, rfl⟩)
                  go_roundw
                  case rel => exact ⟨t + 1, by omega, by go_num, by rw [HF.out], trivial⟩
                  case measure => simp [intOf]; omega
                | false =>
                  have HF := Lib.hid (show frM M L a (t + 1) = false by rw [hfs]; simp)
                  clear hfs
                  go_wp2_with (go_at_call 38; refine HHT.out.mono ?_; clear HHT; rintro e w' ⟨rfl, rfl⟩)
                  go_roundw
                  case rel => exact ⟨t + 1, by omega, by go_num, by rw [HF.out], trivial⟩
                  case measure => simp [intOf]; omega
            · obtain rfl : t = k := by omega
              rw [HGO.out]
              obtain ⟨bg, hbg⟩ : ∃ b, canGo (PO.rows R) L a = b := ⟨_, rfl⟩
              rw [hbg]
              cases bg with
              | false =>
                have HN := Lib.hid (show ∀ b, b < a + 1 → canGo (PO.rows R) L b = false from fun b hb => by
                  rcases Nat.lt_or_ge b a with h | h
                  · exact hno.out b h
                  · rw [show b = a by omega]; exact hbg)
                clear hbg
                go_wp2_with fail
                go_roundw
                case rel => exact ⟨a + 1, by omega, by go_num, rfl, HN.out, trivial⟩
                case measure => simp [intOf]; omega
              | true =>
                have HKN := Lib.hid (show kahn (PO.rows R) (t - (L.length + 1)) (L ++ [a]) = topoL (PO.rows R) by
                  have h := hK.out
                  rw [show t - L.length = (t - (L.length + 1)) + 1 by omega] at h
                  unfold kahn at h
                  rw [kStep_first (by rw [PO.rows_len, HRL.out]; exact hak) hbg hno.out] at h
                  exact h)
                have HDN := Lib.hid (hD.out.snoc HCL.out.small (by rw [HRL.out]; exact hak) hbg)
                have HOA := Lib.hid (show Own (wr.alloc (.cells #[.int .i64 (a : Int)] 3)) w1.heap.size (.slice B L.length d) L from hO.out.keep fun b hb => Below.heap_alloc _ _ _ (hO.out.lt b hb).2)
                have hsr := hB.out.size
                clear hbg
                go_wp2_with (
                   at_builtin
                   refine wpList_append_lies _ rfl (.tmp 43) (.tmp 45) 22 rfl w1.heap.size 3 i0 _ 1 8 Tryd.underlying22 hi0 hz0 hz1 hz2 rfl (by decide) (.slice B L.length d) L.length (L.map nv) rfl HOA.out ⟨wr.heap.size, 0, none⟩ 1 1 [.int .i64 (a : Int)] rfl rfl (fun j u hu => cell_one_new wr _ _ j u hu) (by simp [Value.oneCell']) (by decide) (by simp only [maxLen]; omega) (by omega) (by simp; omega) _ rfl ?_
                   intro g7 c7 w7 hown7 hgrow7 hat7 hlt7
                   have ho7 : Own w7 w1.heap.size (.slice (some ⟨g7, 0, none⟩) (L.length + 1) c7) (L ++ [a]) := by
                     unfold Own
                     rw [List.length_append, List.map_append]
                     exact hown7
                   have hb7 := (hB.out.alloc hsr (.cells #[.int .i64 (a : Int)] 3)).grown hgrow7 (by simp; omega) (fun b e => (HOA.out.lt b e).1)
                   have HO7 := Lib.hid ho7
                   have HB7 := Lib.hid hb7
                   clear hown7 hgrow7 hat7 hlt7 ho7 hb7)
                go_roundw
                case rel => exact ⟨some ⟨g7, 0, none⟩, c7, L ++ [a], by rw [List.length_append]; rfl, by rw [List.length_append, List.length_singleton]; omega, by rw [List.length_append]; exact HO7.out, HDN.out, by rw [List.length_append]; exact HKN.out, HB7.out⟩
                case measure => simp only [lenV]; omega
        · exfalso
          obtain ⟨r, hr1, hr2⟩ := PO.next_some HCL.out hD.out (by rw [HRL.out]; exact hlt)
          rw [HRL.out] at hr1
          rw [hno.out r (by omega)] at hr2
          cases hr2
    · have HKE := Lib.hid (show L = topoL (PO.rows R) by have := hK.out; rwa [show k - L.length = 0 by omega] at this)
      clear hOB
      go_wp2_with fail
      go_ret
      exact ⟨_, rfl, by rw [← HKE.out]; exact hO.out.base_ fun b hb => by have := (hO.out.lt b hb).1; omega, HB1.out.trans (hB.out.mono HB1.out.size)⟩
end Go.Proofs.YtlgdcbhdmffnoaaDoor

namespace Go.Proofs.YtlgdcbhdmffnoaaDoor
open Go Go.RowKit Go.Proofs

/-- A row of the call's own, of integers. -/
def OI (W : World) (lo : Nat) (A : Option Addr) (n c : Nat) (X : List Int) : Prop := W.ownsRow lo 3 1 (.slice A n c) n (X.map (Value.int .i64))
section
variable {W W' : World} {lo n c : Nat} {A : Option Addr} {X : List Int}
theorem OI.below (h : OI W lo A n c X) (hb : Below W.heap.size W W') : OI W' lo A n c X := own_of_block h fun b hv => hb.block b (World.ownsRow.lt h b hv).2
theorem OI.ints (h : OI W lo A n c X) : Ints .i64 W.heap.size W A n X := Ints.of_own rfl h
theorem OI.slc (h : OI W lo A n c X) : Slc .i64 W A n c X := own_slc h
theorem OI.len (h : OI W lo A n c X) : X.length = n := by have := h.1; simpa using this
theorem OI.nil (W : World) (lo : Nat) : OI W lo none 0 0 [] := ⟨rfl, .inl ⟨rfl, rfl⟩⟩
theorem OI.of {L : List Nat} (h : Own W lo (.slice A n c) L) : n = L.length ∧ OI W lo A n c (L.map fun n : Nat => (n : Int)) := by
  obtain ⟨A', c', e, _, _⟩ := h.slice
  injection e with _ e2 _
  refine ⟨e2, ?_⟩
  have h' := h
  unfold Own at h'
  rw [map_nv, ← e2] at h'
  exact h'
theorem OI.low {lo' : Nat} (h : OI W lo A n c X) (hb : lo' ≤ lo) : OI W lo' A n c X := by
  refine ⟨h.1, ?_⟩
  rcases h.2 with h0 | ⟨g, cap, cur, e, h1, h2⟩
  · exact .inl h0
  · exact .inr ⟨g, cap, cur, e, Nat.le_trans hb h1, h2⟩
end
end Go.Proofs.YtlgdcbhdmffnoaaDoor
