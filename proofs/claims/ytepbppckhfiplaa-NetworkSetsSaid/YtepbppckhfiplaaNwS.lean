/-
  The reference's Set: a set of up to twelve envelopes from numbers. Condition: the numbers are Go's.
-/
import Derived.Test.YtepbppckhfiplaaNwF
import Derived.Test.YtepbppckhfiplaaNwG
namespace Go.Proofs.Ytepbppckhfiplaa
open Go Go.RowKit Go.Proofs
attribute [local go_sem] Oper.semAt_some

def NW.setT (l : List Int) (k : Nat) : List NW.En := (l.take k).foldl (fun s n => NW.adds s (NW.enOf (NM.arI n 100000))) []
theorem NW.setT_more {l : List Int} {k : Nat} {n : Int} (h : l[k]? = some n) : NW.setT l (k + 1) = NW.adds (NW.setT l k) (NW.enOf (NM.arI n 100000)) := NW.setL_more h
theorem NW.setT_all {l : List Int} {k : Nat} (h : l.length ≤ k) (hk : k ≤ 12) : NW.setT l k = NW.setL l := by
  unfold NW.setT NW.setL
  rw [List.take_of_length_le h, List.take_of_length_le (by omega)]
theorem NW.setT_len (l : List Int) (k : Nat) : (NW.setT l k).length ≤ k := by
  have h1 := NW.fold_len (l.take k) []
  have h2 := List.length_take_le k l
  simp only [List.length_nil] at h1
  exact Nat.le_trans h1 (by omega)
set_option maxHeartbeats 4000000 in
set_option maxRecDepth 100000 in
theorem set_any {A : Option Addr} {n c : Nat} {zs : List Int} (w : World) (h1 : Ints .i64 w.heap.size w A n zs) (hz : ∀ z ∈ zs, I64 z) :
    Calls Try.prog 9 #[.slice A n c] w fun e w' => (∃ B c', e = .returned (.slice B (NW.setL zs).length c') ∧ Ens w' B (NW.setL zs).length c' (NW.setL zs)) ∧ Below w.heap.size w w' := by
  have HI := Lib.hid h1
  have HL := Lib.hid h1.len
  have HZ := Lib.hid hz
  clear h1 hz
  go_enter Try.func9, Try.ntmps9
  go_wp2_with fail
  go_loopw [3, 4] (fun o i V => ∃ k : Nat, k ≤ n ∧ k ≤ 12 ∧ i = .int .i64 (k : Int) ∧ (∃ B r, o = .slice B (NW.setT zs k).length r ∧ Hid (Ens V B (NW.setT zs k).length r (NW.setT zs k))) ∧ Hid (Below w.heap.size w V)) (fun _ i _ => 12 - (intOf i).toNat)
  case atStart => exact ⟨0, by omega, by omega, rfl, ⟨none, 0, rfl, RS.Sl.nil _ _⟩, Below.refl _ _⟩
  case round =>
    obtain ⟨k, hk, hk12, rfl, ⟨B, r, rfl, HE⟩, HV⟩ := hrel
    by_cases hin : k < n
    · have dk : decide (k < n) = true := decide_eq_true hin
      by_cases h12 : k < 12
      · have d12 : decide ((k : Int) < 12) = true := decide_eq_true (by omega)
        obtain ⟨z, hzk⟩ : ∃ z, zs[k]? = some z := ⟨_, List.getElem?_eq_getElem (by rw [HL.out]; exact hin)⟩
        obtain ⟨b, off, hA, hbl, hcell⟩ := HI.out.at_ (by omega)
        subst hA
        have hc := (HV.out.cell (p := ⟨b, off + k, none⟩) hbl).trans (hcell k hin)
        rw [hzk] at hc
        simp only [Option.getD_some] at hc
        have hlen := NW.setT_len zs k
        have HG := Lib.hid (fun V => enOf_any z (HZ.out z (List.mem_of_getElem? hzk)) V)
        have HT := Lib.hid (NW.setT_more hzk)
        obtain ⟨x, hx⟩ : ∃ x, NW.enOf (NM.arI z 100000) = x := ⟨_, rfl⟩
        rw [hx] at HG HT
        clear hzk hcell hx
        go_upto_region 6 with (first
          | (go_at_call 10; (with_reducible refine (HG.out _).mono ?_); rintro e w1 ⟨rfl, hb1⟩; have HV1 := Lib.hid (HV.out.trans (hb1.mono HV.out.size)); have HE1 := Lib.hid (HE.out.keep hb1); clear hb1)
          | (go_at_call 12; (with_reducible refine (refAdd_any x _ HE1.out (by omega)).mono ?_); rintro e w2 ⟨⟨B2, q2, c2, rfl, hv⟩, hb2⟩; have HN := Lib.hid hv; have HV2 := Lib.hid (HV1.out.trans (hb2.mono HV1.out.size)); have HE2 := Lib.hid (HE1.out.keep hb2); clear hb2 hv))
        clear hc
        by_cases hh : NW.has (NW.setT zs k) x.m = true
        · have HS := Lib.hid (show NW.setT zs (k + 1) = NW.setT zs k by rw [HT.out]; unfold NW.adds; rw [if_pos hh])
          rw [if_pos hh] at HN ⊢
          clear hh HT
          go_wp2_with fail
          go_roundw
          case rel => exact ⟨k + 1, by omega, by omega, by go_num, ⟨B, r, by rw [HS.out], by rw [HS.out]; exact HE2⟩, HV2.out⟩
          case measure => simp [intOf]; omega
        · have HS := Lib.hid (show NW.setT zs (k + 1) = NW.put (NW.setT zs k) x by rw [HT.out]; unfold NW.adds; rw [if_neg hh])
          rw [if_neg hh] at HN ⊢
          clear hh HT
          rw [← HS.out] at HN
          have hq := HN.out.len
          subst hq
          go_wp2_with fail
          go_roundw
          case rel => exact ⟨k + 1, by omega, by omega, by go_num, ⟨B2, c2, rfl, HN⟩, HV2.out⟩
          case measure => simp [intOf]; omega
      · have d12 : decide ((k : Int) < 12) = false := decide_eq_false (by omega)
        obtain rfl : k = 12 := by omega
        have HS := Lib.hid (show NW.setT zs 12 = NW.setL zs from rfl)
        rw [HS.out] at HE ⊢
        clear HS
        go_wp2_with fail
        go_ret
        exact ⟨⟨B, r, rfl, HE.out⟩, HV.out⟩
    · have dk : decide (k < n) = false := decide_eq_false hin
      have HS := Lib.hid (NW.setT_all (l := zs) (k := k) (by have := HL.out; omega) hk12)
      rw [HS.out] at HE ⊢
      clear HS
      go_wp2_with fail
      go_ret
      exact ⟨⟨B, r, rfl, HE.out⟩, HV.out⟩
end Go.Proofs.Ytepbppckhfiplaa
