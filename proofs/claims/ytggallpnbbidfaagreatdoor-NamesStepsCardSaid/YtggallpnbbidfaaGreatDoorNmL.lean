/-
  The law's lives: the examples of the chapter hold. Condition: the listed tables and variables stand (TN).
-/
import Derived.Test.YtggallpnbbidfaaGreatDoorNmX2
import Derived.Test.YtggallpnbbidfaaGreatDoorNmP
import Derived.Test.YtggallpnbbidfaaGreatDoorNmDe
namespace Go.Proofs.YtggallpnbbidfaaGreatDoor
open Go Go.RowKit Go.Proofs
attribute [local go_sem] Oper.semAt_some

set_option maxRecDepth 100000 in
set_option maxHeartbeats 8000000 in
theorem lives_any (w : World) (hT : TN w) : Calls Tryz.prog 10 #[] w fun e w' => e = .returned (.bool true) ∧ Below w.heap.size w w' := by
  have HE := Lib.hid (fun (V : World) (hV : Below w.heap.size w V) => ParseEvent_any NM.sCrash V (hT.below hV) (by decide))
  have HQ := Lib.hid (fun (V : World) (hV : Below w.heap.size w V) => ParseQuestion_any NM.sDraw V (hT.below hV) (by decide))
  have HT := Lib.hid (fun (V : World) (hV : Below w.heap.size w V) => Event_any ⟨3, 2, 0, ⟨1, 12, 0, 3, 0⟩⟩ V (hT.below hV))
  have HC := Lib.hid (fun (V : World) => cmpEv_any ⟨3, 2, 0, ⟨1, 12, 0, 3, 0⟩⟩ NM.e0 V)
  rw [show NM.parseE NM.sCrash = NM.e0 by unfold NM.parseE; rw [NM.crash_bad, if_neg (by simp)], NM.crash_bad, if_neg (by simp)] at HE
  rw [NM.draw_ok.2, NM.draw_ok.1, if_pos rfl] at HQ
  rw [NM.deliver_text] at HT
  rw [show NM.lexL (NM.evL ⟨3, 2, 0, ⟨1, 12, 0, 3, 0⟩⟩) (NM.evL NM.e0) = 1 by decide] at HC
  have hq := fun V => eqQ_any ⟨0, 1, 2, 1, 3⟩ ⟨0, 1, 2, 1, 3⟩ V
  rw [decide_eq_true (show (NM.Qu.mk 0 1 2 1 3) = ⟨0, 1, 2, 1, 3⟩ from rfl)] at hq
  have hq : ∀ V, (binOp .eql 36 (.agg #[.int .i64 0, .int .i64 1, .int .i64 2, .int .i64 1, .int .i64 3]) (.agg #[.int .i64 0, .int .i64 1, .int .i64 2, .int .i64 1, .int .i64 3])).run Tryz.prog V = .ok (.bool true) V := hq
  have HE2 := Lib.hid (show ∀ V, Below w.heap.size w V → Calls Tryz.prog 19 #[.string ⟨#[99, 114, 97, 115, 104, 32, 48, 50]⟩] V fun e w' => e = .returned (.tuple #[.agg #[.int .i64 0, .int .i64 0, .int .i64 0, .int .i64 0, .int .i64 0, .int .i64 0, .int .i64 0, .int .i64 0], .int .i64 8]) ∧ Below V.heap.size V w' from HE.out)
  have HQ2 := Lib.hid (show ∀ V, Below w.heap.size w V → Calls Tryz.prog 20 #[.string ⟨#[100, 114, 97, 119, 32, 48, 46, 49, 46, 50, 32, 51]⟩] V fun e w' => e = .returned (.tuple #[.agg #[.int .i64 0, .int .i64 1, .int .i64 2, .int .i64 1, .int .i64 3], .int .i64 0]) ∧ Below V.heap.size V w' from HQ.out)
  have HT2 := Lib.hid (show ∀ V, Below w.heap.size w V → Calls Tryz.prog 13 #[.agg #[.int .i64 3, .int .i64 2, .int .i64 0, .int .i64 1, .int .i64 12, .int .i64 0, .int .i64 3, .int .i64 0]] V fun e w' => e = .returned (.string ⟨#[100, 101, 108, 105, 118, 101, 114, 32, 50, 32, 49, 46, 49, 50, 46, 48, 46, 51, 46, 48]⟩) ∧ Below V.heap.size V w' from HT.out)
  have HC2 := Lib.hid (show ∀ V, Calls Tryz.prog 22 #[.agg #[.int .i64 3, .int .i64 2, .int .i64 0, .int .i64 1, .int .i64 12, .int .i64 0, .int .i64 3, .int .i64 0], .agg #[.int .i64 0, .int .i64 0, .int .i64 0, .int .i64 0, .int .i64 0, .int .i64 0, .int .i64 0, .int .i64 0]] V fun e w' => e = .returned (.int .i64 1) ∧ Below V.heap.size V w' from HC.out)
  clear HE HQ HT HC hT
  obtain ⟨W0, hW0⟩ : ∃ U, w.alloc (.cells #[.int .i64 3, .int .i64 2, .int .i64 0, .int .i64 1, .int .i64 12, .int .i64 0, .int .i64 3, .int .i64 0] 28) = U := ⟨_, rfl⟩
  have hb0 : Below w.heap.size w W0 := hW0 ▸ one_box w _
  have k0 : W0.heap[w.heap.size]? = some (.cells #[.int .i64 3, .int .i64 2, .int .i64 0, .int .i64 1, .int .i64 12, .int .i64 0, .int .i64 3, .int .i64 0] 28 (0, 0)) := by rw [← hW0]; exact new_at rfl
  have HB0 := Lib.hid hb0
  have HK0 := Lib.hid k0
  have HW0 := Lib.hid hW0
  clear hb0 k0 hW0
  go_enter Tryz.func10, Tryz.ntmps10
  go_wp2_with fail
  rw [HW0.out]
  clear HW0
  refine (HE2.out _ HB0.out).mono ?_
  clear HE2
  rintro e w1 ⟨rfl, hb1⟩
  have h01 := heap_lt HK0.out
  obtain ⟨U1, hU1⟩ : ∃ U, w1.alloc (.cells #[.int .i64 0, .int .i64 0, .int .i64 0, .int .i64 0, .int .i64 0, .int .i64 0, .int .i64 0, .int .i64 0] 28) = U := ⟨_, rfl⟩
  have hbU1 : Below w1.heap.size w1 U1 := hU1 ▸ one_box w1 _
  have HB1 := Lib.hid (HB0.out.trans ((hb1.trans (hbU1.mono hb1.size)).mono HB0.out.size))
  have HK1 := Lib.hid ((hbU1.block _ (Nat.lt_of_lt_of_le h01 hb1.size)).trans ((hb1.block _ h01).trans HK0.out))
  have HU1 := Lib.hid hU1
  clear hb1 hbU1 h01 hU1
  go_wp2_with fail
  rw [HU1.out]
  clear HU1
  refine (HQ2.out _ HB1.out).mono ?_
  clear HQ2
  rintro e w2 ⟨rfl, hb2⟩
  have h12 := heap_lt HK1.out
  obtain ⟨U2, hU2⟩ : ∃ U, w2.alloc (.cells #[.int .i64 0, .int .i64 1, .int .i64 2, .int .i64 1, .int .i64 3] 36) = U := ⟨_, rfl⟩
  have hbU2 : Below w2.heap.size w2 U2 := hU2 ▸ one_box w2 _
  have hlt2 : w2.heap.size < U2.heap.size := by rw [← hU2]; simp
  have k2 : U2.heap[w2.heap.size]? = some (.cells #[.int .i64 0, .int .i64 1, .int .i64 2, .int .i64 1, .int .i64 3] 36 (0, 0)) := by rw [← hU2]; exact new_at rfl
  have kE := (hbU2.block _ (Nat.lt_of_lt_of_le h12 hb2.size)).trans ((hb2.block _ h12).trans HK1.out)
  have HB2 := Lib.hid (HB1.out.trans ((hb2.trans (hbU2.mono hb2.size)).mono HB1.out.size))
  have HKK := Lib.hid (fun (V : World) (hV : Below U2.heap.size U2 V) => And.intro (row8 ((hV.block _ (heap_lt kE)).trans kE)) (row5 ((hV.block _ hlt2).trans k2)))
  obtain ⟨⟨d0, d1, d2, d3, d4, d5, d6, d7⟩, c0, c1, c2, c3, c4⟩ := HKK.out U2 (Below.refl _ _)
  clear hb2 hbU2 h12 k2 kE HB0 HK0 HK1
  go_wp2_with fail
  clear hU2
  refine (HT2.out _ HB2.out).mono ?_
  clear HT2
  rintro e w3 ⟨rfl, hb3⟩
  clear d0 d1 d2 d3 d4 d5 d6 d7 c0 c1 c2 c3 c4
  obtain ⟨⟨d0, d1, d2, d3, d4, d5, d6, d7⟩, c0, c1, c2, c3, c4⟩ := HKK.out w3 hb3
  have HB3 := Lib.hid (HB2.out.trans (hb3.mono HB2.out.size))
  clear hb3 HKK
  go_wp2_with fail
  refine (HC2.out _).mono ?_
  clear HC2
  rintro e w4 ⟨rfl, hb4⟩
  have HB4 := Lib.hid (HB3.out.trans (hb4.mono HB3.out.size))
  clear hb4 d0 d1 d2 d3 d4 d5 d6 d7 c0 c1 c2 c3 c4
  go_wp2_with fail
  go_ret
  exact ⟨rfl, HB4.out⟩
end Go.Proofs.YtggallpnbbidfaaGreatDoor
