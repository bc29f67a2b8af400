/-
  The walk of NamesQuestionText: the text of a generated question is the one that the document names, and it parses to the same. Condition: the listed tables and variables stand (TN).
-/
import Derived.Test.YtigdohfkdglceaaDoorNmKc
import Derived.Test.YtigdohfkdglceaaDoorNmL
import Derived.Test.YtigdohfkdglceaaDoorNmAr
import Derived.Test.YtigdohfkdglceaaDoorNmRq
namespace Go.Proofs.YtigdohfkdglceaaDoor.LawNamesQuestionText
open Go Go.RowKit Go.Proofs Go.Proofs.YtigdohfkdglceaaDoor
attribute [local go_sem] Oper.semAt_some

theorem step_box {V w1 : World} {o : Obj} (hb : Below V.heap.size V w1) : ∃ U, w1.alloc o = U ∧ Below V.heap.size V U ∧ U.heap[w1.heap.size]? = some o ∧ V.heap.size ≤ w1.heap.size ∧ w1.heap.size < U.heap.size :=
  ⟨_, rfl, hb.trans ((one_box w1 o).mono hb.size), new_at rfl, hb.size, by simp⟩
set_option maxHeartbeats 4000000 in
set_option maxRecDepth 100000 in
theorem walk_gen (a b : Int) (qc qh qt qk qi yk yn ya yc yh yt yi yp : Int) (S : ByteArray) (w : World)
    (H1 : Hid (∀ V, Calls Tryd.prog 24 #[.int .i64 a, .int .i64 b] V fun e w' => e = .returned (.agg #[.int .i64 qc, .int .i64 qh, .int .i64 qt, .int .i64 qk, .int .i64 qi]) ∧ Below V.heap.size V w'))
    (H2 : Hid (∀ V, Below w.heap.size w V → Calls Tryd.prog 25 #[.agg #[.int .i64 qc, .int .i64 qh, .int .i64 qt, .int .i64 qk, .int .i64 qi]] V fun e w' => e = .returned (.string S) ∧ Below V.heap.size V w'))
    (H3 : Hid (∀ V, Below w.heap.size w V → Calls Tryd.prog 26 #[.string S] V fun e w' => e = .returned (.tuple #[.agg #[.int .i64 qc, .int .i64 qh, .int .i64 qt, .int .i64 qk, .int .i64 qi], .int .i64 0]) ∧ Below V.heap.size V w'))
    (H5 : Hid (∀ V, Below w.heap.size w V → Calls Tryd.prog 22 #[.string S] V fun e w' => e = .returned (.tuple #[.agg #[.int .i64 yk, .int .i64 yn, .int .i64 ya, .int .i64 yc, .int .i64 yh, .int .i64 yt, .int .i64 yi, .int .i64 yp], .int .i64 8]) ∧ Below V.heap.size V w'))
    (H4 : Hid (∀ V, Calls Tryd.prog 27 #[.agg #[.int .i64 qc, .int .i64 qh, .int .i64 qt, .int .i64 qk, .int .i64 qi]] V fun e w' => e = .returned (.string S) ∧ Below V.heap.size V w'))
    (HL : Hid (∀ V, Below w.heap.size w V → Calls Tryd.prog 13 #[] V fun e w' => e = .returned (.bool true) ∧ Below V.heap.size V w'))
    (hE : ∀ V, (binOp .eql 36 (.agg #[.int .i64 qc, .int .i64 qh, .int .i64 qt, .int .i64 qk, .int .i64 qi]) (.agg #[.int .i64 qc, .int .i64 qh, .int .i64 qt, .int .i64 qk, .int .i64 qi])).run Tryd.prog V = .ok (.bool true) V) :
    Calls Tryd.prog 7 #[.int .i64 a, .int .i64 b] w fun e w' => e = .returned (.bool true) ∧ Below w.heap.size w w' := by
  go_enter Tryd.func7, Tryd.ntmps7
  go_wp2_with fail
  refine (H1.out _).mono ?_
  rintro e w1 ⟨rfl, hb1⟩
  obtain ⟨U1, hU1, hB1, k1, _, _⟩ := step_box (o := .cells #[.int .i64 qc, .int .i64 qh, .int .i64 qt, .int .i64 qk, .int .i64 qi] 36) hb1
  have HB1 := Lib.hid hB1
  have HK1 := Lib.hid k1
  obtain ⟨d0, d1, d2, d3, d4⟩ := row5 k1
  clear H1 hb1 hB1 k1
  go_wp2_with fail
  clear hU1
  refine (H2.out _ HB1.out).mono ?_
  rintro e w2 ⟨rfl, hb2⟩
  have HB2 := Lib.hid (HB1.out.trans (hb2.mono HB1.out.size))
  have HK2 := Lib.hid ((hb2.block _ (heap_lt HK1.out)).trans HK1.out)
  clear H2 hb2 HB1 HK1 d0 d1 d2 d3 d4
  go_wp2_with fail
  refine (H3.out _ HB2.out).mono ?_
  rintro e w3 ⟨rfl, hb3⟩
  obtain ⟨U3, hU3, hB3, k3, _, _⟩ := step_box (o := .cells #[.int .i64 qc, .int .i64 qh, .int .i64 qt, .int .i64 qk, .int .i64 qi] 36) hb3
  have HK1 := Lib.hid ((hB3.block _ (heap_lt HK2.out)).trans HK2.out)
  have HB3 := Lib.hid (HB2.out.trans (hB3.mono HB2.out.size))
  have HK3 := Lib.hid k3
  clear H3 hb3 hB3 k3 HB2 HK2
  go_wp2_with fail
  clear hU3
  refine (H5.out _ HB3.out).mono ?_
  rintro e w4 ⟨rfl, hb4⟩
  obtain ⟨U4, hU4, hB4, k4, _, _⟩ := step_box (o := .cells #[.int .i64 yk, .int .i64 yn, .int .i64 ya, .int .i64 yc, .int .i64 yh, .int .i64 yt, .int .i64 yi, .int .i64 yp] 34) hb4
  have HB4 := Lib.hid (HB3.out.trans (hB4.mono HB3.out.size))
  have HK := Lib.hid (fun (V : World) (hV : Below U4.heap.size U4 V) => And.intro (row5 ((hV.block _ (by have := heap_lt HK1.out; have := hB4.size; omega)).trans ((hB4.block _ (heap_lt HK1.out)).trans HK1.out))) (row5 ((hV.block _ (by have := heap_lt HK3.out; have := hB4.size; omega)).trans ((hB4.block _ (heap_lt HK3.out)).trans HK3.out))))
  clear H5 hb4 hB4 k4 HB3 HK1 HK3
  obtain ⟨⟨d0, d1, d2, d3, d4⟩, e_0, e_1, e_2, e_3, e_4⟩ := HK.out _ (Below.refl _ _)
  go_wp2_with (first
    | (go_at_call 27; (with_reducible refine (H4.out _).mono ?_); rintro e w5 ⟨rfl, hb5⟩; clear d0 d1 d2 d3 d4 e_0 e_1 e_2 e_3 e_4; obtain ⟨⟨d0, d1, d2, d3, d4⟩, e_0, e_1, e_2, e_3, e_4⟩ := HK.out w5 hb5; have HB5 := Lib.hid (HB4.out.trans (hb5.mono HB4.out.size)); clear hb5)
    | (go_at_call 13; (with_reducible refine (HL.out _ HB5.out).mono ?_); rintro e w6 ⟨rfl, hb6⟩; have HB6 := Lib.hid (HB5.out.trans (hb6.mono HB5.out.size)); clear hb6))
  go_ret
  exact ⟨rfl, HB6.out⟩
theorem walk (a0 a1 : Int) (w : World) (w0 : I64 a0) (w1 : I64 a1) (hT : TN w) :
    Calls Tryd.prog 7 #[.int .i64 a0, .int .i64 a1] w fun e w' => e = .returned (.bool true) ∧ Below w.heap.size w w' := by
  have H1 := Lib.hid (fun V => questionOf_any a0 a1 w0 w1 V)
  have f1 := NM.quOf_ok a0 a1
  generalize NM.quOf a0 a1 = X at *
  obtain ⟨t1, t2⟩ := NM.okQs_text f1
  have t3 := NM.quT_noE f1
  have t4 : NM.parseE (NM.quT X) = NM.e0 := by unfold NM.parseE; rw [if_neg (by rw [t3]; simp)]
  have hlen := NM.quT_len X
  have H2 := Lib.hid (fun (V : World) (hV : Below w.heap.size w V) => Question_any X V (hT.below hV))
  have H3 := Lib.hid (fun (V : World) (hV : Below w.heap.size w V) => ParseQuestion_any (NM.quT X) V (hT.below hV) (by omega))
  rw [t1, t2] at H3
  have H5 := Lib.hid (fun (V : World) (hV : Below w.heap.size w V) => ParseEvent_any (NM.quT X) V (hT.below hV) (by omega))
  rw [t3, t4] at H5
  have H4 := Lib.hid (fun V => refQuestion_any X V f1)
  have q1 := fun V => eqQ_any X X V
  simp only [decide_true] at q1
  have HL := Lib.hid (fun (V : World) (hV : Below w.heap.size w V) => lives_any V (hT.below hV))
  obtain ⟨b0, b1, b2, b3, b4⟩ := X
  exact walk_gen a0 a1 _ _ _ _ _ _ _ _ _ _ _ _ _ _ w H1 H2 H3 H5 H4 HL q1
end Go.Proofs.YtigdohfkdglceaaDoor.LawNamesQuestionText
