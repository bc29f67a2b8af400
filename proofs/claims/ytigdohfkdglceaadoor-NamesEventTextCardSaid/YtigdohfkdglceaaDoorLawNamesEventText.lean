/-
  The walk of NamesEventText: the text of a generated event is the one that the document names, and it parses to the same. Condition: the listed tables and variables stand (TN).
-/
import Derived.Test.YtigdohfkdglceaaDoorNmKc
import Derived.Test.YtigdohfkdglceaaDoorNmL
import Derived.Test.YtigdohfkdglceaaDoorNmAr
import Derived.Test.YtigdohfkdglceaaDoorNmRe
namespace Go.Proofs.YtigdohfkdglceaaDoor.LawNamesEventText
open Go Go.RowKit Go.Proofs Go.Proofs.YtigdohfkdglceaaDoor
attribute [local go_sem] Oper.semAt_some

theorem step_box {V w1 : World} {o : Obj} (hb : Below V.heap.size V w1) : ∃ U, w1.alloc o = U ∧ Below V.heap.size V U ∧ U.heap[w1.heap.size]? = some o ∧ V.heap.size ≤ w1.heap.size ∧ w1.heap.size < U.heap.size :=
  ⟨_, rfl, hb.trans ((one_box w1 o).mono hb.size), new_at rfl, hb.size, by simp⟩
set_option maxHeartbeats 4000000 in
set_option maxRecDepth 100000 in
theorem walk_gen (a b : Int) (xk xn xa xc xh xt xi xp : Int) (S : ByteArray) (w : World)
    (H1 : Hid (∀ V, Calls Tryd.prog 20 #[.int .i64 a, .int .i64 b] V fun e w' => e = .returned (.agg #[.int .i64 xk, .int .i64 xn, .int .i64 xa, .int .i64 xc, .int .i64 xh, .int .i64 xt, .int .i64 xi, .int .i64 xp]) ∧ Below V.heap.size V w'))
    (H2 : Hid (∀ V, Below w.heap.size w V → Calls Tryd.prog 21 #[.agg #[.int .i64 xk, .int .i64 xn, .int .i64 xa, .int .i64 xc, .int .i64 xh, .int .i64 xt, .int .i64 xi, .int .i64 xp]] V fun e w' => e = .returned (.string S) ∧ Below V.heap.size V w'))
    (H3 : Hid (∀ V, Below w.heap.size w V → Calls Tryd.prog 22 #[.string S] V fun e w' => e = .returned (.tuple #[.agg #[.int .i64 xk, .int .i64 xn, .int .i64 xa, .int .i64 xc, .int .i64 xh, .int .i64 xt, .int .i64 xi, .int .i64 xp], .int .i64 0]) ∧ Below V.heap.size V w'))
    (H4 : Hid (∀ V, Calls Tryd.prog 23 #[.agg #[.int .i64 xk, .int .i64 xn, .int .i64 xa, .int .i64 xc, .int .i64 xh, .int .i64 xt, .int .i64 xi, .int .i64 xp]] V fun e w' => e = .returned (.string S) ∧ Below V.heap.size V w'))
    (HL : Hid (∀ V, Below w.heap.size w V → Calls Tryd.prog 13 #[] V fun e w' => e = .returned (.bool true) ∧ Below V.heap.size V w'))
    (hE : ∀ V, (binOp .eql 34 (.agg #[.int .i64 xk, .int .i64 xn, .int .i64 xa, .int .i64 xc, .int .i64 xh, .int .i64 xt, .int .i64 xi, .int .i64 xp]) (.agg #[.int .i64 xk, .int .i64 xn, .int .i64 xa, .int .i64 xc, .int .i64 xh, .int .i64 xt, .int .i64 xi, .int .i64 xp])).run Tryd.prog V = .ok (.bool true) V) :
    Calls Tryd.prog 6 #[.int .i64 a, .int .i64 b] w fun e w' => e = .returned (.bool true) ∧ Below w.heap.size w w' := by
  go_enter Tryd.func6, Tryd.ntmps6
  go_wp2_with fail
  refine (H1.out _).mono ?_
  rintro e w1 ⟨rfl, hb1⟩
  obtain ⟨U1, hU1, hB1, k1, _, _⟩ := step_box (o := .cells #[.int .i64 xk, .int .i64 xn, .int .i64 xa, .int .i64 xc, .int .i64 xh, .int .i64 xt, .int .i64 xi, .int .i64 xp] 34) hb1
  have HB1 := Lib.hid hB1
  have HK1 := Lib.hid k1
  obtain ⟨d0, d1, d2, d3, d4, d5, d6, d7⟩ := row8 k1
  clear H1 hb1 hB1 k1
  go_wp2_with fail
  clear hU1
  refine (H2.out _ HB1.out).mono ?_
  rintro e w2 ⟨rfl, hb2⟩
  have HB2 := Lib.hid (HB1.out.trans (hb2.mono HB1.out.size))
  have HK2 := Lib.hid ((hb2.block _ (heap_lt HK1.out)).trans HK1.out)
  clear H2 hb2 HB1 HK1 d0 d1 d2 d3 d4 d5 d6 d7
  go_wp2_with fail
  refine (H3.out _ HB2.out).mono ?_
  rintro e w3 ⟨rfl, hb3⟩
  obtain ⟨U3, hU3, hB3, k3, _, _⟩ := step_box (o := .cells #[.int .i64 xk, .int .i64 xn, .int .i64 xa, .int .i64 xc, .int .i64 xh, .int .i64 xt, .int .i64 xi, .int .i64 xp] 34) hb3
  have HK1 := Lib.hid ((hB3.block _ (heap_lt HK2.out)).trans HK2.out)
  have HB3 := Lib.hid (HB2.out.trans (hB3.mono HB2.out.size))
  have HK3 := Lib.hid k3
  clear H3 hb3 hB3 k3 HB2 HK2
  have HK := Lib.hid (fun (V : World) (hV : Below U3.heap.size U3 V) => And.intro (row8 ((hV.block _ (heap_lt HK1.out)).trans HK1.out)) (row8 ((hV.block _ (heap_lt HK3.out)).trans HK3.out)))
  obtain ⟨⟨d0, d1, d2, d3, d4, d5, d6, d7⟩, e_0, e_1, e_2, e_3, e_4, e_5, e_6, e_7⟩ := HK.out _ (Below.refl _ _)
  go_wp2_with (first
    | (go_at_call 23; (with_reducible refine (H4.out _).mono ?_); rintro e w5 ⟨rfl, hb5⟩; clear d0 d1 d2 d3 d4 d5 d6 d7 e_0 e_1 e_2 e_3 e_4 e_5 e_6 e_7; obtain ⟨⟨d0, d1, d2, d3, d4, d5, d6, d7⟩, e_0, e_1, e_2, e_3, e_4, e_5, e_6, e_7⟩ := HK.out w5 hb5; have HB5 := Lib.hid (HB3.out.trans (hb5.mono HB3.out.size)); clear hb5)
    | (go_at_call 13; (with_reducible refine (HL.out _ HB5.out).mono ?_); rintro e w6 ⟨rfl, hb6⟩; have HB6 := Lib.hid (HB5.out.trans (hb6.mono HB5.out.size)); clear hb6))
  go_ret
  exact ⟨rfl, HB6.out⟩
theorem walk (a0 a1 : Int) (w : World) (w0 : I64 a0) (w1 : I64 a1) (hT : TN w) :
    Calls Tryd.prog 6 #[.int .i64 a0, .int .i64 a1] w fun e w' => e = .returned (.bool true) ∧ Below w.heap.size w w' := by
  have H1 := Lib.hid (fun V => eventOf_any a0 a1 w0 w1 V)
  have f1 := NM.evOf_fits a0 a1
  generalize NM.evOf a0 a1 = X at *
  obtain ⟨t1, t2⟩ := NM.okE_text f1
  have hlen := NM.evT_len X
  have H2 := Lib.hid (fun (V : World) (hV : Below w.heap.size w V) => Event_any X V (hT.below hV))
  have H3 := Lib.hid (fun (V : World) (hV : Below w.heap.size w V) => ParseEvent_any (NM.evT X) V (hT.below hV) (by omega))
  rw [t1, t2] at H3
  have H4 := Lib.hid (fun V => refEvent_any X V f1)
  have q1 := fun V => eqE_any X X V
  simp only [decide_true] at q1
  have HL := Lib.hid (fun (V : World) (hV : Below w.heap.size w V) => lives_any V (hT.below hV))
  obtain ⟨b0, b1, b2, b3⟩ := X
  exact walk_gen a0 a1 _ _ _ _ _ _ _ _ _ w H1 H2 H3 H4 HL q1
end Go.Proofs.YtigdohfkdglceaaDoor.LawNamesEventText
