/-
  A question that came in as an argument; the tape's contracts over tapes wherever they lie (Sp.tin). No function of its own.
-/
import Derived.Test.YtiokiecnglmbnaaK39
import Derived.Test.YtiokiecnglmbnaaK34
import Derived.Test.YtiokiecnglmbnaaK24
import Derived.Test.YtiokiecnglmbnaaK21

namespace Go.Proofs.Ytiokiecnglmbnaa
open Go Go.RowKit Go.Proofs Go.WideShapes
section
variable {H : Type} {enc : TypeId × Value → H} {w : World} {base b0 : Nat} {spare : Nat → Bool} {held : Bool} {r : Reach} {v : Value} {d : DataW H} {ps : List MemPlace}
set_option maxRecDepth 100000 in
theorem open_que (hv : Value.okWide Try.prog w r b0 30 v) (h : DataW.Trod enc Try.prog w base spare held 30 v d ps) : ∃ c h t k i : Int, v = .agg #[.int .i64 c, .int .i64 h, .int .i64 t, .int .i64 k, .int .i64 i] := by
  obtain ⟨cs, rfl, _⟩ := okWide_struct Try.underlying30 hv
  obtain ⟨fuel, hf⟩ := h
  obtain ⟨a0, a1, a2, a3, a4, e, _⟩ := qu_w hf
  refine ⟨a0, a1, a2, a3, a4, ?_⟩
  simp only [Value.cells] at e
  have : cs = #[.int .i64 a0, .int .i64 a1, .int .i64 a2, .int .i64 a3, .int .i64 a4] := by
    obtain ⟨l⟩ := cs
    simp only at e
    rw [e]
  rw [this]
end
/-- A tape wherever it lies. -/
def RgX.Sp.tin (es : List NM.Ev) (l : List TP.An) : RgX.Sp := ⟨fun w x => ∃ E c A d, x = .agg #[.slice E es.length c, .slice A l.length d] ∧ TIn w E es.length c A l.length es l, fun ⟨E, c, A, d, e, h⟩ hb => ⟨E, c, A, d, e, h.keep hb⟩⟩
theorem own_tin {w' : World} {E A : Option Addr} {ne ce na ca lo : Nat} {es : List NM.Ev} {l : List TP.An} (h : w'.ownsRow lo 47 8 (.slice E ne ce) ne (es.flatMap evC)) (hr : AnsR w' A na ca l) (hne : es.length = ne) (h1 : ne ≤ 1000) (h2 : na ≤ 1000) : TIn w' E ne ce A na es l :=
  ⟨evs_of_own h hne, nil_of_own h, hr.ans, by omega, by omega⟩
theorem refNormal_tin {E A : Option Addr} {ne ce na ca : Nat} {es : List NM.Ev} {l nl : List TP.An} (w : World) (h : TIn w E ne ce A na es l) (h1 : es.length ≤ 10) (h2 : l.length ≤ 20) (hl : TP.normA l = nl) :
    Calls Try.prog 15 #[.agg #[.slice E ne ce, .slice A na ca]] w fun e w' => (∃ v, e = .returned v ∧ (RgX.Sp.tin es nl).p w' v) ∧ Below w.heap.size w w' := by
  have e1 := h.ev.1
  have e2 := h.an.1
  refine (refNormal_any (ca := ca) w h (by omega)).mono ?_
  rintro e w' ⟨⟨E', ce', A', m, c', rfl, hE, hR⟩, hb⟩
  rw [hl] at hR
  have hm := hR.len
  have hn := TP.norm_len l
  rw [hl] at hn
  subst e1 hm
  exact ⟨⟨_, rfl, E', ce', A', c', rfl, own_tin hE hR rfl (by omega) (by omega)⟩, hb⟩
theorem refWith_tin {E A : Option Addr} {ne ce na ca : Nat} {es : List NM.Ev} {l nl : List TP.An} (q : NM.Qu) (y : Int) (w : World) (h : TIn w E ne ce A na es l) (hA : A = none → na = 0 ∧ ca = 0) (h1 : es.length ≤ 10) (h2 : l.length ≤ 20) (hl : TP.withA l q y = nl) :
    Calls Try.prog 20 #[.agg #[.slice E ne ce, .slice A na ca], quV q, .int .i64 y] w fun e w' => (∃ v, e = .returned v ∧ (RgX.Sp.tin es nl).p w' v) ∧ Below w.heap.size w w' := by
  have e1 := h.ev.1
  have e2 := h.an.1
  refine (refWith_any (ca := ca) q y w h hA (by omega)).mono ?_
  rintro e w' ⟨⟨E', ce', A', m, c', rfl, hE, hR⟩, hb⟩
  have hn : (TP.withA l q y).length ≤ (l ++ [(q, y)]).length := TP.norm_len _
  rw [hl] at hR hn
  have hm := hR.len
  simp only [List.length_append, List.length_cons, List.length_nil] at hn
  subst e1 hm
  exact ⟨⟨_, rfl, E', ce', A', c', rfl, own_tin hE hR rfl (by omega) (by omega)⟩, hb⟩
theorem with_tin {E A : Option Addr} {ne ce na ca : Nat} {es : List NM.Ev} {l nl : List TP.An} (q : NM.Qu) (y : Int) (w : World) (h : TIn w E ne ce A na es l) (h1 : es.length ≤ 10) (h2 : l.length ≤ 20) (hl : TP.withA l q y = nl) :
    Calls Try.prog 23 #[.agg #[.slice E ne ce, .slice A na ca], quV q, .int .i64 y] w fun e w' => (∃ v, e = .returned v ∧ (RgX.Sp.tin es nl).p w' v) ∧ Below w.heap.size w w' := by
  refine (with_any (ce := ce) (ca := ca) q y w h).mono ?_
  rintro e w' ⟨⟨v, rfl, E', ne', c', A', m, d', rfl, hT⟩, hb⟩
  have hn : (TP.withA l q y).length ≤ (l ++ [(q, y)]).length := TP.norm_len _
  rw [hl] at hT hn
  simp only [List.length_append, List.length_cons, List.length_nil] at hn
  obtain rfl := hT.1.1
  obtain rfl := hT.1.2
  exact ⟨⟨_, rfl, E', c', A', d', rfl, TapeIs.tin hT (by omega) (by omega)⟩, hb⟩
theorem normal_tin {E A : Option Addr} {ne ce na ca : Nat} {es : List NM.Ev} {l nl : List TP.An} (w : World) (h : TIn w E ne ce A na es l) (h1 : es.length ≤ 10) (h2 : l.length ≤ 20) (hl : TP.normA l = nl) :
    Calls Try.prog 17 #[.agg #[.slice E ne ce, .slice A na ca]] w fun e w' => (∃ v, e = .returned v ∧ (RgX.Sp.tin es nl).p w' v) ∧ Below w.heap.size w w' := by
  refine (normal_any (ce := ce) (ca := ca) w h).mono ?_
  rintro e w' ⟨⟨v, rfl, E', ne', c', A', m, d', rfl, hT⟩, hb⟩
  have hn := TP.norm_len l
  rw [hl] at hT hn
  obtain rfl := hT.1.1
  obtain rfl := hT.1.2
  exact ⟨⟨_, rfl, E', c', A', d', rfl, TapeIs.tin hT (by omega) (by omega)⟩, hb⟩
end Go.Proofs.Ytiokiecnglmbnaa
