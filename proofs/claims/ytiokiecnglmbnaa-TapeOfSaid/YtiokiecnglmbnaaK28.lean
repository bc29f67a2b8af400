/-
  What a law is told of an integer that came in. No function of the program.
  What a law is told of an argument of the type api.Msg. No function of the program.
-/
import Derived.Test.YtiokiecnglmbnaaK3
import Derived.OpenShut
import Derived.Deep.Slices
import Derived.Lib.SmallJoins
import Derived.WideShapes

namespace Go.Proofs.Ytiokiecnglmbnaa
open Go Go.RowKit Go.Proofs Go.WideShapes

theorem cells_one : Try.prog.cellsOf 3 = 1 := by kernel_rfl
theorem i64_wf {x : Int} (h : (Lit.int .i64 x).wf = true) : I64 x := by
  exact i64_of (l := [x]) (fun n hn => by simp at hn; rw [hn]; exact h) x (by simp)
end Go.Proofs.Ytiokiecnglmbnaa

namespace Go.Proofs.Ytiokiecnglmbnaa
open Go Go.RowKit Go.Proofs Go.WideShapes

section
variable {H : Type} {enc : TypeId × Value → H} {w : World} {base b0 : Nat} {spare : Nat → Bool} {held : Bool} {r : Reach} {v : Value} {d : DataW H} {ps : List MemPlace}
theorem cells_cause : Try.prog.cellsOf 28 = 3 := by kernel_rfl
theorem cells_msg : Try.prog.cellsOf 45 = 5 := by kernel_rfl
set_option maxRecDepth 100000 in
theorem cause_ints {n : Nat} {cs : List Value} {x : DataW H × List MemPlace} (h : DataW.trod enc Try.prog w base spare held n 28 cs = some x) : ∃ a b c : Int, cs = [.int .i64 a, .int .i64 b, .int .i64 c] := by
  obtain ⟨xs, m, _, _, hl, hx, hf⟩ := DataW.trod_struct Try.underlying28 h
  rw [cells_cause] at hl
  match cs, hl with
  | [c0, c1, c2], _ =>
  have h0 : DataW.trod enc Try.prog w base spare held m 3 (([c0, c1, c2].drop 0).take (Try.prog.cellsOf 3)) = xs[0]? := hf 0 _ rfl
  have h1 : DataW.trod enc Try.prog w base spare held m 3 (([c0, c1, c2].drop 1).take (Try.prog.cellsOf 3)) = xs[1]? := hf 1 _ rfl
  have h2 : DataW.trod enc Try.prog w base spare held m 3 (([c0, c1, c2].drop 2).take (Try.prog.cellsOf 3)) = xs[2]? := hf 2 _ rfl
  rw [cells_one] at h0 h1 h2
  rw [List.getElem?_eq_getElem (by rw [hx]; decide)] at h0 h1 h2
  obtain ⟨a, e0, _⟩ := DataW.trod_int Try.underlying3 h0
  obtain ⟨b, e1, _⟩ := DataW.trod_int Try.underlying3 h1
  obtain ⟨c, e2, _⟩ := DataW.trod_int Try.underlying3 h2
  simp at e0 e1 e2
  subst e0 e1 e2
  exact ⟨a, b, c, rfl⟩
set_option maxRecDepth 100000 in
theorem msg_ints {n : Nat} {cs : List Value} {x : DataW H × List MemPlace} (h : DataW.trod enc Try.prog w base spare held n 45 cs = some x) : ∃ a b c i p : Int, cs = [.int .i64 a, .int .i64 b, .int .i64 c, .int .i64 i, .int .i64 p] := by
  obtain ⟨xs, m, _, _, hl, hx, hf⟩ := DataW.trod_struct Try.underlying45 h
  rw [cells_msg] at hl
  match cs, hl with
  | [c0, c1, c2, c3, c4], _ =>
  have h0 : DataW.trod enc Try.prog w base spare held m 28 (([c0, c1, c2, c3, c4].drop 0).take (Try.prog.cellsOf 28)) = xs[0]? := hf 0 _ rfl
  have h1 : DataW.trod enc Try.prog w base spare held m 3 (([c0, c1, c2, c3, c4].drop 3).take (Try.prog.cellsOf 3)) = xs[1]? := hf 1 _ rfl
  have h2 : DataW.trod enc Try.prog w base spare held m 3 (([c0, c1, c2, c3, c4].drop 4).take (Try.prog.cellsOf 3)) = xs[2]? := hf 2 _ rfl
  rw [cells_one] at h1 h2
  rw [cells_cause] at h0
  rw [List.getElem?_eq_getElem (by rw [hx]; decide)] at h0 h1 h2
  obtain ⟨a, b, c, e0⟩ := cause_ints h0
  obtain ⟨i, e1, _⟩ := DataW.trod_int Try.underlying3 h1
  obtain ⟨p, e2, _⟩ := DataW.trod_int Try.underlying3 h2
  simp at e0 e1 e2
  obtain ⟨rfl, rfl, rfl⟩ := e0
  subst e1 e2
  exact ⟨a, b, c, i, p, rfl⟩
set_option maxRecDepth 100000 in
theorem open_msg (hv : Value.okWide Try.prog w r b0 45 v) (h : DataW.Trod enc Try.prog w base spare held 45 v d ps) : ∃ a b c i p : Int, v = .agg #[.int .i64 a, .int .i64 b, .int .i64 c, .int .i64 i, .int .i64 p] := by
  obtain ⟨cs, rfl, _⟩ := okWide_struct Try.underlying45 hv
  obtain ⟨fuel, hf⟩ := h
  obtain ⟨a, b, c, i, p, e⟩ := msg_ints hf
  refine ⟨a, b, c, i, p, ?_⟩
  simp only [Value.cells] at e
  have : cs = #[.int .i64 a, .int .i64 b, .int .i64 c, .int .i64 i, .int .i64 p] := by
    obtain ⟨l⟩ := cs
    simpa using e
  rw [this]
end
end Go.Proofs.Ytiokiecnglmbnaa
