/-
  What a law is told of an argument of the types api.Event and api.Question. No function of the program.
-/
import Derived.Test.YtggallpnbbidfaaGreatDoorNmAm
namespace Go.Proofs.YtggallpnbbidfaaGreatDoor
open Go Go.RowKit Go.Proofs Go.WideShapes

section
variable {H : Type} {enc : TypeId × Value → H} {w : World} {base b0 : Nat} {spare : Nat → Bool} {held : Bool} {r : Reach} {v : Value} {d : DataW H} {ps : List MemPlace}
theorem cells_event : Tryz.prog.cellsOf 28 = 8 := by kernel_rfl
theorem cells_question : Tryz.prog.cellsOf 36 = 5 := by kernel_rfl
set_option maxRecDepth 100000 in
theorem event_ints {n : Nat} {cs : List Value} {x : DataW H × List MemPlace} (h : DataW.trod enc Tryz.prog w base spare held n 28 cs = some x) : ∃ k n a c h t i p : Int, cs = [.int .i64 k, .int .i64 n, .int .i64 a, .int .i64 c, .int .i64 h, .int .i64 t, .int .i64 i, .int .i64 p] := by
  obtain ⟨xs, m, _, _, hl, hx, hf⟩ := DataW.trod_struct Tryz.underlying28 h
  rw [cells_event] at hl
  match cs, hl with
  | [c0, c1, c2, c3, c4, c5, c6, c7], _ =>
  have h0 : DataW.trod enc Tryz.prog w base spare held m 3 (([c0, c1, c2, c3, c4, c5, c6, c7].drop 0).take (Tryz.prog.cellsOf 3)) = xs[0]? := hf 0 _ rfl
  have h1 : DataW.trod enc Tryz.prog w base spare held m 3 (([c0, c1, c2, c3, c4, c5, c6, c7].drop 1).take (Tryz.prog.cellsOf 3)) = xs[1]? := hf 1 _ rfl
  have h2 : DataW.trod enc Tryz.prog w base spare held m 3 (([c0, c1, c2, c3, c4, c5, c6, c7].drop 2).take (Tryz.prog.cellsOf 3)) = xs[2]? := hf 2 _ rfl
  have h3 : DataW.trod enc Tryz.prog w base spare held m 26 (([c0, c1, c2, c3, c4, c5, c6, c7].drop 3).take (Tryz.prog.cellsOf 26)) = xs[3]? := hf 3 _ rfl
  rw [cells_one] at h0 h1 h2
  rw [cells_msg] at h3
  rw [List.getElem?_eq_getElem (by rw [hx]; decide)] at h0 h1 h2 h3
  obtain ⟨a0, e0, _⟩ := DataW.trod_int Tryz.underlying3 h0
  obtain ⟨a1, e1, _⟩ := DataW.trod_int Tryz.underlying3 h1
  obtain ⟨a2, e2, _⟩ := DataW.trod_int Tryz.underlying3 h2
  obtain ⟨a3, a4, a5, a6, a7, e3⟩ := msg_ints h3
  simp at e0 e1 e2 e3
  obtain ⟨rfl, rfl, rfl, rfl, rfl⟩ := e3
  subst e0 e1 e2
  exact ⟨a0, a1, a2, a3, a4, a5, a6, a7, rfl⟩
set_option maxRecDepth 100000 in
theorem question_ints {n : Nat} {cs : List Value} {x : DataW H × List MemPlace} (h : DataW.trod enc Tryz.prog w base spare held n 36 cs = some x) : ∃ c h t k i : Int, cs = [.int .i64 c, .int .i64 h, .int .i64 t, .int .i64 k, .int .i64 i] := by
  obtain ⟨xs, m, _, _, hl, hx, hf⟩ := DataW.trod_struct Tryz.underlying36 h
  rw [cells_question] at hl
  match cs, hl with
  | [c0, c1, c2, c3, c4], _ =>
  have h0 : DataW.trod enc Tryz.prog w base spare held m 24 (([c0, c1, c2, c3, c4].drop 0).take (Tryz.prog.cellsOf 24)) = xs[0]? := hf 0 _ rfl
  have h1 : DataW.trod enc Tryz.prog w base spare held m 3 (([c0, c1, c2, c3, c4].drop 3).take (Tryz.prog.cellsOf 3)) = xs[1]? := hf 1 _ rfl
  have h2 : DataW.trod enc Tryz.prog w base spare held m 3 (([c0, c1, c2, c3, c4].drop 4).take (Tryz.prog.cellsOf 3)) = xs[2]? := hf 2 _ rfl
  rw [cells_one] at h1 h2
  rw [cells_cause] at h0
  rw [List.getElem?_eq_getElem (by rw [hx]; decide)] at h0 h1 h2
  obtain ⟨a0, a1, a2, e0⟩ := cause_ints h0
  obtain ⟨a3, e1, _⟩ := DataW.trod_int Tryz.underlying3 h1
  obtain ⟨a4, e2, _⟩ := DataW.trod_int Tryz.underlying3 h2
  simp at e0 e1 e2
  obtain ⟨rfl, rfl, rfl⟩ := e0
  subst e1 e2
  exact ⟨a0, a1, a2, a3, a4, rfl⟩
set_option maxRecDepth 100000 in
theorem open_event (hv : Value.okWide Tryz.prog w r b0 28 v) (h : DataW.Trod enc Tryz.prog w base spare held 28 v d ps) : ∃ k n a c h t i p : Int, v = .agg #[.int .i64 k, .int .i64 n, .int .i64 a, .int .i64 c, .int .i64 h, .int .i64 t, .int .i64 i, .int .i64 p] := by
  obtain ⟨cs, rfl, _⟩ := okWide_struct Tryz.underlying28 hv
  obtain ⟨fuel, hf⟩ := h
  obtain ⟨a0, a1, a2, a3, a4, a5, a6, a7, e⟩ := event_ints hf
  refine ⟨a0, a1, a2, a3, a4, a5, a6, a7, ?_⟩
  simp only [Value.cells] at e
  have : cs = #[.int .i64 a0, .int .i64 a1, .int .i64 a2, .int .i64 a3, .int .i64 a4, .int .i64 a5, .int .i64 a6, .int .i64 a7] := by
    obtain ⟨l⟩ := cs
    simpa using e
  rw [this]
set_option maxRecDepth 100000 in
theorem open_question (hv : Value.okWide Tryz.prog w r b0 36 v) (h : DataW.Trod enc Tryz.prog w base spare held 36 v d ps) : ∃ c h t k i : Int, v = .agg #[.int .i64 c, .int .i64 h, .int .i64 t, .int .i64 k, .int .i64 i] := by
  obtain ⟨cs, rfl, _⟩ := okWide_struct Tryz.underlying36 hv
  obtain ⟨fuel, hf⟩ := h
  obtain ⟨a0, a1, a2, a3, a4, e⟩ := question_ints hf
  refine ⟨a0, a1, a2, a3, a4, ?_⟩
  simp only [Value.cells] at e
  have : cs = #[.int .i64 a0, .int .i64 a1, .int .i64 a2, .int .i64 a3, .int .i64 a4] := by
    obtain ⟨l⟩ := cs
    simpa using e
  rw [this]
end
end Go.Proofs.YtggallpnbbidfaaGreatDoor
