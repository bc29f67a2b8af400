/-
  What a law is told of an argument of the type [2]int, and of a slice that it does not read. No function of the program.
-/
import Derived.Test.YtlgdcbhdmffnoaaDoorK14
import Derived.OpenShut
import Derived.Deep.Slices
import Derived.Lib.SmallJoins
import Derived.WideShapes

namespace Go.Proofs.YtlgdcbhdmffnoaaDoor
open Go Go.RowKit Go.Proofs Go.WideShapes

/-- What the law is told of a slice that came in and is not read. -/
def IsSl (a : Option Addr) (len cap : Nat) : Prop := (a = none ∧ len = 0 ∧ cap = 0) ∨ ∃ x, a = some x ∧ len ≤ cap ∧ cap ≤ maxLen
theorem IsSl.le {a : Option Addr} {len cap : Nat} (h : IsSl a len cap) : len ≤ cap ∧ cap ≤ maxLen := by
  rcases h with ⟨_, rfl, rfl⟩ | ⟨x, _, h1, h2⟩
  · simp
  · exact ⟨h1, h2⟩
section
variable {H : Type} {enc : TypeId × Value → H} {w : World} {base b0 : Nat} {spare : Nat → Bool} {held : Bool} {r : Reach} {v : Value} {d : DataW H} {ps : List MemPlace}
theorem cells_two : Tryd.prog.cellsOf 23 = 2 := by kernel_rfl
theorem cells_one : Tryd.prog.cellsOf 3 = 1 := by kernel_rfl
set_option maxRecDepth 100000 in
theorem open_two (hv : Value.okWide Tryd.prog w r b0 23 v) (h : DataW.Trod enc Tryd.prog w base spare held 23 v d ps) : ∃ x y : Int, v = .agg #[.int .i64 x, .int .i64 y] := by
  simp only [Value.okWide, Tryd.underlying23] at hv
  obtain ⟨cs, rfl, hsz, _⟩ := hv
  rw [cells_two] at hsz
  obtain ⟨c0, c1, rfl⟩ : ∃ c0 c1, cs = #[c0, c1] := by
    obtain ⟨l⟩ := cs
    match l, hsz with
    | [a, b], _ => exact ⟨a, b, rfl⟩
  obtain ⟨fuel, hf⟩ := h
  obtain ⟨xs, m, _, _, _, hl, hel⟩ := DataW.trod_array Tryd.underlying23 hf
  rw [cells_one] at hel
  have h0 := hel 0 (by omega)
  have h1 := hel 1 (by omega)
  rw [List.getElem?_eq_getElem (by omega)] at h0 h1
  obtain ⟨x, hx, _⟩ := DataW.trod_int Tryd.underlying3 h0
  obtain ⟨y, hy, _⟩ := DataW.trod_int Tryd.underlying3 h1
  simp [Value.cells] at hx hy
  subst hx hy
  exact ⟨x, y, rfl⟩
theorem open_sl {A : Option Addr} {len cap : Nat} (h : DataW.Trod enc Tryd.prog w base spare held 25 (.slice A len cap) d ps) : IsSl A len cap := by
  obtain ⟨fuel, hf⟩ := h
  rcases Go.Deep.open_slice Tryd.underlying25 hf with ⟨e, _⟩ | ⟨a, l, c, m, n, D, Pl, e, _, h1, h2, _⟩
  · simp [Value.cells] at e
    obtain ⟨rfl, rfl, rfl⟩ := e
    exact .inl ⟨rfl, rfl, rfl⟩
  · simp [Value.cells] at e
    obtain ⟨rfl, rfl, rfl⟩ := e
    exact .inr ⟨a, rfl, h1, h2⟩
end
end Go.Proofs.YtlgdcbhdmffnoaaDoor
