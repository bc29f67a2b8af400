/-
  What a law is told of an argument of the type [2]int. No function of the program.
-/
import Derived.Test.YtigdohfkdglceaaDoorNmT
import Derived.Test.YtigdohfkdglceaaDoorBase
import Derived.OpenShut
import Derived.Deep.Slices
import Derived.Lib.SmallJoins
import Derived.WideShapes
namespace Go.Proofs.YtigdohfkdglceaaDoor
open Go Go.RowKit Go.Proofs Go.WideShapes

section
variable {H : Type} {enc : TypeId × Value → H} {w : World} {base b0 : Nat} {spare : Nat → Bool} {held : Bool} {r : Reach} {v : Value} {d : DataW H} {ps : List MemPlace}
theorem cells_two : Tryd.prog.cellsOf 58 = 2 := by kernel_rfl
theorem cells_one : Tryd.prog.cellsOf 3 = 1 := by kernel_rfl
theorem i64_wf {x : Int} (h : (Lit.int .i64 x).wf = true) : I64 x := by
  exact i64_of (l := [x]) (fun n hn => by simp at hn; rw [hn]; exact h) x (by simp)
set_option maxRecDepth 100000 in
theorem open_two (hv : Value.okWide Tryd.prog w r b0 58 v) (h : DataW.Trod enc Tryd.prog w base spare held 58 v d ps) : ∃ x y : Int, v = .agg #[.int .i64 x, .int .i64 y] ∧ I64 x ∧ I64 y := by
  simp only [Value.okWide, Tryd.underlying58] at hv
  obtain ⟨cs, rfl, hsz, _⟩ := hv
  rw [cells_two] at hsz
  obtain ⟨c0, c1, rfl⟩ : ∃ c0 c1, cs = #[c0, c1] := by
    obtain ⟨l⟩ := cs
    match l, hsz with
    | [a, b], _ => exact ⟨a, b, rfl⟩
  obtain ⟨fuel, hf⟩ := h
  obtain ⟨xs, m, _, _, _, hl, hel⟩ := DataW.trod_array Tryd.underlying58 hf
  rw [cells_one] at hel
  have h0 := hel 0 (by omega)
  have h1 := hel 1 (by omega)
  rw [List.getElem?_eq_getElem (by omega)] at h0 h1
  obtain ⟨x, hx, _, wx⟩ := DataW.trod_int Tryd.underlying3 h0
  obtain ⟨y, hy, _, wy⟩ := DataW.trod_int Tryd.underlying3 h1
  simp [Value.cells] at hx hy
  subst hx hy
  exact ⟨x, y, rfl, i64_wf wx, i64_wf wy⟩
end
end Go.Proofs.YtigdohfkdglceaaDoor
