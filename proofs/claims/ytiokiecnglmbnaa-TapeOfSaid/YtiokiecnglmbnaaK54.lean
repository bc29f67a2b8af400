/-
  A slice of slices of integers that came in as an argument. No function of the program.
-/
import Derived.Test.YtiokiecnglmbnaaK3
import Derived.Deep.Matrix

namespace Go.Proofs.Ytiokiecnglmbnaa
open Go Go.RowKit Go.Proofs Go.WideShapes Go.Deep

/-- What a law is told of a slice of slices of integers. -/
def Grid (w : World) (a : Option Addr) (len : Nat) : Prop := 0 < len → ∃ b off, a = some ⟨b, off, none⟩ ∧ b < w.heap.size ∧ ∀ r, r < len → ∃ A L C Z, w.cell? ⟨b, off + r, none⟩ = some (.slice A L C) ∧ Row .i64 w A L C Z
set_option maxRecDepth 100000 in
theorem open_grid {H : Type} {enc : TypeId × Value → H} {w : World} {base : Nat} {held : Bool} {a : Option Addr} {len cap : Nat} {d : DataW H} {ps : List MemPlace} (h : DataW.Trod enc Try.prog w base (fun _ => true) held 42 (.slice a len cap) d ps) : Grid w a len := by
  obtain ⟨fuel, hf⟩ := h
  rcases open_int_rows Try.underlying42 Try.underlying22 Try.underlying3 (by kernel_rfl) (by kernel_rfl) hf with ⟨hcs, _⟩ | ⟨x, l, c, A, L, C, Z, hcs, _, hl, hm, _, hcell⟩
  · simp [Value.cells] at hcs
    obtain ⟨rfl, rfl, rfl⟩ := hcs
    exact fun h => absurd h (by decide)
  · simp [Value.cells] at hcs
    obtain ⟨rfl, rfl, rfl⟩ := hcs
    intro hlt
    obtain ⟨b, off, spot⟩ := x
    have hspot : spot = none := by simpa [Addr.add] using World.cell?_spot (hcell 0 (by omega)).1
    subst hspot
    have hc : ∀ r, r < len → w.cell? ⟨b, off + r, none⟩ = some (.slice (A r) (L r) (C r)) := fun r hr => by rw [← Go.WideShapes.add_plain]; exact (hcell r (by omega)).1
    have hb : b < w.heap.size := by
      have h0 := hc 0 hlt
      rcases Nat.lt_or_ge b w.heap.size with h | h
      · exact h
      · simp [World.cell?, Array.getElem?_eq_none h] at h0
    refine ⟨b, off, rfl, hb, fun r hr => ⟨A r, L r, C r, Z r, hc r hr, ?_⟩⟩
    obtain ⟨_, h1, h2, h3, h4, h5, h6⟩ := hcell r (by omega)
    cases hA : A r with
    | none =>
      have h7 := h5 hA
      refine .inl ⟨rfl, by omega, h7, List.eq_nil_of_length_eq_zero (by omega)⟩
    | some a' => exact .inr ⟨a', rfl, h1, h2, h3, fun i hi => (h6 a' hA).2 i (by omega), h4⟩
end Go.Proofs.Ytiokiecnglmbnaa
