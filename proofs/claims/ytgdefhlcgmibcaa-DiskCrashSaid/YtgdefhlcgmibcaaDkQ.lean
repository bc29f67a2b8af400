/-
  A slice of truths that came in. No function of the program.
-/
import Derived.Test.YtgdefhlcgmibcaaDkP
namespace Go.Proofs.Ytgdefhlcgmibcaa
open Go Go.RowKit Go.Proofs

/-- What a law is told of a slice of truths that came in. -/
def BRow (w : World) (a : Option Addr) (len cap : Nat) (B : Nat → Bool) : Prop := (a = none ∧ len = 0 ∧ cap = 0) ∨ ∃ x, a = some x ∧ len ≤ cap ∧ cap ≤ maxLen ∧ ∀ i, i < cap → w.cell? (x.add i) = some (.bool (B i))
theorem BRow.src {w : World} {a : Option Addr} {len cap : Nat} {B : Nat → Bool} (h : BRow w a len cap B) {m : Nat} (hm : m ≤ len) {V : World} (hV : Below w.heap.size w V) : RgX.Src V a m cap (DK.blsC ((List.range m).map B)) := by
  rcases h with ⟨rfl, rfl, rfl⟩ | ⟨x, rfl, hl, _, hc⟩
  · obtain rfl : m = 0 := by omega
    exact .inl ⟨rfl, rfl, rfl, rfl⟩
  · refine .inr ⟨x, rfl, fun j u hu => ?_⟩
    have hj : j < m := by
      have := (List.getElem?_eq_some_iff.1 hu).1
      simpa [DK.blsC] using this
    have hb := hc j (by omega)
    have hlt : (x.add j).block < w.heap.size := World.block_lt_of_cell? w _ hb
    rw [hV.cell hlt, hb, ← hu]
    simp [DK.blsC, hj]
theorem BRow.le {w : World} {a : Option Addr} {len cap : Nat} {B : Nat → Bool} (h : BRow w a len cap B) : len ≤ cap ∧ cap ≤ maxLen := by
  rcases h with ⟨rfl, rfl, rfl⟩ | ⟨x, rfl, hl, hm, _⟩
  · exact ⟨Nat.le_refl _, by simp [maxLen]⟩
  · exact ⟨hl, hm⟩
theorem bls_of_own {w : World} {base n c : Nat} {A : Option Addr} {bs : List Bool} (h : w.ownsRow base 4 1 (.slice A n c) n (DK.blsC bs)) : Bls base w A n c bs := Rw.of_own h
end Go.Proofs.Ytgdefhlcgmibcaa
