/-
  Rows of bytes: as rows of one-cell structs, as own rows that grow in a drawn region. No function of the program.
-/
import Derived.Test.YtiokiecnglmbnaaK44
import Derived.Test.YtiokiecnglmbnaaK50

namespace Go.Proofs.Ytiokiecnglmbnaa
open Go Go.RowKit Go.Proofs
def byE : RS.Enc Int := ⟨fun x => [.int .u8 x], 1, fun _ => rfl, fun x u hu => by simp at hu; subst hu; rfl⟩
theorem flat_by (l : List Int) : RS.flat byE l = l.map (Value.int .u8) := by
  induction l with
  | nil => rfl
  | cons x t ih =>
    show [Value.int .u8 x] ++ RS.flat byE t = _
    rw [ih]
    rfl
theorem by_sl {w : World} {base n c : Nat} {A : Option Addr} {l : List Int} (h : w.ownsRow base 5 1 (.slice A n c) n (l.map (Value.int .u8))) (hl : l.length = n) : RS.Sl byE w A n c l :=
  RS.Sl.of_own (E := byE) (t := 5) (base := base) (by rw [flat_by]; exact h) hl
/-- A row in another block than h. -/
def RgX.Sp.rownB (h : Option Nat) (C : Array Value) (t : TypeId) (n : Nat) : RgX.Sp := ⟨fun w x => ∃ g, x = .slice (some ⟨g, 0, none⟩) n n ∧ w.heap[g]? = some (.cells C t (0, 0)) ∧ some g ≠ h, fun ⟨g, e, h1, h2⟩ hb => ⟨g, e, (hb.block g (Array.getElem?_eq_some_iff.1 h1).1).trans h1, h2⟩⟩
/-- The row that grows: ahead of one more byte, and behind it. -/
def ByOwn (U : World) (v0 : Value) (n : Nat) (xs ys : List Value) (b : Bool) (w : World) (v : Value) : Prop :=
  (Below U.heap.size U w ∧ ∀ j, v0.ownBlock = some j → j < w.heap.size) ∧ (if b = true then (∃ B c, v = .slice B (n + 1) c ∧ w.ownsRow U.heap.size 5 1 (.slice B (n + 1) c) (n + 1) (xs ++ ys)) else v = v0 ∧ w.ownsRow U.heap.size 5 1 v0 n xs)
theorem ByOwn.keep {U : World} {v0 : Value} {n : Nat} {xs ys : List Value} (b : Bool) (w w' : World) (v : Value) (h : ByOwn U v0 n xs ys b w v) (hb : Below w.heap.size w w') : ByOwn U v0 n xs ys b w' v := by
  refine ⟨⟨h.1.1.trans (hb.mono h.1.1.size), fun j hj => Nat.lt_of_lt_of_le (h.1.2 j hj) hb.size⟩, ?_⟩
  have h2 := h.2
  cases b with
  | false =>
    rw [if_neg (by decide)] at h2 ⊢
    exact ⟨h2.1, own_belowW h2.2 hb⟩
  | true =>
    rw [if_pos rfl] at h2 ⊢
    obtain ⟨B, c, e, h3⟩ := h2
    exact ⟨B, c, e, own_belowW h3 hb⟩
theorem map_u8_app {A B : List Int} : (A ++ B).map (Value.int .u8) = A.map (Value.int .u8) ++ B.map (Value.int .u8) := List.map_append
end Go.Proofs.Ytiokiecnglmbnaa
