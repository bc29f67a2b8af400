/-
  What a slot of a region is to hold, for disks: rows of integers, slices of writes, disks. No function of the program.
-/
import Derived.Test.YtgdefhlcgmibcaaDkC
namespace Go.Proofs.Ytgdefhlcgmibcaa.RgX
open Go Go.RowKit Go.Proofs Go.Proofs.Ytgdefhlcgmibcaa

/-- A whole row of integers made since block lo. -/
def Sp.cls (lo : Nat) (xs : List Int) (n : Nat) : Sp := ⟨fun w x => ∃ g, x = .slice (some ⟨g, 0, none⟩) n n ∧ w.heap[g]? = some (.cells (DK.intsC xs).toArray 3 (0, 0)) ∧ lo ≤ g,
  fun ⟨g, e, h, l⟩ hb => ⟨g, e, (hb.block g (blk_lt h)).trans h, l⟩⟩
/-- A slice of writes made since block lo. -/
def Sp.wrs (lo : Nat) (ws : List DK.Wr) (n : Nat) : Sp := ⟨fun w x => ∃ B r, x = .slice B n r ∧ Wrs lo w B n r ws, fun ⟨B, r, e, h⟩ hb => ⟨B, r, e, h.keep hb⟩⟩
/-- A slice of integers made since block lo. -/
def Sp.ints (lo : Nat) (xs : List Int) (n : Nat) : Sp := ⟨fun w x => ∃ B r, x = .slice B n r ∧ Cls lo w B n r xs, fun ⟨B, r, e, h⟩ hb => ⟨B, r, e, h.keep hb⟩⟩
/-- A slice of truths. -/
def Sp.bls (lo : Nat) (bs : List Bool) (n : Nat) : Sp := ⟨fun w x => ∃ B r, x = .slice B n r ∧ Bls lo w B n r bs, fun ⟨B, r, e, h⟩ hb => ⟨B, r, e, h.keep hb⟩⟩
/-- A disk made since block lo. -/
def Sp.dk (lo : Nat) (d : DK.Dk) (n m : Nat) : Sp := ⟨fun w x => ∃ A c P q, x = .agg #[.slice A n c, .slice P m q] ∧ Cls lo w A n c d.cells ∧ Wrs lo w P m q d.pend,
  fun ⟨A, c, P, q, e, h1, h2⟩ hb => ⟨A, c, P, q, e, h1.keep hb, h2.keep hb⟩⟩
theorem Sp.dk_of {lo : Nat} {d : DK.Dk} {w : World} {x : Value} {n m : Nat} (hn : d.cells.length = n) (hm : d.pend.length = m) (h : DkAt lo w x d) : (Sp.dk lo d n m).p w x := by
  obtain ⟨A, n', c, P, m', q, rfl, h1, h2⟩ := h
  obtain rfl : n' = n := h1.len.symm.trans hn
  obtain rfl : m' = m := h2.len.symm.trans hm
  exact ⟨A, c, P, q, rfl, h1, h2⟩
theorem dk_calls {P : Program} {f : FuncId} {args : Array Value} {w : World} {lo : Nat} {d : DK.Dk} {n m : Nat} (hn : d.cells.length = n) (hm : d.pend.length = m) (h : Calls P f args w fun e w' => (∃ y, e = .returned y ∧ DkAt lo w' y d) ∧ Below w.heap.size w w') : Calls P f args w fun e w' => (∃ y, e = .returned y ∧ (Sp.dk lo d n m).p w' y) ∧ Below w.heap.size w w' :=
  h.mono fun _ _ ⟨⟨y, e, hy⟩, hb⟩ => ⟨⟨y, e, Sp.dk_of hn hm hy⟩, hb⟩
theorem cls_calls {P : Program} {f : FuncId} {args : Array Value} {w : World} {lo : Nat} {xs : List Int} {n : Nat} (h : Calls P f args w fun e w' => (∃ g, e = .returned (.slice (some ⟨g, 0, none⟩) n n) ∧ lo ≤ g ∧ w'.heap[g]? = some (.cells (DK.intsC xs).toArray 3 (0, 0))) ∧ Below w.heap.size w w') : Calls P f args w fun e w' => (∃ y, e = .returned y ∧ (Sp.cls lo xs n).p w' y) ∧ Below w.heap.size w w' :=
  h.mono fun _ _ ⟨⟨g, e, hl, hg⟩, hb⟩ => ⟨⟨_, e, g, rfl, hg, hl⟩, hb⟩
/-- What was made later was made earlier, too. -/
theorem cls_calls_lo {P : Program} {f : FuncId} {args : Array Value} {w : World} {lo lo' : Nat} {xs : List Int} {n : Nat} (hl : lo' ≤ lo) (h : Calls P f args w fun e w' => (∃ g, e = .returned (.slice (some ⟨g, 0, none⟩) n n) ∧ lo ≤ g ∧ w'.heap[g]? = some (.cells (DK.intsC xs).toArray 3 (0, 0))) ∧ Below w.heap.size w w') : Calls P f args w fun e w' => (∃ y, e = .returned y ∧ (Sp.cls lo' xs n).p w' y) ∧ Below w.heap.size w w' :=
  cls_calls (h.mono fun _ _ ⟨⟨g, e, hl2, hg⟩, hb⟩ => ⟨⟨g, e, Nat.le_trans hl hl2, hg⟩, hb⟩)
theorem dk_calls_lo {P : Program} {f : FuncId} {args : Array Value} {w : World} {lo lo' : Nat} {d : DK.Dk} {n m : Nat} (hl : lo' ≤ lo) (hn : d.cells.length = n) (hm : d.pend.length = m) (h : Calls P f args w fun e w' => (∃ y, e = .returned y ∧ DkAt lo w' y d) ∧ Below w.heap.size w w') : Calls P f args w fun e w' => (∃ y, e = .returned y ∧ (Sp.dk lo' d n m).p w' y) ∧ Below w.heap.size w w' :=
  dk_calls hn hm (h.mono fun _ _ ⟨⟨y, e, hy⟩, hb⟩ => ⟨⟨y, e, hy.more hl⟩, hb⟩)
end Go.Proofs.Ytgdefhlcgmibcaa.RgX
