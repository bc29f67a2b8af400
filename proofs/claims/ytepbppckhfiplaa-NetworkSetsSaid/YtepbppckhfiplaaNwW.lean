/-
  Boxes of envelopes and of names: what is stored in them, what is read. No function of the program.
-/
import Derived.Test.YtepbppckhfiplaaNwQ
import Derived.Test.YtepbppckhfiplaaRgT
namespace Go.Proofs.Ytepbppckhfiplaa
open Go Go.RowKit Go.Proofs

/-- A box that holds an envelope; a box that holds a name. -/
def EnB (w : World) (g : Nat) (e : NW.En) : Prop := w.heap[g]? = some (.cells #[.int .i64 e.m.c, .int .i64 e.m.h, .int .i64 e.m.t, .int .i64 e.m.i, .int .i64 e.m.p, .int .i64 e.o, .int .i64 e.k, .int .i64 e.a, .int .i64 e.b] 28 (0, 0))
def MsB (w : World) (g : Nat) (m : NM.Ms) : Prop := w.heap[g]? = some (.cells #[.int .i64 m.c, .int .i64 m.h, .int .i64 m.t, .int .i64 m.i, .int .i64 m.p] 26 (0, 0))
theorem EnB.lt {w : World} {g : Nat} {e : NW.En} (h : EnB w g e) : g < w.heap.size := (Array.getElem?_eq_some_iff.1 h).1
theorem MsB.lt {w : World} {g : Nat} {m : NM.Ms} (h : MsB w g m) : g < w.heap.size := (Array.getElem?_eq_some_iff.1 h).1
theorem EnB.keep {w w' : World} {g : Nat} {e : NW.En} (h : EnB w g e) (hb : Below w.heap.size w w') : EnB w' g e := (hb.block g h.lt).trans h
theorem MsB.keep {w w' : World} {g : Nat} {m : NM.Ms} (h : MsB w g m) (hb : Below w.heap.size w w') : MsB w' g m := (hb.block g h.lt).trans h
theorem EnB.cells {w : World} {g : Nat} {e : NW.En} (h : EnB w g e) : w.cell? ⟨g, 0, none⟩ = some (.int .i64 e.m.c) ∧ w.cell? ⟨g, 1, none⟩ = some (.int .i64 e.m.h) ∧ w.cell? ⟨g, 2, none⟩ = some (.int .i64 e.m.t) ∧ w.cell? ⟨g, 3, none⟩ = some (.int .i64 e.m.i) ∧ w.cell? ⟨g, 4, none⟩ = some (.int .i64 e.m.p) ∧ w.cell? ⟨g, 5, none⟩ = some (.int .i64 e.o) ∧ w.cell? ⟨g, 6, none⟩ = some (.int .i64 e.k) ∧ w.cell? ⟨g, 7, none⟩ = some (.int .i64 e.a) ∧ w.cell? ⟨g, 8, none⟩ = some (.int .i64 e.b) :=
  ⟨cell_of_row _ _ 0 _ _ (0, 0) h, cell_of_row _ _ 1 _ _ (0, 0) h, cell_of_row _ _ 2 _ _ (0, 0) h, cell_of_row _ _ 3 _ _ (0, 0) h, cell_of_row _ _ 4 _ _ (0, 0) h, cell_of_row _ _ 5 _ _ (0, 0) h, cell_of_row _ _ 6 _ _ (0, 0) h, cell_of_row _ _ 7 _ _ (0, 0) h, cell_of_row _ _ 8 _ _ (0, 0) h⟩
theorem MsB.cells {w : World} {g : Nat} {m : NM.Ms} (h : MsB w g m) : w.cell? ⟨g, 0, none⟩ = some (.int .i64 m.c) ∧ w.cell? ⟨g, 1, none⟩ = some (.int .i64 m.h) ∧ w.cell? ⟨g, 2, none⟩ = some (.int .i64 m.t) ∧ w.cell? ⟨g, 3, none⟩ = some (.int .i64 m.i) ∧ w.cell? ⟨g, 4, none⟩ = some (.int .i64 m.p) := row5 h
theorem size_en : (Try.prog.info? 28).map (·.size) = some 9 := by kernel_rfl
theorem size_ms : (Try.prog.info? 26).map (·.size) = some 5 := by kernel_rfl
theorem size_i : (Try.prog.info? 3).map (·.size) = some 1 := by kernel_rfl
/-- A store of an envelope. -/
theorem store_en {ops : Array Oper} {rest : List Oper} {o : Oper} {a : Act} {w : World} {Q : Exit → Act → World → Prop} (hgd : o.guard = none) (x y : Operand) (ho : o.op = .store 28 x y) (g : Nat) (e0 e : NW.En) (hg : EnB w g e0)
    (hx : a.eval x = .pointer (some ⟨g, 0, none⟩)) (hy : a.eval y = enV e)
    (h : ∀ W', EnB W' g e → (∀ b, b ≠ g → W'.heap[b]? = w.heap[b]?) → Below g w W' → wpList Try.prog ops Q rest (a.put o.dst undef) W') : wpList Try.prog ops Q (o :: rest) a w :=
  RgX.wpList_store_seg hgd 28 x y ho g 0 (enV e) hx hy 28 _ hg (by rw [size_en]; rfl) (by show 0 + 9 ≤ 9; omega) (by simp [Value.cells, Value.oneCell']) _ rfl fun W' h1 h2 _ h4 => h W' h1 h2 h4
/-- A store of a name. -/
theorem store_ms {ops : Array Oper} {rest : List Oper} {o : Oper} {a : Act} {w : World} {Q : Exit → Act → World → Prop} (hgd : o.guard = none) (x y : Operand) (ho : o.op = .store 26 x y) (g : Nat) (e0 e : NM.Ms) (hg : MsB w g e0)
    (hx : a.eval x = .pointer (some ⟨g, 0, none⟩)) (hy : a.eval y = msV e)
    (h : ∀ W', MsB W' g e → (∀ b, b ≠ g → W'.heap[b]? = w.heap[b]?) → Below g w W' → wpList Try.prog ops Q rest (a.put o.dst undef) W') : wpList Try.prog ops Q (o :: rest) a w :=
  RgX.wpList_store_seg hgd 26 x y ho g 0 (msV e) hx hy 26 _ hg (by rw [size_ms]; rfl) (by show 0 + 5 ≤ 5; omega) (by simp [Value.cells, Value.oneCell']) _ rfl fun W' h1 h2 _ h4 => h W' h1 h2 h4
/-- A store of the name's copy number in an envelope's box. -/
theorem store_copy {ops : Array Oper} {rest : List Oper} {o : Oper} {a : Act} {w : World} {Q : Exit → Act → World → Prop} (hgd : o.guard = none) (x y : Operand) (ho : o.op = .store 3 x y) (g : Nat) (e : NW.En) (p : Int) (hg : EnB w g e)
    (hx : a.eval x = .pointer (some ⟨g, 4, none⟩)) (hy : a.eval y = .int .i64 p)
    (h : ∀ W', EnB W' g ⟨⟨e.m.c, e.m.h, e.m.t, e.m.i, p⟩, e.o, e.k, e.a, e.b⟩ → (∀ b, b ≠ g → W'.heap[b]? = w.heap[b]?) → Below g w W' → wpList Try.prog ops Q rest (a.put o.dst undef) W') : wpList Try.prog ops Q (o :: rest) a w :=
  RgX.wpList_store_seg hgd 3 x y ho g 4 (.int .i64 p) hx hy 28 _ hg (by rw [size_i]; rfl) (by show 4 + 1 ≤ 9; omega) (by simp [Value.cells, Value.oneCell']) _ rfl fun W' h1 h2 _ h4 => h W' h1 h2 h4
theorem own_low {w : World} {base n c size : Nat} {t : TypeId} {B : Option Addr} {xs : List Value} (h : w.ownsRow base t size (.slice B n c) n xs) : ∀ b, B = some b → base ≤ b.block := fun b e => by
  rcases h.2 with ⟨e1, _⟩ | ⟨g, cap, cur, e1, hb, _⟩
  · injection e1 with ea
    rw [e] at ea
    cases ea
  · injection e1 with ea
    rw [e] at ea
    injection ea with ea
    rw [ea]
    exact hb
namespace RgX.Sp
/-- A slice that holds these envelopes; these names. -/
def ens (lo : Nat) (l : List NW.En) (n : Nat) : Sp := ⟨fun w x => ∃ B c, x = .slice B n c ∧ Ens w B n c l ∧ ∀ b, B = some b → lo ≤ b.block, fun ⟨B, c, e, h, k⟩ hb => ⟨B, c, e, h.keep hb, k⟩⟩
def mss (l : List NM.Ms) (n : Nat) : Sp := ⟨fun w x => ∃ B c, x = .slice B n c ∧ Mss w B n c l, fun ⟨B, c, e, h⟩ hb => ⟨B, c, e, h.keep hb⟩⟩
end RgX.Sp
end Go.Proofs.Ytepbppckhfiplaa
