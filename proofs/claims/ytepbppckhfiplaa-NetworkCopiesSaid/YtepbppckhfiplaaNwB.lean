/-
  Stores into boxes of names and envelopes: the copy number of a name, the name of an envelope. No function of the program.
-/
import Derived.Test.YtepbppckhfiplaaNwW
namespace Go.Proofs.Ytepbppckhfiplaa
open Go Go.RowKit Go.Proofs

theorem store_p {ops : Array Oper} {rest : List Oper} {o : Oper} {a : Act} {w : World} {Q : Exit → Act → World → Prop} (hgd : o.guard = none) (x y : Operand) (ho : o.op = .store 3 x y) (g : Nat) (m : NM.Ms) (p : Int) (hg : MsB w g m)
    (hx : a.eval x = .pointer (some ⟨g, 4, none⟩)) (hy : a.eval y = .int .i64 p)
    (h : ∀ W', MsB W' g ⟨m.c, m.h, m.t, m.i, p⟩ → (∀ b, b ≠ g → W'.heap[b]? = w.heap[b]?) → Below g w W' → wpList Try.prog ops Q rest (a.put o.dst undef) W') : wpList Try.prog ops Q (o :: rest) a w :=
  RgX.wpList_store_seg hgd 3 x y ho g 4 (.int .i64 p) hx hy 26 _ hg (by rw [size_i]; rfl) (by show 4 + 1 ≤ 5; omega) (by simp [Value.cells, Value.oneCell']) _ rfl fun W' h1 h2 _ h4 => h W' h1 h2 h4
theorem store_name {ops : Array Oper} {rest : List Oper} {o : Oper} {a : Act} {w : World} {Q : Exit → Act → World → Prop} (hgd : o.guard = none) (x y : Operand) (ho : o.op = .store 26 x y) (g : Nat) (e : NW.En) (m : NM.Ms) (hg : EnB w g e)
    (hx : a.eval x = .pointer (some ⟨g, 0, none⟩)) (hy : a.eval y = msV m)
    (h : ∀ W', EnB W' g ⟨m, e.o, e.k, e.a, e.b⟩ → (∀ b, b ≠ g → W'.heap[b]? = w.heap[b]?) → Below g w W' → wpList Try.prog ops Q rest (a.put o.dst undef) W') : wpList Try.prog ops Q (o :: rest) a w :=
  RgX.wpList_store_seg hgd 26 x y ho g 0 (msV m) hx hy 28 _ hg (by rw [size_ms]; rfl) (by show 0 + 5 ≤ 9; omega) (by simp [Value.cells, Value.oneCell']) _ rfl fun W' h1 h2 _ h4 => h W' h1 h2 h4
theorem sl_lt {α : Type} {E : RS.Enc α} {w : World} {A : Option Addr} {n c : Nat} {l : List α} (h : RS.Sl E w A n c l) : ∀ b, A = some b → b.block < w.heap.size := fun b e => by
  obtain ⟨h1, h2, h3, h4⟩ := h
  rcases h4 with ⟨h4, _⟩ | ⟨g, e2, hg, _⟩
  · rw [h4] at e; cases e
  · rw [e2] at e
    injection e with e
    rw [← e]
    exact hg
theorem EnB.other {w w' : World} {g b : Nat} {e : NW.En} (h : EnB w b e) (ho : ∀ b, b ≠ g → w'.heap[b]? = w.heap[b]?) (hb : b ≠ g) : EnB w' b e := (ho b hb).trans h
theorem MsB.other {w w' : World} {g b : Nat} {m : NM.Ms} (h : MsB w b m) (ho : ∀ b, b ≠ g → w'.heap[b]? = w.heap[b]?) (hb : b ≠ g) : MsB w' b m := (ho b hb).trans h
/-- What a slice holds stands, where one block of no envelopes' row has turned. -/
theorem ens_other {w w' : World} {A : Option Addr} {n c g : Nat} {l : List NW.En} (h : Ens w A n c l) (ho : ∀ b, b ≠ g → w'.heap[b]? = w.heap[b]?) (hs : w.heap.size ≤ w'.heap.size) (hA : ∀ b, A = some b → b.block ≠ g) : Ens w' A n c l := by
  obtain ⟨h1, h2, h3, h4⟩ := h
  refine ⟨h1, h2, h3, ?_⟩
  rcases h4 with h4 | ⟨q, e, hq, hx⟩
  · exact .inl h4
  · refine .inr ⟨q, e, by omega, fun j x hj o u hu => ?_⟩
    have h5 := hx j x hj o u hu
    unfold World.cell? at h5 ⊢
    simp only at h5 ⊢
    rw [ho q (hA _ e)]
    exact h5
end Go.Proofs.Ytepbppckhfiplaa
