/-
  Operations in memory. No function of the program.
-/
import Derived.Test.YtgdefhlcgmibcaaDkI
import Derived.Test.YtgdefhlcgmibcaaAround
namespace Go.Proofs.Ytgdefhlcgmibcaa
open Go Go.RowKit Go.Proofs

namespace DK
/-- The cells of an operation whose list lies at K. -/
def opC (o : Op) (K : Option Addr) (kc : Nat) : List Value := [.int .i64 o.op, .int .i64 o.cell, .int .i64 o.value, .slice K o.keep.length kc]
/-- The operations made from these numbers. -/
def ops (zs : List Int) : List Op := (zs.take 20).map fun x => opOf (around x 1000000)
theorem ops_ok (zs : List Int) : ∀ o ∈ ops zs, OpOk o := fun o ho => by
  obtain ⟨x, _, rfl⟩ := List.mem_map.1 ho
  exact opOf_ok _
end DK
/-- The cells of operations. -/
def OpsV (lo : Nat) (w : World) : List DK.Op → List Value → Prop
  | [], vs => vs = []
  | o :: os, vs => ∃ K kc vs', vs = DK.opC o K kc ++ vs' ∧ Bls lo w K o.keep.length kc o.keep ∧ OpsV lo w os vs'
theorem OpsV.keep {lo : Nat} {w w' : World} (hb : Below w.heap.size w w') : ∀ {os : List DK.Op} {vs : List Value}, OpsV lo w os vs → OpsV lo w' os vs
  | [], _, h => h
  | _ :: _, _, ⟨K, kc, vs', e, h1, h2⟩ => ⟨K, kc, vs', e, h1.keep hb, h2.keep hb⟩
theorem OpsV.snoc {lo : Nat} {w : World} {o : DK.Op} {K : Option Addr} {kc : Nat} (hk : Bls lo w K o.keep.length kc o.keep) : ∀ {os : List DK.Op} {vs : List Value}, OpsV lo w os vs → OpsV lo w (os ++ [o]) (vs ++ DK.opC o K kc)
  | [], vs, h => by
    have h' : vs = [] := h
    subst h'
    exact ⟨K, kc, [], by simp, hk, rfl⟩
  | x :: os, vs, ⟨K', kc', vs', e, h1, h2⟩ => ⟨K', kc', vs' ++ DK.opC o K kc, by rw [e, List.append_assoc], h1, h2.snoc hk⟩
theorem OpsV.len {lo : Nat} {w : World} : ∀ {os : List DK.Op} {vs : List Value}, OpsV lo w os vs → vs.length = os.length * 4
  | [], vs, h => by
    have h' : vs = [] := h
    rw [h']
    rfl
  | x :: os, vs, ⟨K', kc', vs', e, h1, h2⟩ => by
    rw [e, List.length_append, h2.len, List.length_cons]
    show 4 + _ = _
    omega
theorem OpsV.at_ {lo : Nat} {w : World} : ∀ {os : List DK.Op} {vs : List Value} {j : Nat} {o : DK.Op}, OpsV lo w os vs → os[j]? = some o → ∃ K kc, Bls lo w K o.keep.length kc o.keep ∧ ∀ i u, (DK.opC o K kc)[i]? = some u → vs[j * 4 + i]? = some u
  | [], _, _, _, _, h => by simp at h
  | x :: os, vs, 0, o, ⟨K', kc', vs', e, h1, h2⟩, h => by
    simp only [List.getElem?_cons_zero, Option.some.injEq] at h
    subst h
    refine ⟨K', kc', h1, fun i u hu => ?_⟩
    rw [e, Nat.zero_mul, Nat.zero_add, List.getElem?_append_left (List.getElem?_eq_some_iff.1 hu).1]
    exact hu
  | x :: os, vs, j + 1, o, ⟨K', kc', vs', e, h1, h2⟩, h => by
    obtain ⟨K, kc, hb, hc⟩ := h2.at_ (j := j) (by simpa using h)
    refine ⟨K, kc, hb, fun i u hu => ?_⟩
    rw [e, List.getElem?_append_right (by show 4 ≤ _; omega), show (j + 1) * 4 + i - (DK.opC x K' kc').length = j * 4 + i by show _ - 4 = _; omega]
    exact hc i u hu
/-- A slice of operations made since block lo. -/
def OpsAt (lo : Nat) (w : World) (A : Option Addr) (n c : Nat) (os : List DK.Op) : Prop := os.length = n ∧ ∃ vs, Rw 33 4 lo w A n c vs ∧ OpsV lo w os vs
theorem OpsAt.keep {lo : Nat} {w w' : World} {A : Option Addr} {n c : Nat} {os : List DK.Op} (h : OpsAt lo w A n c os) (hb : Below w.heap.size w w') : OpsAt lo w' A n c os := by
  obtain ⟨hl, vs, h1, h2⟩ := h
  exact ⟨hl, vs, h1.keep hb, h2.keep hb⟩
/-- An operation's cells. -/
theorem OpsAt.at_ {lo : Nat} {w : World} {A : Option Addr} {n c k : Nat} {os : List DK.Op} (h : OpsAt lo w A n c os) (hk : k < n) : ∃ g off o K kc, A = some ⟨g, off, none⟩ ∧ g < w.heap.size ∧ os[k]? = some o ∧ Bls lo w K o.keep.length kc o.keep ∧ w.cell? ⟨g, off + k * 4, none⟩ = some (.int .i64 o.op) ∧ w.cell? ⟨g, off + k * 4 + 1, none⟩ = some (.int .i64 o.cell) ∧ w.cell? ⟨g, off + k * 4 + 2, none⟩ = some (.int .i64 o.value) ∧ w.cell? ⟨g, off + k * 4 + 3, none⟩ = some (.slice K o.keep.length kc) := by
  obtain ⟨hl, vs, h1, h2⟩ := h
  obtain ⟨o, ho⟩ : ∃ o, os[k]? = some o := ⟨_, List.getElem?_eq_getElem (by omega)⟩
  obtain ⟨g, off, e, _, hg, hc⟩ := Rw.cell h1 (by omega)
  obtain ⟨K, kc, hb, hv⟩ := h2.at_ ho
  refine ⟨g, off, o, K, kc, e, hg, ho, hb, ?_, ?_, ?_, ?_⟩
  · exact hc _ _ (hv 0 _ rfl)
  · rw [Nat.add_assoc]; exact hc _ _ (hv 1 _ rfl)
  · rw [Nat.add_assoc]; exact hc _ _ (hv 2 _ rfl)
  · rw [Nat.add_assoc]; exact hc _ _ (hv 3 _ rfl)
theorem dk_four {V : World} {g : Nat} {t : TypeId} {x0 x1 x2 x3 : Value} (h : V.heap[g]? = some (.cells #[x0, x1, x2, x3] t (0, 0))) : V.cell? ⟨g, 0, none⟩ = some x0 ∧ V.cell? ⟨g, 1, none⟩ = some x1 ∧ V.cell? ⟨g, 2, none⟩ = some x2 ∧ V.cell? ⟨g, 3, none⟩ = some x3 :=
  ⟨cell_of_row _ _ 0 _ _ (0, 0) h, cell_of_row _ _ 1 _ _ (0, 0) h, cell_of_row _ _ 2 _ _ (0, 0) h, cell_of_row _ _ 3 _ _ (0, 0) h⟩
theorem dk_op : (Try.prog.info? 33).map (fun i => (i.zero, i.size, i.bytes)) = some (some (.agg #[.int .i64 0, .int .i64 0, .int .i64 0, .slice none 0 0]), 4, 48) := by kernel_rfl
theorem dk_sz_op : (Try.prog.info? 33).map (·.size) = some 4 := by kernel_rfl
theorem dk_sz_bools : (Try.prog.info? 31).map (·.size) = some 1 := by kernel_rfl
end Go.Proofs.Ytgdefhlcgmibcaa
