/-
  Strings told apart; slices of strings. No function of the program.
-/
import Derived.Test.YtligbandpmgmaaaTyWt
import Derived.Lib.Bytes
namespace Go.Proofs.Ytligbandpmgmaaa
open Go Go.RowKit Go.Proofs Go.Shelf
attribute [local go_sem] Oper.semAt_some

theorem str_eq (x y : ByteArray) : (x.toList == y.toList) = decide (x = y) := by
  rw [Bool.eq_iff_iff, beq_iff_eq, decide_eq_true_iff, Lib.toList_data, Lib.toList_data]
  constructor
  · intro h
    apply ByteArray.ext
    exact Array.toList_inj.1 h
  · rintro rfl; rfl
/-- A list of strings in memory. -/
def Sts (hi : Nat) (W : World) (A : Option Addr) (m : Nat) (l : List ByteArray) : Prop := l.length = m ∧ (0 < m → ∃ b off, A = some ⟨b, off, none⟩ ∧ b < hi ∧ ∀ j, j < m → W.cell? ⟨b, off + j, none⟩ = some (.string (l[j]?.getD ⟨#[]⟩)))
theorem Sts.below {hi : Nat} {W W' : World} {A : Option Addr} {m : Nat} {l : List ByteArray} (h : Sts hi W A m l) (hb : Below hi W W') : Sts hi W' A m l := ⟨h.1, fun hm => by
  obtain ⟨b, off, e, h1, h2⟩ := h.2 hm
  exact ⟨b, off, e, h1, fun j hj => (hb.cell (p := ⟨b, off + j, none⟩) h1).trans (h2 j hj)⟩⟩
theorem Sts.of {hi : Nat} {W : World} {g : Nat} {C : Array Value} {f : Nat × Nat} {l : List ByteArray} {m : Nat} (h : W.heap[g]? = some (.cells C 9 f)) (hg : g < hi) (hm : l.length = m) (hc : ∀ j, j < m → C[j]? = some (.string (l[j]?.getD ⟨#[]⟩))) : Sts hi W (some ⟨g, 0, none⟩) m l := ⟨hm, fun _ => ⟨g, 0, rfl, hg, fun j hj => by
  rw [Nat.zero_add, cell_of_row W g j C _ f h]
  exact hc j hj⟩⟩
theorem inL_snoc {l : List ByteArray} {j : Nat} {x s : ByteArray} (hx : l[j]? = some x) (h : TY.inL (l.take j) s = false) (e : x ≠ s) : TY.inL (l.take (j + 1)) s = false := by
  unfold TY.inL at h ⊢
  rw [List.take_add_one, hx, List.any_append, h]
  simp [e]
end Go.Proofs.Ytligbandpmgmaaa
