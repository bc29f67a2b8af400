/-
  The reference's TypeOf. Condition: the value is a tree.
-/
import Derived.Test.YtofeidacffabdaaTyRe
namespace Go.Proofs.Ytofeidacffabdaa
open Go Go.RowKit Go.Proofs Go.Shelf
attribute [local go_sem] Oper.semAt_some

/-- What the reference's TypeOf does at the tree t. -/
def RAt (t : TY.Nd) : Prop := ∀ (W : World) (hi : Nat) (v : Value), NdV W hi t v → hi ≤ W.heap.size →
  Calls Try.prog 13 #[v] W fun e w' => e = .returned (.int .i64 (TY.refTy t : Int)) ∧ Below W.heap.size W w'
theorem refTy_lit (k n : Int) (s : ByteArray) (l : List TY.Nd) (h : k = 12 ∨ k = 14 ∨ k = 15) : TY.refTy (.mk k n s l) = 1 := by rw [TY.refTy_eq, if_pos h]
theorem refTy_13 (n : Int) (s : ByteArray) (l : List TY.Nd) : TY.refTy (.mk 13 n s l) = 2 := by
  rw [TY.refTy_eq]
  rfl
theorem refTy_out (k n : Int) (s : ByteArray) (l : List TY.Nd) (h : ¬ (k = 12 ∨ k = 14 ∨ k = 15)) (h2 : k ≠ 13) (h3 : ¬ (k = 16 ∨ k = 17 ∨ k = 18)) : TY.refTy (.mk k n s l) = 0 := by rw [TY.refTy_eq, if_neg h, if_neg h2, if_neg h3]
theorem refTy_op (k n : Int) (s : ByteArray) (l : List TY.Nd) (h3 : k = 16 ∨ k = 17 ∨ k = 18) : TY.refTy (.mk k n s l) = if (l.map TY.refTy).all (fun t => decide (t = TY.refOp k s)) then TY.refRes k s else 0 := by
  rw [TY.refTy_eq, if_neg (by omega), if_neg (by omega), if_pos h3]
theorem all_take_snoc {l : List TY.Nd} {P : TY.Nd → Bool} {j : Nat} {t : TY.Nd} (ht : l[j]? = some t) (h : (l.take j).all P = true) (e : P t = true) : (l.take (j + 1)).all P = true := by
  rw [List.take_add_one, ht, List.all_append, h]
  simp [e]
/-- The ways through the operators: what is asked, and what comes out. -/
def Way (k : Int) (s : ByteArray) (a r : Nat) : Prop :=
  (k = 16 ∧ a = 1 ∧ r = 1) ∨ (k = 17 ∧ s = TY.sNot ∧ a = 2 ∧ r = 2) ∨ (k = 17 ∧ s ≠ TY.sNot ∧ a = 1 ∧ r = 1) ∨
  (k = 18 ∧ TY.inL TY.logic s = true ∧ TY.inL TY.compar s = false ∧ a = 2 ∧ r = 2) ∨ (k = 18 ∧ TY.inL TY.logic s = false ∧ TY.inL TY.compar s = true ∧ a = 1 ∧ r = 2) ∨ (k = 18 ∧ TY.inL TY.logic s = false ∧ TY.inL TY.compar s = false ∧ a = 1 ∧ r = 1)
theorem way (k : Int) (s : ByteArray) (h : k = 16 ∨ k = 17 ∨ k = 18) : Way k s (TY.refOp k s) (TY.refRes k s) := by
  unfold Way TY.refOp TY.refRes
  rcases h with rfl | rfl | rfl
  · exact .inl ⟨rfl, rfl, rfl⟩
  · by_cases hs : s = TY.sNot
    · subst hs; exact .inr (.inl ⟨rfl, rfl, rfl, rfl⟩)
    · refine .inr (.inr (.inl ⟨rfl, hs, ?_, ?_⟩))
      · simp [hs]
      · unfold TY.refOp
        simp [hs]
  · have e1 : TY.inL [TY.sAnd, TY.sOr] s = TY.inL TY.logic s := rfl
    have e2 : TY.inL [TY.sLt, TY.sLe, TY.sGt, TY.sGe, TY.sEq, TY.sNe] s = TY.inL TY.compar s := rfl
    unfold TY.refOp
    rw [e1, e2]
    by_cases h1 : TY.inL TY.logic s = true
    · have h2 : TY.inL TY.compar s = false := by
        have := TY.inL_iff.1 h1
        unfold TY.logic at this
        simp only [List.mem_cons, List.not_mem_nil, or_false] at this
        rcases this with rfl | rfl <;> decide
      refine .inr (.inr (.inr (.inl ⟨rfl, h1, h2, ?_, ?_⟩))) <;> simp [h1, h2]
    · by_cases h2 : TY.inL TY.compar s = true
      · refine .inr (.inr (.inr (.inr (.inl ⟨rfl, by simpa using h1, h2, ?_, ?_⟩)))) <;> simp [h1, h2]
      · refine .inr (.inr (.inr (.inr (.inr ⟨rfl, by simpa using h1, by simpa using h2, ?_, ?_⟩)))) <;> simp [h1, h2]
end Go.Proofs.Ytofeidacffabdaa
