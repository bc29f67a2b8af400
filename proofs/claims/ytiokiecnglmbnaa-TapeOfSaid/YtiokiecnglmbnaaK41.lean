/-
  A map from whole numbers to truths: what its block holds, what a store and a look do. No function of the program.
-/
import Derived.Test.YtiokiecnglmbnaaK4
import Derived.Maps.OwnSet
import Derived.Maps.Keyed
import Derived.WalkArith

namespace Go.Proofs.Ytiokiecnglmbnaa
open Go Go.RowKit Go.Proofs Go.MapKept
attribute [local go_sem] Oper.semAt_some

/-- Block b is a map in which just the numbers of l are true. -/
def SetI (W : World) (b n : Nat) (l : List Int) : Prop := ∃ D : DataW Unit, W.ownsMap Try.prog 3 (plainElem Try.prog 4) b n D ∧ Maps.IsMap D ∧ ∀ k : Int, D.atKey (.int .i64 k) (.lit (.bool false)) = .lit (.bool (decide (k ∈ l)))
theorem SetI.made (w : World) : SetI (w.alloc (.map #[] 0)) w.heap.size 0 [] := ⟨_, World.ownsMap_made w _ _ _, Maps.isMap_empty, fun k => by
  rw [decide_eq_false (List.not_mem_nil)]
  rfl⟩
theorem SetI.kept {W W' : World} {b n : Nat} {l : List Int} {row : Option Nat} (h : SetI W b n l) (hg : W.grownBy W' row) (hr : some b ≠ row) : SetI W' b n l := by
  obtain ⟨D, h1, h2⟩ := h
  exact ⟨D, h1.kept hg hr, h2⟩
theorem SetI.lt {W : World} {b n : Nat} {l : List Int} (h : SetI W b n l) : b < W.heap.size := by
  obtain ⟨D, h1, _⟩ := h
  exact h1.lt
theorem SetI.keep {W W' : World} {b n : Nat} {l : List Int} (h : SetI W b n l) (hb : Below W.heap.size W W') : SetI W' b n l :=
  h.kept (row := none) ⟨hb.os, hb.tape, hb.output, hb.size, fun k hk _ => hb.block k hk⟩ (by simp)
theorem wf_of_i64 {x : Int} (h : I64 x) : (Lit.int .i64 x).wf = true := Go.WalkArith.wf_i64 ⟨h.1, by have := h.2; omega⟩
set_option maxRecDepth 100000 in
theorem plainElem_bool_inv {v : Value} {z : DataW Unit × List MemPlace} (h : plainElem Try.prog 4 v = some z) : ∃ x, v = .bool x ∧ z = (.lit (.bool x), []) := by
  unfold plainElem at h
  rw [Try.underlying4] at h
  cases v <;> simp at h
  subst h
  exact ⟨_, rfl, rfl⟩
theorem under_setI : Try.prog.underlying 97 = some (.map 3 4) := by kernel_rfl
theorem zero_bool : ∀ W : World, (zeroValue 4).run Try.prog W = .ok (.bool false) W := Try.zeroValue4
theorem keyLit_int (k : Int) : WideAt.IsKeyLit (.int .i64 k) := by
  unfold WideAt.IsKeyLit
  trivial
set_option maxRecDepth 100000 in
/-- m[k] = true -/
theorem SetI.store {W : World} {b n : Nat} {l : List Int} (h : SetI W b n l) (k : Int) (hk : I64 k) (hn : n ≤ 1000000) :
    ∃ w', (Instr.mapUpdate 97 (.map (some b)) (.int .i64 k) (.bool true)).run Try.prog W = .ok () w' ∧ SetI w' b (n + 1) (l ++ [k]) ∧ W.grownBy w' (some b) := by
  obtain ⟨D, h1, h2, h3⟩ := h
  obtain ⟨w', hrun, r1, r2⟩ := h1.update (Maps.int_keyed Try.underlying3) under_setI (by simp only [maxLen]; omega) (Maps.keyOf_int_mk Try.underlying3 (wf_of_i64 hk)) (plainElem_bool Try.underlying4 true)
  refine ⟨w', hrun, ⟨_, r1, by obtain ⟨es, rfl⟩ := h2; exact ⟨_, rfl⟩, fun k' => ?_⟩, r2⟩
  by_cases e : k' = k
  · subst e
    rw [Maps.atKey_put_same h2 (keyLit_int _), decide_eq_true (by simp)]
  · rw [Maps.atKey_put_other (fun e' => e (by injection e')), h3]
    congr 2
    simp [e]
set_option maxRecDepth 100000 in
/-- m[k] -/
theorem SetI.look {W : World} {b n : Nat} {l : List Int} (h : SetI W b n l) (k : Int) (hk : I64 k) :
    (Instr.lookup 97 (.map (some b)) (.int .i64 k) false).run Try.prog W = .ok (.bool (decide (k ∈ l))) W := by
  obtain ⟨D, h1, h2, h3⟩ := h
  obtain ⟨v, ps, hrun, hv⟩ := h1.lookup (Maps.int_keyed Try.underlying3) under_setI (zero_bool W) (plainElem_bool Try.underlying4 false) (Maps.keyOf_int_mk Try.underlying3 (wf_of_i64 hk))
  obtain ⟨x, rfl, e⟩ := plainElem_bool_inv hv
  rw [h3] at e
  simp only [Prod.mk.injEq] at e
  have := e.1
  injection this with this
  injection this with this
  rw [hrun, this]
section
variable {w : World} {ops : Array Oper} {rest : List Oper} {o : Oper} {a : Act} {Q : Exit → Act → World → Prop} {b n : Nat} {l : List Int}
theorem wpList_update_i (hg : o.guard = none) (m x v : Operand) (hop : o.op = Op.mapUpdate 97 m x v) (hm : a.eval m = .map (some b)) (h : SetI w b n l) (k : Int) (hk : I64 k) (hn : n ≤ 1000000) (hx : a.eval x = .int .i64 k) (hv : a.eval v = .bool true)
    (hK : ∀ w', SetI w' b (n + 1) (l ++ [k]) → w.grownBy w' (some b) → wpList Try.prog ops Q rest (a.put o.dst undef) w') : wpList Try.prog ops Q (o :: rest) a w := by
  refine wpList_plain hg fun K' hK' => ?_
  obtain ⟨w', hrun, r1, r2⟩ := h.store k hk hn
  unfold Oper.wp
  simp [execOp, hop, hm, hx, hv, hrun, Result.andThen]
  exact hK' _ _ (hK w' r1 r2)
theorem wpList_lookup_i (hg : o.guard = none) (m x : Operand) (hop : o.op = Op.lookup 97 m x false) (hm : a.eval m = .map (some b)) (h : SetI w b n l) (k : Int) (hk : I64 k) (hx : a.eval x = .int .i64 k)
    (hK : wpList Try.prog ops Q rest (a.put o.dst (.bool (decide (k ∈ l)))) w) : wpList Try.prog ops Q (o :: rest) a w := by
  refine wpList_plain hg fun K' hK' => ?_
  have hrun := h.look k hk
  unfold Oper.wp
  simp [execOp, hop, hm, hx, hrun, Result.andThen]
  exact hK' _ _ hK
end
end Go.Proofs.Ytiokiecnglmbnaa
