/-
  The contract of newRules: two maps that hold the rules of the operators.
-/
import Derived.Test.YtligbandpmgmaaaTyRl
namespace Go.Proofs.Ytligbandpmgmaaa
open Go Go.RowKit Go.Proofs

theorem found_snoc (l : List (ByteArray × DataW Unit)) (k s : ByteArray) (d z : DataW Unit) : found (l ++ [(k, d)]) s z = if k = s then d else found l s z := by
  unfold found
  rw [List.reverse_append, List.reverse_cons, List.reverse_nil, List.nil_append, List.singleton_append, List.find?_cons]
  by_cases h : k = s
  · rw [if_pos h, decide_eq_true h]
  · rw [if_neg h, decide_eq_false h]
theorem found_nil (s : ByteArray) (z : DataW Unit) : found [] s z = z := rfl
/-- The entries of the first map: the operands of the rules lie in the blocks a, b. -/
def lU (a b : Nat) : List (ByteArray × DataW Unit) := [] ++ [(TY.sMinus, cdD (a + 1) 1 1)] ++ [(TY.sNot, cdD (b + 1) 1 2)]
/-- The entries of the second: the operands lie in the blocks a, b, c. -/
def lB (a b c : Nat) : List (ByteArray × DataW Unit) := [] ++ [(TY.sPlus, cdD (a + 1) 2 1)] ++ [(TY.sMinus, cdD (a + 1) 2 1)] ++ [(TY.sMul, cdD (a + 1) 2 1)] ++ [(TY.sDiv, cdD (a + 1) 2 1)]
  ++ [(TY.sLt, cdD (b + 1) 2 2)] ++ [(TY.sLe, cdD (b + 1) 2 2)] ++ [(TY.sGt, cdD (b + 1) 2 2)] ++ [(TY.sGe, cdD (b + 1) 2 2)] ++ [(TY.sEq, cdD (b + 1) 2 2)] ++ [(TY.sNe, cdD (b + 1) 2 2)]
  ++ [(TY.sAnd, cdD (c + 1) 2 2)] ++ [(TY.sOr, cdD (c + 1) 2 2)]
theorem lU_at (a b : Nat) (s : ByteArray) : ∃ g n t, found (lU a b) s (cdD 0 0 0) = cdD g n t ∧ t = (TY.ruleU s).2 ∧ ((TY.ruleU s).1 = [] ∧ g = 0 ∨ (TY.ruleU s).1 = [1] ∧ g = a + 1 ∧ n = 1 ∨ (TY.ruleU s).1 = [2] ∧ g = b + 1 ∧ n = 1) := by
  unfold lU TY.ruleU
  rw [found_snoc, found_snoc, found_nil]
  by_cases h1 : s = TY.sMinus
  · subst h1
    rw [if_neg (by decide), if_pos rfl, if_pos rfl]
    exact ⟨_, _, _, rfl, rfl, .inr (.inl ⟨rfl, rfl, rfl⟩)⟩
  · rw [if_neg h1]
    by_cases h2 : s = TY.sNot
    · subst h2
      rw [if_pos rfl, if_pos rfl]
      exact ⟨_, _, _, rfl, rfl, .inr (.inr ⟨rfl, rfl, rfl⟩)⟩
    · rw [if_neg (fun e => h2 e.symm), if_neg (fun e => h1 e.symm), if_neg h2]
      exact ⟨_, _, _, rfl, rfl, .inl ⟨rfl, rfl⟩⟩
theorem lB_at (a b c : Nat) (s : ByteArray) : ∃ g n t, found (lB a b c) s (cdD 0 0 0) = cdD g n t ∧ t = (TY.ruleB s).2 ∧ ((TY.ruleB s).1 = [] ∧ g = 0 ∨ (TY.ruleB s).1 = [1, 1] ∧ g = a + 1 ∧ n = 2 ∨ (TY.ruleB s).1 = [1, 1] ∧ g = b + 1 ∧ n = 2 ∨ (TY.ruleB s).1 = [2, 2] ∧ g = c + 1 ∧ n = 2) := by
  by_cases hs : s ∈ [TY.sPlus, TY.sMinus, TY.sMul, TY.sDiv, TY.sLt, TY.sLe, TY.sGt, TY.sGe, TY.sEq, TY.sNe, TY.sAnd, TY.sOr]
  · simp only [List.mem_cons, List.not_mem_nil, or_false] at hs
    unfold lB
    simp only [found_snoc, found_nil]
    rcases hs with rfl | rfl | rfl | rfl | rfl | rfl | rfl | rfl | rfl | rfl | rfl | rfl
    · exact ⟨_, _, _, rfl, by decide, .inr (.inl ⟨by decide, rfl, rfl⟩)⟩
    · exact ⟨_, _, _, rfl, by decide, .inr (.inl ⟨by decide, rfl, rfl⟩)⟩
    · exact ⟨_, _, _, rfl, by decide, .inr (.inl ⟨by decide, rfl, rfl⟩)⟩
    · exact ⟨_, _, _, rfl, by decide, .inr (.inl ⟨by decide, rfl, rfl⟩)⟩
    · exact ⟨_, _, _, rfl, by decide, .inr (.inr (.inl ⟨by decide, rfl, rfl⟩))⟩
    · exact ⟨_, _, _, rfl, by decide, .inr (.inr (.inl ⟨by decide, rfl, rfl⟩))⟩
    · exact ⟨_, _, _, rfl, by decide, .inr (.inr (.inl ⟨by decide, rfl, rfl⟩))⟩
    · exact ⟨_, _, _, rfl, by decide, .inr (.inr (.inl ⟨by decide, rfl, rfl⟩))⟩
    · exact ⟨_, _, _, rfl, by decide, .inr (.inr (.inl ⟨by decide, rfl, rfl⟩))⟩
    · exact ⟨_, _, _, rfl, by decide, .inr (.inr (.inl ⟨by decide, rfl, rfl⟩))⟩
    · exact ⟨_, _, _, rfl, by decide, .inr (.inr (.inr ⟨by decide, rfl, rfl⟩))⟩
    · exact ⟨_, _, _, rfl, by decide, .inr (.inr (.inr ⟨by decide, rfl, rfl⟩))⟩
  · have hr : TY.ruleB s = ([], 0) := by
      unfold TY.ruleB
      rw [if_neg (fun e => hs (by have := TY.inL_iff.1 e; simp only [List.mem_cons, List.not_mem_nil, or_false] at this ⊢; rcases this with h | h | h | h <;> simp [h])), if_neg (fun e => hs (by have := TY.inL_iff.1 e; simp only [List.mem_cons, List.not_mem_nil, or_false] at this ⊢; rcases this with h | h | h | h | h | h <;> simp [h])), if_neg (fun e => hs (by have := TY.inL_iff.1 e; simp only [List.mem_cons, List.not_mem_nil, or_false] at this ⊢; rcases this with h | h <;> simp [h]))]
    have hf : found (lB a b c) s (cdD 0 0 0) = cdD 0 0 0 := by
      unfold lB
      simp only [found_snoc, found_nil]
      simp only [List.mem_cons, List.not_mem_nil, or_false, not_or] at hs
      obtain ⟨h1, h2, h3, h4, h5, h6, h7, h8, h9, h10, h11, h12⟩ := hs
      rw [if_neg (Ne.symm h12), if_neg (Ne.symm h11), if_neg (Ne.symm h10), if_neg (Ne.symm h9), if_neg (Ne.symm h8), if_neg (Ne.symm h7), if_neg (Ne.symm h6), if_neg (Ne.symm h5), if_neg (Ne.symm h4), if_neg (Ne.symm h3), if_neg (Ne.symm h2), if_neg (Ne.symm h1)]
    rw [hr]
    exact ⟨_, _, _, hf, rfl, .inl ⟨rfl, rfl⟩⟩
theorem ruV_succ (g n t : Nat) : ruV (g + 1) n t = ruv (.slice (some ⟨g, 0, none⟩) n n) t := by simp [ruV]
theorem hmk : ∀ V : World, (Instr.makeMap 46 none).run Try.prog V = .ok (.map (some V.heap.size)) (V.alloc (.map #[] 0)) := fun V => by kernel_rfl
abbrev opsC (a b : Int) : Obj := .cells #[.int .i64 a, .int .i64 b] 27 (0, 0)
abbrev ruC (g : Nat) (t : Int) : Obj := .cells #[.slice (some ⟨g, 0, none⟩) 2 2, .int .i64 t] 59 (0, 0)
/-- The blocks that newRules lays ahead of its maps. -/
structure NR (V : World) (h : Nat) : Prop where
  a1 : V.heap[h + 1]? = some (opsC 1 1)
  r1 : V.heap[h + 1 + 1]? = some (ruC (h + 1) 1)
  a2 : V.heap[h + 1 + 1 + 1]? = some (opsC 1 1)
  r2 : V.heap[h + 1 + 1 + 1 + 1]? = some (ruC (h + 1 + 1 + 1) 2)
  a3 : V.heap[h + 1 + 1 + 1 + 1 + 1]? = some (opsC 2 2)
  r3 : V.heap[h + 1 + 1 + 1 + 1 + 1 + 1]? = some (ruC (h + 1 + 1 + 1 + 1 + 1) 2)
  r0 : V.heap[h]? = some (.cells #[.map none, .map none] 48 (0, 0))
section
variable {V V' : World} {h b : Nat}
theorem NR.keep (k : NR V h) (hb : ∀ (g : Nat) (C : Array Value) (t : TypeId) (f : Nat × Nat), V.heap[g]? = some (.cells C t f) → V'.heap[g]? = V.heap[g]?) : NR V' h :=
  ⟨(hb _ _ _ _ k.a1).trans k.a1, (hb _ _ _ _ k.r1).trans k.r1, (hb _ _ _ _ k.a2).trans k.a2, (hb _ _ _ _ k.r2).trans k.r2, (hb _ _ _ _ k.a3).trans k.a3, (hb _ _ _ _ k.r3).trans k.r3, (hb _ _ _ _ k.r0).trans k.r0⟩
/-- Behind a store into a map. -/
theorem NR.map (k : NR V h) {l : List (ByteArray × DataW Unit)} (hm : Mp V b l) (hg : V.grownBy V' (some b)) : NR V' h :=
  k.keep fun g C t f hC => hg.block g (heap_lt hC) fun e => by
    injection e with e
    exact hm.ne hC e
theorem NR.alloc (k : NR V h) (o : Obj) : NR (V.alloc o) h := k.keep fun g _ _ _ hC => Below.heap_alloc V o g (heap_lt hC)
theorem NR.cells (k : NR V h) : V.cell? ⟨h + 1 + 1, 0, none⟩ = some (.slice (some ⟨h + 1, 0, none⟩) 2 2) ∧ V.cell? ⟨h + 1 + 1, 1, none⟩ = some (.int .i64 1) ∧
    V.cell? ⟨h + 1 + 1 + 1 + 1, 0, none⟩ = some (.slice (some ⟨h + 1 + 1 + 1, 0, none⟩) 2 2) ∧ V.cell? ⟨h + 1 + 1 + 1 + 1, 1, none⟩ = some (.int .i64 2) ∧
    V.cell? ⟨h + 1 + 1 + 1 + 1 + 1 + 1, 0, none⟩ = some (.slice (some ⟨h + 1 + 1 + 1 + 1 + 1, 0, none⟩) 2 2) ∧ V.cell? ⟨h + 1 + 1 + 1 + 1 + 1 + 1, 1, none⟩ = some (.int .i64 2) :=
  ⟨cell_of_row V _ 0 _ _ (0, 0) k.r1, cell_of_row V _ 1 _ _ (0, 0) k.r1, cell_of_row V _ 0 _ _ (0, 0) k.r2, cell_of_row V _ 1 _ _ (0, 0) k.r2, cell_of_row V _ 0 _ _ (0, 0) k.r3, cell_of_row V _ 1 _ _ (0, 0) k.r3⟩
end
/-- What newRules has laid. -/
theorem rul_of {W : World} {mu mb a b c d e hi : Nat} (hU : Mp W mu (lU d e)) (hB : Mp W mb (lB a b c)) (h1 : W.heap[a]? = some (opsC 1 1)) (h2 : W.heap[b]? = some (opsC 1 1)) (h3 : W.heap[c]? = some (opsC 2 2))
    (h4 : W.heap[d]? = some (.cells #[.int .i64 1] 27 (0, 0))) (h5 : W.heap[e]? = some (.cells #[.int .i64 2] 27 (0, 0))) (hi_ : W.heap.size = hi) : Rul W hi mu mb := by
  intro W' hb s hs
  have up : ∀ {g : Nat} {o : Obj}, W.heap[g]? = some o → W'.heap[g]? = some o := fun {g} {o} hg => (hb.block g (by
    rcases Nat.lt_or_ge g W.heap.size with h | h
    · omega
    · rw [Array.getElem?_eq_none h] at hg; cases hg)).trans hg
  have lt : ∀ {g : Nat} {o : Obj}, W.heap[g]? = some o → g < hi := fun {g} {o} hg => by
    rcases Nat.lt_or_ge g W.heap.size with h | h
    · omega
    · rw [Array.getElem?_eq_none h] at hg; cases hg
  have hU' : Mp W' mu (lU d e) := hU.keep (hb.block mu (by have := hU.lt; omega))
  have hB' : Mp W' mb (lB a b c) := hB.keep (hb.block mb (by have := hB.lt; omega))
  have two : ∀ {g : Nat} {x : Nat}, W.heap[g]? = some (opsC (x : Int) (x : Int)) → Opr W' hi (.slice (some ⟨g, 0, none⟩) 2 2) [x, x] := fun {g} {x} hg => Opr.of (up hg) (lt hg) rfl (by decide) fun j hj => by
    match j, hj with
    | 0, _ => rfl
    | 1, _ => rfl
  have one : ∀ {g : Nat} {x : Nat}, W.heap[g]? = some (.cells #[.int .i64 (x : Int)] 27 (0, 0)) → Opr W' hi (.slice (some ⟨g, 0, none⟩) 1 1) [x] := fun {g} {x} hg => Opr.of (up hg) (lt hg) rfl (by decide) fun j hj => by
    match j, hj with
    | 0, _ => rfl
  constructor
  · obtain ⟨g, n, t, hf, ht, hc⟩ := lU_at d e s
    have hl := hU'.look s hs hf
    subst ht
    rcases hc with ⟨h, rfl⟩ | ⟨h, rfl, rfl⟩ | ⟨h, rfl, rfl⟩
    · exact ⟨_, hl, by rw [h]; exact Opr.none _ _⟩
    · rw [ruV_succ] at hl
      exact ⟨_, hl, by rw [h]; exact one h4⟩
    · rw [ruV_succ] at hl
      exact ⟨_, hl, by rw [h]; exact one h5⟩
  · obtain ⟨g, n, t, hf, ht, hc⟩ := lB_at a b c s
    have hl := hB'.look s hs hf
    subst ht
    rcases hc with ⟨h, rfl⟩ | ⟨h, rfl, rfl⟩ | ⟨h, rfl, rfl⟩ | ⟨h, rfl, rfl⟩
    · exact ⟨_, hl, by rw [h]; exact Opr.none _ _⟩
    · rw [ruV_succ] at hl
      exact ⟨_, hl, by rw [h]; exact two h1⟩
    · rw [ruV_succ] at hl
      exact ⟨_, hl, by rw [h]; exact two h2⟩
    · rw [ruV_succ] at hl
      exact ⟨_, hl, by rw [h]; exact two h3⟩
/-- What stands while the second map is filled. -/
structure NS (w V : World) (mu mb d e : Nat) (lb : List (ByteArray × DataW Unit)) : Prop where
  nr : NR V w.heap.size
  mu_ : Mp V mu (lU d e)
  mb_ : Mp V mb lb
  d_ : V.heap[d]? = some (.cells #[.int .i64 1] 27 (0, 0))
  e_ : V.heap[e]? = some (.cells #[.int .i64 2] 27 (0, 0))
  ne : mu ≠ mb
  bel : Below w.heap.size w V
  low : w.heap.size ≤ mb
theorem NS.step {w V V' : World} {mu mb d e : Nat} {lb : List (ByteArray × DataW Unit)} {x : ByteArray × DataW Unit} (h : NS w V mu mb d e lb) (hm : Mp V' mb (lb ++ [x])) (hg : V.grownBy V' (some mb)) : NS w V' mu mb d e (lb ++ [x]) :=
  have keep : ∀ {g : Nat} {C : Array Value} {t : TypeId} {f : Nat × Nat}, V.heap[g]? = some (.cells C t f) → V'.heap[g]? = some (.cells C t f) := fun {g} {C} {t} {f} hC => (hg.block g (heap_lt hC) fun k => by
    injection k with k
    exact h.mb_.ne hC k).trans hC
  ⟨h.nr.map h.mb_ hg, h.mu_.keep (hg.block mu h.mu_.lt fun k => by injection k with k; exact h.ne k), hm, keep h.d_, keep h.e_, h.ne, h.bel.grown hg h.bel.size (fun b k => by injection k with k; have := h.low; omega), h.low⟩
end Go.Proofs.Ytligbandpmgmaaa
