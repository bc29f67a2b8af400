/-
  The rules as the checker looks them up: what a map of rules answers, in every later world. No function of the program.
-/
import Derived.Test.YtligbandpmgmaaaTyR
import Derived.Deep.WholeRow
namespace Go.Proofs.Ytligbandpmgmaaa
open Go Go.RowKit Go.Proofs

/-- Block b is a map that holds the rules l. -/
def Mp (W : World) (b : Nat) (l : List (ByteArray × DataW Unit)) : Prop := W.ownsMap Try.prog 9 cdR b l.length (putAll l)
section
variable {W W' : World} {b : Nat} {l : List (ByteArray × DataW Unit)}
theorem Mp.keep (h : Mp W b l) (hb : W'.heap[b]? = W.heap[b]?) : Mp W' b l := by
  obtain ⟨es, clock, h1, h2⟩ := h
  exact ⟨es, clock, hb.trans h1, h2⟩
theorem Mp.lt (h : Mp W b l) : b < W.heap.size := World.ownsMap.lt h
theorem Mp.made (W : World) : Mp (W.alloc (.map #[] 0)) W.heap.size [] := World.ownsMap_made W _ _ _
theorem Mp.ne (h : Mp W b l) {g : Nat} {C : Array Value} {t : TypeId} {fr : Nat × Nat} (hg : W.heap[g]? = some (.cells C t fr)) : g ≠ b := by
  obtain ⟨es, clock, h1, _⟩ := h
  rintro rfl
  rw [hg] at h1
  cases h1
theorem key_str (s : ByteArray) (hs : s.size ≤ 1000) : keyOf Try.prog 9 (.string s) = some (.string s.data.toList) := by
  unfold keyOf
  rw [Try.underlying9]
  unfold mapKey
  rw [Try.underlying9]
  simp only
  rw [if_pos (by simp only [maxLen]; omega)]
theorem zero_rule_run : ∀ w, (zeroValue 59).run Try.prog w = .ok (.agg #[.slice none 0 0, .int .i64 0]) w := (zero_of_info zero_rule).1
/-- One entry more. -/
theorem wpList_insert_rule {ops : Array Oper} {rest : List Oper} {o : Oper} {a : Act} {Q : Exit → Act → World → Prop} (hg : o.guard = none) (m x v : Operand) (hop : o.op = Op.insert 46 m x v)
    (b : Nat) (l : List (ByteArray × DataW Unit)) (hm : a.eval m = .map (some b)) (hown : Mp W b l) (hl : l.length < 100) (key : ByteArray) (hks : key.size ≤ 1000) (g n t : Nat) (hx : a.eval x = .string key) (hv : a.eval v = ruV g n t)
    (hK : ∀ w', Mp w' b (l ++ [(key, cdD g n t)]) → W.grownBy w' (some b) → wpList Try.prog ops Q rest (a.put o.dst undef) w') : wpList Try.prog ops Q (o :: rest) a W := by
  refine wpList_plain hg fun K' hK' => ?_
  obtain ⟨w', hrun, r1, r2⟩ := World.ownsMap.update hown (Maps.string_keyed Try.underlying9) Try.underlying46 (by simp only [maxLen]; omega) (key_str key hks) (cdR_of g n t)
  unfold Oper.wp
  simp [execOp, hop, hm, hx, hv, hrun, Result.andThen]
  refine hK' _ _ (hK w' ?_ r2)
  unfold Mp
  rw [List.length_append, putAll_snoc]
  exact r1
/-- What is found. -/
theorem Mp.look (h : Mp W b l) (s : ByteArray) (hs : s.size ≤ 1000) {g n t : Nat} (hf : found l s (cdD 0 0 0) = cdD g n t) :
    (Instr.lookup 46 (.map (some b)) (.string s) false).run Try.prog W = .ok (ruV g n t) W := by
  obtain ⟨v, ps, hrun, hv⟩ := World.ownsMap.lookup h (Maps.string_keyed Try.underlying9) Try.underlying46 (zero_rule_run W) (cdR_of 0 0 0) (key_str s hs)
  rw [putAll_at, hf] at hv
  rw [hrun, cdR_inv hv]
/-- The operands' types of a rule. -/
def Opr (W : World) (hi : Nat) (K : Value) (ts : List Nat) : Prop := ∃ A c, K = .slice A ts.length c ∧ ts.length ≤ c ∧ c ≤ maxLen ∧ Ints .i64 hi W A ts.length (ts.map fun n : Nat => (n : Int))
theorem Opr.below {hi : Nat} {K : Value} {ts : List Nat} (h : Opr W hi K ts) (hb : Below hi W W') : Opr W' hi K ts := by
  obtain ⟨A, c, e, h1, h2, h3⟩ := h
  exact ⟨A, c, e, h1, h2, h3.below hb⟩
/-- What the two maps answer. -/
def Looks (W : World) (hi mu mb : Nat) : Prop := ∀ s : ByteArray, s.size ≤ 1000 →
  (∃ K, (Instr.lookup 46 (.map (some mu)) (.string s) false).run Try.prog W = .ok (ruv K (TY.ruleU s).2) W ∧ Opr W hi K (TY.ruleU s).1) ∧
  (∃ K, (Instr.lookup 46 (.map (some mb)) (.string s) false).run Try.prog W = .ok (ruv K (TY.ruleB s).2) W ∧ Opr W hi K (TY.ruleB s).1)
/-- The checker's rules: the maps at mu and mb, below hi. -/
def Rul (W : World) (hi mu mb : Nat) : Prop := ∀ W', Below hi W W' → Looks W' hi mu mb
theorem Rul.below {hi mu mb : Nat} (h : Rul W hi mu mb) (hb : Below hi W W') : Rul W' hi mu mb := fun V hV => h V (hb.trans hV)
theorem Opr.none (W : World) (hi : Nat) : Opr W hi (.slice .none 0 0) [] := ⟨.none, 0, rfl, Nat.le_refl _, by simp [maxLen], Ints.nil _ _ _ _⟩
theorem Opr.of {hi g n : Nat} {C : Array Value} {f : Nat × Nat} {ts : List Nat} (hg : W.heap[g]? = some (.cells C 27 f)) (hlt : g < hi) (hn : ts.length = n) (hm : n ≤ 1000) (hc : ∀ j, j < n → C[j]? = some (.int .i64 ((ts[j]?.getD 0 : Nat) : Int))) : Opr W hi (.slice (some ⟨g, 0, .none⟩) n n) ts := by
  subst hn
  refine ⟨_, _, rfl, Nat.le_refl _, by simp only [maxLen]; omega, by simp, fun _ => ⟨g, 0, rfl, hlt, fun j hj => ?_⟩⟩
  rw [Nat.zero_add, cell_of_row W g j C _ f hg, hc j hj, List.getElem?_map, List.getElem?_eq_getElem hj]
  rfl
end
end Go.Proofs.Ytligbandpmgmaaa
