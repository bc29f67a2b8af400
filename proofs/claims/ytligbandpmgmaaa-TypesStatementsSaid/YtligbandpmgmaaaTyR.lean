/-
  The rules of the operators as a map holds them. No function of the program.
-/
import Derived.Test.YtligbandpmgmaaaTyN
import Derived.Test.YtligbandpmgmaaaTyV
import Derived.Test.YtligbandpmgmaaaTyI
import Derived.Maps.Own
import Derived.Maps.OwnSet
import Derived.Maps.Views
import Derived.Maps.Keyed
namespace Go.Proofs.Ytligbandpmgmaaa
open Go Go.RowKit Go.Proofs

/-- A rule: a slice of two or one operand types, and the result's type. -/
abbrev ruv (K : Value) (t : Nat) : Value := .agg #[K, .int .i64 (t : Int)]
/-- The rule at block b - 1 (0: none), of n operands, as a value and as a datum. -/
def ruV (b n t : Nat) : Value := ruv (if b = 0 then .slice none 0 0 else .slice (some ⟨b - 1, 0, none⟩) n n) t
def cdD (b n t : Nat) : DataW Unit := .agg [.lit (.int .i64 (b : Int)), .lit (.int .i64 ((if b = 0 then 0 else n : Nat) : Int)), .lit (.int .i64 (t : Int))]
theorem ruV_cd {b n t b' n' t' : Nat} : ruV b n t = ruV b' n' t' ↔ cdD b n t = cdD b' n' t' := by
  unfold ruV cdD ruv
  by_cases h : b = 0
  · by_cases h' : b' = 0
    · simp [h, h']
    · simp [h, h']
      omega
  · by_cases h' : b' = 0
    · simp [h, h']
    · simp [h, h']
      omega
open Classical in
/-- How a rule reads. -/
noncomputable def cdR (v : Value) : Option (DataW Unit × List MemPlace) := if h : ∃ x : Nat × Nat × Nat, v = ruV x.1 x.2.1 x.2.2 then some (cdD h.choose.1 h.choose.2.1 h.choose.2.2, []) else none
theorem cdR_of (b n t : Nat) : cdR (ruV b n t) = some (cdD b n t, []) := by
  unfold cdR
  have h : ∃ x : Nat × Nat × Nat, ruV b n t = ruV x.1 x.2.1 x.2.2 := ⟨(b, n, t), rfl⟩
  rw [dif_pos h]
  have := ruV_cd.1 h.choose_spec
  rw [← this]
theorem cdR_inv {v : Value} {b n t : Nat} {ps : List MemPlace} (h : cdR v = some (cdD b n t, ps)) : v = ruV b n t := by
  unfold cdR at h
  by_cases k : ∃ x : Nat × Nat × Nat, v = ruV x.1 x.2.1 x.2.2
  · rw [dif_pos k] at h
    injection h with h
    injection h with h _
    exact k.choose_spec.trans (ruV_cd.2 h)
  · rw [dif_neg k] at h
    cases h
/-- A map of rules, as a list of its entries, the last ones first to be found. -/
def putAll (l : List (ByteArray × DataW Unit)) : DataW Unit := l.foldl (fun D e => D.put (.string e.1.data.toList) e.2) (.map [])
theorem putAll_snoc (l : List (ByteArray × DataW Unit)) (e : ByteArray × DataW Unit) : putAll (l ++ [e]) = (putAll l).put (.string e.1.data.toList) e.2 := by
  unfold putAll
  rw [List.foldl_append]
  rfl
theorem lit_inj {s s' : ByteArray} : Lit.string s.data.toList = Lit.string s'.data.toList ↔ s = s' := by
  constructor
  · intro h
    injection h with h
    obtain ⟨⟨a⟩⟩ := s
    obtain ⟨⟨b⟩⟩ := s'
    simp at h
    rw [h]
  · exact fun h => h ▸ rfl
theorem putAll_map (l : List (ByteArray × DataW Unit)) : Maps.IsMap (putAll l) := by
  unfold putAll
  have : ∀ (l : List (ByteArray × DataW Unit)) (D : DataW Unit), Maps.IsMap D → Maps.IsMap (l.foldl (fun D e => D.put (.string e.1.data.toList) e.2) D) := by
    intro l
    induction l with
    | nil => exact fun D h => h
    | cons e t ih => exact fun D h => ih _ (h.put _ _)
  exact this l _ Maps.isMap_empty
/-- What a list of entries answers: the last one. -/
def found (l : List (ByteArray × DataW Unit)) (s : ByteArray) (z : DataW Unit) : DataW Unit := match l.reverse.find? fun e => decide (e.1 = s) with | some e => e.2 | none => z
theorem putAll_at (z : DataW Unit) (s : ByteArray) : ∀ l : List (ByteArray × DataW Unit), (putAll l).atKey (.string s.data.toList) z = found l s z := by
  have key : ∀ (l : List (ByteArray × DataW Unit)), (putAll l.reverse).atKey (.string s.data.toList) z = match (l.find? fun e => decide (e.1 = s)) with | some e => e.2 | none => z := by
    intro l
    induction l with
    | nil => rfl
    | cons e t ih =>
      rw [List.reverse_cons, putAll_snoc, List.find?_cons]
      by_cases h : e.1 = s
      · rw [decide_eq_true h, ← h, Maps.atKey_put_same (putAll_map _) (show WideAt.IsKeyLit (Lit.string e.1.data.toList) from trivial)]
      · rw [decide_eq_false h, Maps.atKey_put_other (fun k => h (lit_inj.1 k).symm), ih]
  intro l
  have := key l.reverse
  rw [List.reverse_reverse] at this
  exact this
end Go.Proofs.Ytligbandpmgmaaa
