/-
  The orders of names: facts of the lexicographic order. Plain mathematics; no function of the program.
-/
import Derived.Test.YtlomhoohmcnniaaDoorK5

namespace Go.Proofs.YtlomhoohmcnniaaDoor.NM

theorem cmpI_vals (a b : Int) : cmpI a b = -1 ∨ cmpI a b = 0 ∨ cmpI a b = 1 := by
  unfold cmpI
  repeat' split
  all_goals omega
theorem cmpI_zero {a b : Int} : cmpI a b = 0 ↔ a = b := by
  unfold cmpI
  repeat' split
  all_goals omega
theorem cmpI_self (a : Int) : cmpI a a = 0 := cmpI_zero.2 rfl
theorem cmpI_swap (a b : Int) : cmpI b a = -cmpI a b := by
  unfold cmpI
  repeat' split
  all_goals omega
theorem lexL_vals : ∀ (a b : List Int), lexL a b = -1 ∨ lexL a b = 0 ∨ lexL a b = 1
  | [], [] => .inr (.inl rfl)
  | [], _ :: _ => .inl rfl
  | _ :: _, [] => .inr (.inr rfl)
  | a :: l, b :: r => by
    rw [lexL]
    unfold orI
    split
    · exact lexL_vals l r
    · exact cmpI_vals a b
theorem lexL_self : ∀ a : List Int, lexL a a = 0
  | [] => rfl
  | a :: l => by rw [lexL, cmpI_self, orI, if_pos rfl, lexL_self l]
theorem lexL_zero : ∀ {a b : List Int}, lexL a b = 0 → a = b
  | [], [], _ => rfl
  | [], _ :: _, h => by simp [lexL] at h
  | _ :: _, [], h => by simp [lexL] at h
  | a :: l, b :: r, h => by
    rw [lexL, orI] at h
    split at h
    · rename_i hc
      rw [cmpI_zero.1 hc, lexL_zero h]
    · rename_i hc
      exact absurd h hc
theorem lexL_swap : ∀ (a b : List Int), lexL b a = -lexL a b
  | [], [] => rfl
  | [], _ :: _ => rfl
  | _ :: _, [] => rfl
  | a :: l, b :: r => by
    rw [lexL, lexL, orI, orI, cmpI_swap a b, lexL_swap l r]
    split <;> split <;> omega
theorem lexL_trans : ∀ {a b c : List Int}, lexL a b ≤ 0 → lexL b c ≤ 0 → lexL a c ≤ 0
  | [], _, [], _, _ => Int.le_refl _
  | [], _, _ :: _, _, _ => by simp [lexL]
  | _ :: _, [], _, h, _ => by simp [lexL] at h
  | _ :: _, _ :: _, [], _, h => by simp [lexL] at h
  | x :: l, y :: r, z :: s, h1, h2 => by
    rw [lexL, orI] at h1 h2 ⊢
    have ih := @lexL_trans l r s
    unfold cmpI at h1 h2 ⊢
    repeat' split at h1
    all_goals (repeat' split at h2)
    all_goals (repeat' split)
    all_goals first | omega | exact ih h1 h2
theorem lexL_lt {a b c : List Int} (h1 : lexL a b < 0) (h2 : lexL b c ≤ 0) : lexL a c < 0 := by
  have h3 := lexL_trans (Int.le_of_lt h1) h2
  rcases lexL_vals a c with h | h | h
  · omega
  · have := lexL_zero h
    subst this
    have := lexL_swap b a
    omega
  · omega
theorem orI_vals {x y : Int} (hx : x = -1 ∨ x = 0 ∨ x = 1) (hy : y = -1 ∨ y = 0 ∨ y = 1) : orI x y = -1 ∨ orI x y = 0 ∨ orI x y = 1 := by
  unfold orI
  split
  · exact hy
  · exact hx
theorem orI_assoc (x y z : Int) : orI (orI x y) z = orI x (orI y z) := by
  unfold orI
  repeat' split
  all_goals first | rfl | omega | contradiction
theorem lexL_append : ∀ (a b c d : List Int), a.length = b.length → lexL (a ++ c) (b ++ d) = orI (lexL a b) (lexL c d)
  | [], [], c, d, _ => rfl
  | [], _ :: _, _, _, h => by simp at h
  | _ :: _, [], _, _, h => by simp at h
  | x :: a, y :: b, c, d, h => by
    rw [List.cons_append, List.cons_append, lexL, lexL, lexL_append a b c d (by simpa using h), orI_assoc]
theorem evL_inj {x y : Ev} : evL x = evL y ↔ x = y := by
  obtain ⟨k, n, a, c, h, t, i, p⟩ := x
  obtain ⟨k', n', a', c', h', t', i', p'⟩ := y
  simp [evL, msL]
theorem msL_inj {x y : Ms} : msL x = msL y ↔ x = y := by
  obtain ⟨c, h, t, i, p⟩ := x
  obtain ⟨c', h', t', i', p'⟩ := y
  simp [msL]
theorem quL_inj {x y : Qu} : quL x = quL y ↔ x = y := by
  obtain ⟨c, h, t, i, p⟩ := x
  obtain ⟨c', h', t', i', p'⟩ := y
  simp [quL]

/-! ### Steps -/
def askL (x : Qu × Int) : List Int := quL x.1 ++ [x.2]
def asksL (l : List (Qu × Int)) : List Int := l.flatMap askL
def stepL (e : Ev) (l : List (Qu × Int)) : List Int := evL e ++ asksL l
def cmpAsk (x y : Qu × Int) : Int := orI (lexL (quL x.1) (quL y.1)) (cmpI x.2 y.2)
/-- As the program compares the lists of questions: element by element, then their lengths. -/
def cmpAsks : List (Qu × Int) → List (Qu × Int) → Int
  | x :: l, y :: r => orI (cmpAsk x y) (cmpAsks l r)
  | l, r => cmpI l.length r.length
theorem cmpAsk_eq (x y : Qu × Int) : cmpAsk x y = lexL (askL x) (askL y) := by
  unfold cmpAsk askL
  rw [lexL_append (quL x.1) (quL y.1) _ _ rfl]
  congr 1
  rw [lexL, lexL, orI]
  split
  · exact ‹_›
  · rfl
theorem cmpAsks_eq : ∀ (l r : List (Qu × Int)), cmpAsks l r = lexL (asksL l) (asksL r)
  | [], [] => rfl
  | [], y :: r => by
    show cmpI _ _ = -1
    unfold cmpI
    rw [if_pos (by simp only [List.length_cons, List.length_nil]; omega)]
  | x :: l, [] => by
    show cmpI _ _ = 1
    unfold cmpI
    rw [if_neg (by simp only [List.length_cons, List.length_nil]; omega), if_pos (by simp only [List.length_cons, List.length_nil]; omega)]
  | x :: l, y :: r => by
    rw [cmpAsks, cmpAsks_eq l r, cmpAsk_eq]
    show _ = lexL (askL x ++ asksL l) (askL y ++ asksL r)
    rw [lexL_append (askL x) (askL y) _ _ rfl]
theorem step_eq (e f : Ev) (l r : List (Qu × Int)) : orI (lexL (evL e) (evL f)) (cmpAsks l r) = lexL (stepL e l) (stepL f r) := by
  unfold stepL
  rw [lexL_append (evL e) (evL f) _ _ rfl, cmpAsks_eq]
end Go.Proofs.YtlomhoohmcnniaaDoor.NM
