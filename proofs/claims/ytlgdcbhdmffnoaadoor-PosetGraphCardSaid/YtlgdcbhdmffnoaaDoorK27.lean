/-
  Depth-first search as a function on lists. Plain mathematics; no function of the program.
-/
import Derived.Test.YtlgdcbhdmffnoaaDoorK4

namespace Go.Proofs.YtlgdcbhdmffnoaaDoor

/-- How many vertices are not visited. -/
def unv (vis : List Bool) : Nat := (vis.filter (!·)).length
def dfs (nx : List (List Nat)) : Nat → Nat → List Bool × List Nat → List Bool × List Nat
  | 0, _, s => s
  | f + 1, v, s =>
    if s.1[v]?.getD true = true then s
    else
      let s1 := (nb nx v).foldl (fun s w => dfs nx f w s) (s.1.set v true, s.2)
      (s1.1, s1.2 ++ [v])
def dfsL (nx : List (List Nat)) (f : Nat) (l : List Nat) (s : List Bool × List Nat) : List Bool × List Nat := l.foldl (fun s w => dfs nx f w s) s
theorem dfs_seen (nx : List (List Nat)) (f v : Nat) (s : List Bool × List Nat) (h : s.1[v]?.getD true = true) : dfs nx (f + 1) v s = s := by rw [dfs, if_pos h]
theorem dfs_new (nx : List (List Nat)) (f v : Nat) (s : List Bool × List Nat) (h : s.1[v]? = some false) :
    dfs nx (f + 1) v s = ((dfsL nx f (nb nx v) (s.1.set v true, s.2)).1, (dfsL nx f (nb nx v) (s.1.set v true, s.2)).2 ++ [v]) := by
  rw [dfs, if_neg (by rw [h]; simp)]
  rfl
theorem dfsL_nil (nx : List (List Nat)) (f : Nat) (s : List Bool × List Nat) : dfsL nx f [] s = s := rfl
theorem dfsL_snoc (nx : List (List Nat)) (f : Nat) (l : List Nat) (x : Nat) (s : List Bool × List Nat) : dfsL nx f (l ++ [x]) s = dfs nx f x (dfsL nx f l s) := by
  unfold dfsL
  rw [List.foldl_append]
  rfl
theorem unv_set (vis : List Bool) (v : Nat) (h : vis[v]? = some false) : unv (vis.set v true) + 1 = unv vis := by
  induction vis generalizing v with
  | nil => cases h
  | cons b bs ih =>
    cases v with
    | zero =>
      simp at h
      subst h
      simp [unv]
    | succ v =>
      have := ih v (by simpa using h)
      unfold unv at *
      rw [List.set_cons_succ, List.filter_cons, List.filter_cons]
      cases b
      · simp only [Bool.not_false, if_true, List.length_cons]; omega
      · simp only [Bool.not_true, Bool.false_eq_true, if_false]; exact this
/-- What a search keeps: the length, and how many there are in all. -/
structure Step (s t : List Bool × List Nat) : Prop where
  len : t.1.length = s.1.length
  unv_ : unv t.1 ≤ unv s.1
  all : t.2.length + unv t.1 ≤ s.2.length + unv s.1
theorem Step.refl (s : List Bool × List Nat) : Step s s := ⟨rfl, Nat.le_refl _, Nat.le_refl _⟩
theorem Step.trans {a b c : List Bool × List Nat} (h : Step a b) (k : Step b c) : Step a c :=
  ⟨k.len.trans h.len, Nat.le_trans k.unv_ h.unv_, Nat.le_trans k.all h.all⟩
theorem dfs_step (nx : List (List Nat)) (f : Nat) : ∀ v s, Step s (dfs nx f v s) := by
  induction f with
  | zero => exact fun v s => Step.refl s
  | succ f ih =>
    have hL : ∀ l s, Step s (dfsL nx f l s) := by
      intro l
      induction l with
      | nil => exact fun s => Step.refl s
      | cons x xs ihl => exact fun s => (ih x s).trans (ihl _)
    intro v s
    by_cases h : s.1[v]?.getD true = true
    · rw [dfs_seen nx f v s h]
      exact Step.refl s
    · have hv : s.1[v]? = some false := by
        cases hs : s.1[v]? with
        | none => rw [hs] at h; simp at h
        | some b => rw [hs] at h; cases b <;> simp_all
      rw [dfs_new nx f v s hv]
      have h1 := hL (nb nx v) (s.1.set v true, s.2)
      have h2 := unv_set s.1 v hv
      have h3 := h1.len
      have h4 := h1.unv_
      have h5 := h1.all
      simp only [List.length_set] at h3 h4 h5
      exact ⟨h3, by simp only; omega, by simp only [List.length_append, List.length_cons, List.length_nil]; omega⟩
theorem dfsL_step (nx : List (List Nat)) (f : Nat) : ∀ l s, Step s (dfsL nx f l s) := by
  intro l
  induction l with
  | nil => exact fun s => Step.refl s
  | cons x xs ihl => exact fun s => (dfs_step nx f x s).trans (ihl _)
end Go.Proofs.YtlgdcbhdmffnoaaDoor
