/-
  Lists compared and filtered step by step. Plain mathematics.
-/
namespace Go.Proofs.Ytepbppckhfiplaa.LS
theorem differ {α : Type} {l r : List α} {k : Nat} {x y : α} (hx : l[k]? = some x) (hy : r[k]? = some y) (h : x ≠ y) : l ≠ r := fun e => by
  subst e
  rw [hx] at hy
  injection hy with hy
  exact h hy
theorem more {α : Type} {l r : List α} {k : Nat} {x : α} (h : l.take k = r.take k) (hx : l[k]? = some x) (hy : r[k]? = some x) : l.take (k + 1) = r.take (k + 1) := by
  rw [List.take_add_one, List.take_add_one, h, hx, hy]
theorem both {α : Type} {l r : List α} {k : Nat} (h : l.take k = r.take k) (hl : l.length ≤ k) (hr : r.length ≤ k) : l = r := by
  rwa [List.take_of_length_le hl, List.take_of_length_le hr] at h
theorem dec_f {p : Prop} [Decidable p] (h : ¬ p) : decide p = false := decide_eq_false h
theorem filt_in {α : Type} {l : List α} {k : Nat} {x : α} {p : α → Bool} (hx : l[k]? = some x) (h : p x = true) : (l.take (k + 1)).filter p = (l.take k).filter p ++ [x] := by
  rw [List.take_add_one, hx, List.filter_append]
  simp [h]
theorem filt_out {α : Type} {l : List α} {k : Nat} {x : α} {p : α → Bool} (hx : l[k]? = some x) (h : p x = false) : (l.take (k + 1)).filter p = (l.take k).filter p := by
  rw [List.take_add_one, hx, List.filter_append]
  simp [h]
theorem any_more {α : Type} {l : List α} {k : Nat} {x : α} {p : α → Bool} (hx : l[k]? = some x) (h : (l.take k).any p = false) (hp : p x = false) : (l.take (k + 1)).any p = false := by
  rw [List.take_add_one, hx, List.any_append, h]
  simp [hp]
theorem any_take {α : Type} {l : List α} {k : Nat} {p : α → Bool} (h : (l.take k).any p = false) (hl : l.length ≤ k) : l.any p = false := by
  rwa [List.take_of_length_le hl] at h
end Go.Proofs.Ytepbppckhfiplaa.LS
