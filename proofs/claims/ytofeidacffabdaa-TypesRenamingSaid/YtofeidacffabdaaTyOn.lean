/-
  The names of a generated program are short. Plain mathematics; no function of the program.
-/
import Derived.Test.YtofeidacffabdaaTyDe
namespace Go.Proofs.Ytofeidacffabdaa.TY

def SM (t : Nd) : Prop := ∀ s ∈ occ t, s.size ≤ 2
theorem SM.mk' {k n : Int} {s : ByteArray} {l : List Nd} (h : k = 1 ∨ k = 14 → s.size ≤ 2) (hl : ∀ x ∈ l, SM x) : SM (.mk k n s l) := by
  intro y hy
  rw [occ_eq, List.mem_append] at hy
  rcases hy with h1 | h1
  · by_cases hk : k = 1 ∨ k = 14
    · rw [if_pos hk, List.mem_singleton] at h1
      subst h1
      exact h hk
    · rw [if_neg hk] at h1
      cases h1
  · obtain ⟨m, hm, hz⟩ := List.mem_flatten.1 h1
    obtain ⟨x, hx, rfl⟩ := List.mem_map.1 hm
    exact hl x hx y hz
theorem vName_two (y : Nat) : (vName y).size ≤ 2 := by
  show 2 ≤ 2
  decide
theorem SM.nil {k n : Int} {s : ByteArray} (h : k = 1 ∨ k = 14 → s.size ≤ 2) : SM (.mk k n s []) := SM.mk' h fun x hx => by cases hx
theorem SM.k0 {k : Int} (h : ¬ (k = 1 ∨ k = 14)) {n : Int} {s : ByteArray} {l : List Nd} (hl : ∀ x ∈ l, SM x) : SM (.mk k n s l) := SM.mk' (fun e => absurd e h) hl
theorem genF_sm (L : List Int) (deep : Bool) {sub : Nat → Nat → Nd × Nat} (hs : ∀ t i, SM (sub t i).1) (want i : Nat) : SM (genF L deep sub want i).1 := by
  have h1 : ∀ k s t i, ¬ (k = 1 ∨ k = 14) → SM (one sub k s t i).1 := fun k s t i hk => by
    unfold one
    exact SM.k0 hk fun x hx => by
      rw [List.mem_singleton] at hx
      subst hx
      exact hs _ _
  have h2 : ∀ s t i, SM (two sub s t i).1 := fun s t i => by
    unfold two
    exact SM.k0 (by decide) fun x hx => by
      rcases List.mem_cons.1 hx with rfl | hx
      · exact hs _ _
      · rw [List.mem_singleton] at hx
        subst hx
        exact hs _ _
  unfold genF genB genI genL
  repeat' split
  all_goals first
    | exact h2 _ _ _
    | exact h1 _ _ _ _ (by decide)
    | exact SM.nil (fun e => absurd e (by decide))
    | exact SM.nil (fun _ => vName_two _)
theorem genE_sm (L : List Int) : ∀ d want i, SM (genE L d want i).1
  | 0 => genF_sm L false fun _ _ => SM.nil (fun e => absurd e (by decide))
  | d + 1 => genF_sm L true (genE_sm L d)
theorem blockG_sm (L : List Int) {st : Gen} (h : ∀ i, SM (st i).1) (i : Nat) : SM (blockG L st i).1 := SM.k0 (by decide) (many_fit h _ _)
theorem stF_sm (L : List Int) (deep : Bool) {sub : Gen} (h : ∀ i, SM (sub i).1) (i : Nat) : SM (stF L deep sub i).1 := by
  have hE := fun d t j => genE_sm L d t j
  unfold stF
  dsimp only
  repeat' split
  all_goals
    refine SM.mk' (fun e => ?_) fun x hx => ?_
    · first | exact absurd e (by decide) | exact vName_two _
    · simp only [List.mem_cons, List.not_mem_nil, or_false] at hx <;>
      first
        | (rcases hx with rfl | rfl | rfl <;> first | exact hE _ _ _ | exact h _)
        | (rcases hx with rfl | rfl <;> first | exact hE _ _ _ | exact h _)
        | (subst hx; first | exact hE _ _ _ | exact h _)
        | exact hx.elim
theorem stG_sm (L : List Int) : ∀ d i, SM (stG L d i).1
  | 0 => stF_sm L false fun _ => SM.k0 (by decide) fun x hx => by cases hx
  | d + 1 => stF_sm L true (blockG_sm L (stG_sm L d))
theorem unit_sm (L : List Int) : ∀ x ∈ (unitG L).on, SM x.2 := onG_all L _ (blockG_sm L (stG_sm L 2)) 4 4

end Go.Proofs.Ytofeidacffabdaa.TY
