/-
  How many nodes a generated expression has. Plain mathematics; no function of the program.
-/
import Derived.Test.YtofeidacffabdaaTyRp
namespace Go.Proofs.Ytofeidacffabdaa
open TY

def sbd : Nat → Nat
  | 0 => 3
  | d + 1 => 2 * sbd d + 1
theorem genF_sz (L : List Int) (deep : Bool) {sub : Nat → Nat → Nd × Nat} {e : Nat} (hs : ∀ t i, nsz (sub t i).1 ≤ e) (want i : Nat) : nsz (genF L deep sub want i).1 ≤ 2 * e + 1 := by
  have h1 : ∀ k s t i, nsz (one sub k s t i).1 ≤ 2 * e + 1 := fun k s t i => by
    unfold one
    dsimp only
    rw [nsz_eq]
    have := hs t i
    simp only [List.map_cons, List.map_nil, List.sum_cons, List.sum_nil]
    omega
  have h2 : ∀ s t i, nsz (two sub s t i).1 ≤ 2 * e + 1 := fun s t i => by
    unfold two
    dsimp only
    rw [nsz_eq]
    have := hs t i
    have := hs t (sub t i).2
    simp only [List.map_cons, List.map_nil, List.sum_cons, List.sum_nil]
    omega
  have h0 : ∀ k n s, nsz (.mk k n s []) ≤ 2 * e + 1 := fun k n s => by
    rw [nsz_eq]
    simp only [List.map_nil, List.sum_nil]
    omega
  unfold genF genB genI genL
  repeat' split
  all_goals first | exact h0 _ _ _ | exact h1 _ _ _ _ | exact h2 _ _ _
theorem genE_sz (L : List Int) : ∀ d want i, nsz (genE L d want i).1 ≤ sbd d
  | 0 => fun want i => genF_sz L false (sub := fun _ i => (default, i)) (e := 1) (fun _ _ => by show nsz (.mk 0 0 ⟨#[]⟩ []) ≤ 1; rw [nsz_eq]; simp) want i
  | d + 1 => genF_sz L true (genE_sz L d)
theorem exprT_sz (zs : List Int) : nsz (exprT zs) ≤ 63 := genE_sz _ 4 _ _
end Go.Proofs.Ytofeidacffabdaa
