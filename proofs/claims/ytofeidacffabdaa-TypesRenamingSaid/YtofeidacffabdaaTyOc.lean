/-
  How many names a generated program holds. Plain mathematics; no function of the program.
-/
import Derived.Test.YtofeidacffabdaaTyV
namespace Go.Proofs.Ytofeidacffabdaa.TY

def oc (t : Nd) : Nat := (occ t).length
theorem oc_eq (k n : Int) (s : ByteArray) (l : List Nd) : oc (.mk k n s l) = (if k = 1 ∨ k = 14 then 1 else 0) + (l.map oc).sum := by
  unfold oc
  rw [occ_eq, List.length_append, List.length_flatten, List.map_map]
  congr 1
  split <;> rfl
def ob : Nat → Nat
  | 0 => 1
  | d + 1 => 2 * ob d + 1
theorem oc_nil (k n : Int) (s : ByteArray) : oc (.mk k n s []) ≤ 1 := by
  rw [oc_eq]
  simp only [List.map_nil, List.sum_nil]
  split <;> omega
theorem genF_oc (L : List Int) (deep : Bool) {sub : Nat → Nat → Nd × Nat} {e : Nat} (hs : ∀ t i, oc (sub t i).1 ≤ e) (want i : Nat) : oc (genF L deep sub want i).1 ≤ 2 * e + 1 := by
  have h1 : ∀ k s t i, oc (one sub k s t i).1 ≤ 2 * e + 1 := fun k s t i => by
    unfold one
    dsimp only
    rw [oc_eq]
    have := hs t i
    simp only [List.map_cons, List.map_nil, List.sum_cons, List.sum_nil]
    split <;> omega
  have h2 : ∀ s t i, oc (two sub s t i).1 ≤ 2 * e + 1 := fun s t i => by
    unfold two
    dsimp only
    rw [oc_eq]
    have := hs t i
    have := hs t (sub t i).2
    simp only [List.map_cons, List.map_nil, List.sum_cons, List.sum_nil]
    split <;> omega
  have h0 : ∀ k n s, oc (.mk k n s []) ≤ 2 * e + 1 := fun k n s => Nat.le_trans (oc_nil k n s) (by omega)
  unfold genF genB genI genL
  repeat' split
  all_goals first | exact h0 _ _ _ | exact h1 _ _ _ _ | exact h2 _ _ _
theorem genE_oc (L : List Int) : ∀ d want i, oc (genE L d want i).1 ≤ ob d
  | 0 => fun want i => by
    have := genF_oc L false (sub := fun _ i => (default, i)) (e := 0) (fun _ _ => by show oc default ≤ 0; unfold oc; simp [default, occ_eq]) want i
    exact this
  | d + 1 => genF_oc L true (genE_oc L d)
def os : Nat → Nat
  | 0 => 40
  | d + 1 => 40 + 2 * (3 * os d)
theorem many_oc {g : Gen} {e : Nat} (h : ∀ i, oc (g i).1 ≤ e) : ∀ m i, ((many g m i).1.map oc).sum ≤ m * e
  | 0, _ => by simp [many]
  | m + 1, i => by
    have h1 := h i
    have h2 := many_oc h m (g i).2
    rw [many]
    simp only [List.map_cons, List.sum_cons]
    rw [Nat.add_mul, Nat.one_mul]
    omega
theorem blockG_oc (L : List Int) {st : Gen} {e : Nat} (h : ∀ i, oc (st i).1 ≤ e) (i : Nat) : oc (blockG L st i).1 ≤ 3 * e := by
  unfold blockG
  dsimp only
  rw [oc_eq, if_neg (by decide), Nat.zero_add]
  have h1 := many_oc h (nxt L i 4) (i + 1)
  have h2 : nxt L i 4 < 4 := nxt_lt _ _ (by decide)
  have := Nat.mul_le_mul_right e (show nxt L i 4 ≤ 3 by omega)
  omega
theorem stF_oc (L : List Int) (deep : Bool) {sub : Gen} {e : Nat} (h : ∀ i, oc (sub i).1 ≤ e) (i : Nat) : oc (stF L deep sub i).1 ≤ 40 + 2 * e := by
  have e1 : ∀ t i, oc (genE L 1 t i).1 ≤ 3 := fun t i => genE_oc L 1 t i
  have e2 : ∀ t i, oc (genE L 2 t i).1 ≤ 7 := fun t i => genE_oc L 2 t i
  have e3 : ∀ t i, oc (genE L 3 t i).1 ≤ 15 := fun t i => genE_oc L 3 t i
  unfold stF
  dsimp only
  repeat' split
  all_goals
    rw [oc_eq]
    first
      | rw [if_pos (.inl rfl)]
      | rw [if_neg (by decide)]
    simp only [List.map_cons, List.map_nil, List.sum_cons, List.sum_nil]
    have a1 := e2 1 (i + 2)
    have a2 := e2 1 (genE L 2 1 (i + 2)).2
    have a3 := e1 1 (genE L 2 1 (genE L 2 1 (i + 2)).2).2
    have a4 := e2 1 (i + 1)
    have a5 := e2 1 (genE L 2 1 (i + 1)).2
    have a6 := e2 2 (i + 1)
    have a7 := h (genE L 2 2 (i + 1)).2
    have a8 := h (sub (genE L 2 2 (i + 1)).2).2
    have a9 := e3 1 (i + 2)
    omega
theorem stG_oc (L : List Int) : ∀ d i, oc (stG L d i).1 ≤ os d
  | 0 => fun i => by
    have := stF_oc L false (sub := fun i => (.mk 11 0 eps [], i)) (e := 0) (fun _ => by show oc (.mk 11 0 eps []) ≤ 0; rw [oc_eq]; simp) i
    exact this
  | d + 1 => fun i => stF_oc L true (blockG_oc L (stG_oc L d)) i
theorem onG_oc (L : List Int) (nums : List Int) : ∀ m i, ∀ x ∈ onG L nums m i, oc x.2 ≤ 50000
  | 0, _, x, hx => by cases hx
  | m + 1, i, x, hx => by
    unfold onG at hx
    dsimp only at hx
    split at hx
    · rcases List.mem_cons.1 hx with rfl | hx
      · exact Nat.le_trans (blockG_oc L (stG_oc L 2) _) (by decide)
      · exact onG_oc L nums m _ x hx
    · exact onG_oc L nums m _ x hx
end Go.Proofs.Ytofeidacffabdaa.TY
