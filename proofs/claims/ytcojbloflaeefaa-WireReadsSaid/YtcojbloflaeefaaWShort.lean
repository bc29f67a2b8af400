/-
  Plain mathematics: reading a proper beginning of an encoding ends too short; what can be read to the end is what writing gives.
-/
import Derived.Test.YtcojbloflaeefaaWPure
namespace Go.Proofs.Ytcojbloflaeefaa
open Go

theorem rdU_take (n : Int) (rest : List Int) (k : Nat) (h : W64 n) : rdU (.ok ((encU n ++ rest).take k)) = if k < (encU n).length then (0, .bad 7) else (n, .ok (rest.take (k - (encU n).length))) := by
  rw [List.take_append]
  split
  · rename_i hk
    have e : k - (encU n).length = 0 := by omega
    rw [e, List.take_zero, List.append_nil]
    exact rdU_short n k h hk
  · rename_i hk
    rw [List.take_of_length_le (by omega)]
    exact rdU_enc n _ h
theorem rdI_take (n : Int) (rest : List Int) (k : Nat) (h : I64 n) : rdI (.ok ((encI n ++ rest).take k)) = if k < (encI n).length then (0, .bad 7) else (n, .ok (rest.take (k - (encI n).length))) := by
  unfold rdI encI
  rw [rdU_take _ _ _ (zig_w h)]
  split
  · rfl
  · simp only [unzig_zig]
theorem rdN_I_take : ∀ (l acc : List Int) (k : Nat), (∀ x ∈ l, I64 x) → k < (l.flatMap encI).length → (rdN rdI l.length acc (.ok ((l.flatMap encI).take k))).2 = .bad 7
  | [], acc, k, h, hk => by simp at hk
  | x :: xs, acc, k, h, hk => by
    rw [List.length_cons, rdN, List.flatMap_cons, rdI_take x _ k (h x (by simp))]
    split
    · rw [rdN_bad]
    · rw [List.flatMap_cons, List.length_append] at hk
      exact rdN_I_take xs _ _ (fun y hy => h y (by simp [hy])) (by omega)
theorem lim_bad (most e : Int) : lim most (0, .bad e) = (0, .bad e) := rfl
theorem rdB_take (most : Int) (b : List Int) (k : Nat) (h : (b.length : Int) ≤ most) (hs : b.length ≤ 1000000) (hk : k < (encB b).length) : (rdB most (.ok ((encB b).take k))).2 = .bad 7 := by
  have hu := rdU_take b.length b k ⟨by omega, by omega⟩
  unfold encB at hk ⊢
  rw [List.length_append] at hk
  by_cases hc : k < (encU b.length).length
  · rw [if_pos hc] at hu
    unfold rdB rdList
    rw [hu, lim_bad, rdN_bad]
  · rw [if_neg hc] at hu
    rw [rdB_eq most _ _ _ hu (by omega), if_neg]
    rw [List.length_take]
    omega
theorem rdL_take (most : Int) (l : List Int) (k : Nat) (h : (l.length : Int) ≤ most) (hs : l.length ≤ 1000000) (hi : ∀ x ∈ l, I64 x) (hk : k < (encL l).length) : (rdL most (.ok ((encL l).take k))).2 = .bad 7 := by
  have hu := rdU_take l.length (l.flatMap encI) k ⟨by omega, by omega⟩
  unfold encL at hk ⊢
  rw [List.length_append] at hk
  by_cases hc : k < (encU l.length).length
  · rw [if_pos hc] at hu
    unfold rdL rdList
    rw [hu, lim_bad, rdN_bad]
  · rw [if_neg hc] at hu
    rw [rdL_eq most _ _ _ hu (by omega), Int.toNat_natCast]
    exact rdN_I_take l [] _ hi (by omega)
theorem rdV_take (most : Int) (x : V) (k : Nat) (h : x.wf) (hb : (x.b.length : Int) ≤ most) (hl : (x.l.length : Int) ≤ most) (hk : k < (encV x).length) : (rdV x.kind most (.ok ((encV x).take k))).2 = .bad 7 := by
  obtain ⟨kd, u, n, b, l⟩ := x
  obtain ⟨h1, h2, h3, h4, h5, h6, hkd⟩ := h
  simp only at *
  unfold encV at hk ⊢
  unfold rdV
  simp only at hk ⊢
  rcases hkd with rfl | rfl | rfl | rfl
  · rw [if_pos rfl] at hk ⊢
    rw [if_pos rfl]
    rw [rdU_short u k h1 hk]
  · rw [if_neg (by decide), if_pos rfl] at hk ⊢
    rw [if_neg (by decide), if_pos rfl]
    have := rdI_take n [] k h2
    rw [List.append_nil, if_pos hk] at this
    rw [this]
  · rw [if_neg (by decide), if_neg (by decide), if_pos rfl] at hk ⊢
    rw [if_neg (by decide), if_neg (by decide), if_pos rfl]
    exact rdB_take most b k hb (by omega) hk
  · rw [if_neg (by decide), if_neg (by decide), if_neg (by decide)] at hk ⊢
    rw [if_neg (by decide), if_neg (by decide), if_neg (by decide)]
    exact rdL_take most l k hl (by omega) h4 hk

theorem rdV_stuck (k most e : Int) : (rdV k most (.bad e)).2 = .bad e := by
  have e1 : rdU (.bad e) = (0, .bad e) := rfl
  have e2 : rdI (.bad e) = (0, .bad e) := rfl
  have e3 : rdB most (.bad e) = ([], .bad e) := by unfold rdB rdList; rw [e1, lim_bad, rdN_bad]
  have e4 : rdL most (.bad e) = ([], .bad e) := by unfold rdL rdList; rw [e1, lim_bad, rdN_bad]
  unfold rdV
  rw [e1, e2, e3, e4]
  split
  · rfl
  · split
    · rfl
    · split <;> rfl
/-- The state behind reading values of the kinds of xs. -/
def rdAll (most : Int) (xs : List V) (s : St) : St := xs.foldl (fun s x => (rdV x.kind most s).2) s
theorem rdAll_bad (most e : Int) (xs : List V) : rdAll most xs (.bad e) = .bad e := by
  induction xs with
  | nil => rfl
  | cons x xs ih =>
    unfold rdAll at *
    rw [List.foldl_cons, rdV_stuck, ih]
theorem rdAll_take (xs : List V) : ∀ (k : Nat), (∀ x ∈ xs, x.wf ∧ x.flat ∧ x.b.length ≤ 9 ∧ x.l.length ≤ 4) → k < (encVs xs).length → rdAll 10 xs (.ok ((encVs xs).take k)) = .bad 7 := by
  induction xs with
  | nil => intro k _ hk; simp [encVs] at hk
  | cons x xs ih =>
    intro k h hk
    obtain ⟨hw, hf, hb, hl⟩ := h x (by simp)
    have e : encVs (x :: xs) = encV x ++ encVs xs := by unfold encVs; rw [List.flatMap_cons]
    rw [e] at hk ⊢
    rw [List.length_append] at hk
    rw [List.take_append]
    have ec : ∀ s, rdAll 10 (x :: xs) s = rdAll 10 xs (rdV x.kind 10 s).2 := fun s => by unfold rdAll; rw [List.foldl_cons]
    rw [ec]
    by_cases hc : k < (encV x).length
    · have e0 : k - (encV x).length = 0 := by omega
      rw [e0, List.take_zero, List.append_nil, rdV_take 10 x k hw (by omega) (by omega) hc, rdAll_bad]
    · rw [List.take_of_length_le (by omega), rdV_enc 10 x _ hw hf (by omega) (by omega)]
      exact ih _ (fun y hy => h y (by simp [hy])) (by omega)
theorem rdAll_enc (xs : List V) : ∀ (rest : List Int), (∀ x ∈ xs, x.wf ∧ x.flat ∧ x.b.length ≤ 9 ∧ x.l.length ≤ 4) → rdAll 10 xs (.ok (encVs xs ++ rest)) = .ok rest := by
  induction xs with
  | nil => intro rest _; simp [rdAll, encVs]
  | cons x xs ih =>
    intro rest h
    obtain ⟨hw, hf, hb, hl⟩ := h x (by simp)
    have e : encVs (x :: xs) = encV x ++ encVs xs := by unfold encVs; rw [List.flatMap_cons]
    have ec : ∀ s, rdAll 10 (x :: xs) s = rdAll 10 xs (rdV x.kind 10 s).2 := fun s => by unfold rdAll; rw [List.foldl_cons]
    rw [ec, e, List.append_assoc, rdV_enc 10 x _ hw hf (by omega) (by omega)]
    exact ih rest (fun y hy => h y (by simp [hy]))
theorem rdAll_snoc (most : Int) (xs : List V) (k : Nat) (x : V) (s : St) (h : xs[k]? = some x) : rdAll most (xs.take (k + 1)) s = (rdV x.kind most (rdAll most (xs.take k) s)).2 := by
  unfold rdAll
  rw [List.take_add_one, h, List.foldl_append]
  rfl
end Go.Proofs.Ytcojbloflaeefaa
