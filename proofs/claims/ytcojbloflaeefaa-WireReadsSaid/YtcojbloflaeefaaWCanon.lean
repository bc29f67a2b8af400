/-
  Plain mathematics: what can be read is what writing gives.
-/
import Derived.Test.YtcojbloflaeefaaWShort
namespace Go.Proofs.Ytcojbloflaeefaa
open Go

theorem rdI_inv {bs r : List Int} {v : Int} (hb : ∀ x ∈ bs, B8 x) (h : rdI (.ok bs) = (v, .ok r)) : I64 v ∧ bs = encI v ++ r := by
  unfold rdI at h
  obtain ⟨z, s, hz⟩ : ∃ z s, rdU (.ok bs) = (z, s) := ⟨_, _, rfl⟩
  rw [hz] at h
  simp only [Prod.mk.injEq] at h
  obtain ⟨rfl, rfl⟩ := h
  obtain ⟨h1, h2⟩ := rdU_inv hb hz
  refine ⟨unzig_i h1, ?_⟩
  unfold encI
  rw [zig_unzig h1]
  exact h2
theorem rdN_I_inv : ∀ (n : Nat) (acc l bs r : List Int), (∀ x ∈ bs, B8 x) → rdN rdI n acc (.ok bs) = (l, .ok r) → ∃ m, l = acc ++ m ∧ m.length = n ∧ (∀ x ∈ m, I64 x) ∧ bs = m.flatMap encI ++ r
  | 0, acc, l, bs, r, hb, h => by
    simp only [rdN, Prod.mk.injEq, St.ok.injEq] at h
    obtain ⟨rfl, rfl⟩ := h
    exact ⟨[], by simp, rfl, by simp, by simp⟩
  | n + 1, acc, l, bs, r, hb, h => by
    rw [rdN] at h
    obtain ⟨v, s, hv⟩ : ∃ v s, rdI (.ok bs) = (v, s) := ⟨_, _, rfl⟩
    rw [hv] at h
    simp only at h
    cases s with
    | bad e => rw [rdN_bad] at h; simp at h
    | ok r1 =>
      obtain ⟨h1, h2⟩ := rdI_inv hb hv
      obtain ⟨m, e1, e2, e3, e4⟩ := rdN_I_inv n _ l r1 r (fun x hx => hb x (by rw [h2]; simp [hx])) h
      refine ⟨v :: m, by rw [e1]; simp, by simp [e2], fun x hx => ?_, by rw [h2, e4, List.flatMap_cons, List.append_assoc]⟩
      rcases List.mem_cons.1 hx with rfl | hx
      · exact h1
      · exact e3 x hx
theorem rdU_split {bs : List Int} (hb : ∀ x ∈ bs, B8 x) : (∃ v r, rdU (.ok bs) = (v, .ok r) ∧ W64 v ∧ bs = encU v ++ r) ∨ (∃ v e, rdU (.ok bs) = (v, .bad e)) := by
  obtain ⟨v, s, h⟩ : ∃ v s, rdU (.ok bs) = (v, s) := ⟨_, _, rfl⟩
  cases s with
  | ok r => obtain ⟨h1, h2⟩ := rdU_inv hb h; exact .inl ⟨v, r, h, h1, h2⟩
  | bad e => exact .inr ⟨v, e, h⟩
theorem rdB_inv {bs r b : List Int} (hb : ∀ x ∈ bs, B8 x) (h : rdB 60 (.ok bs) = (b, .ok r)) : b.length ≤ 60 ∧ (∀ x ∈ b, B8 x) ∧ bs = encB b ++ r := by
  rcases rdU_split hb with ⟨N, r1, hu, hw, he⟩ | ⟨v, e, hu⟩
  · by_cases hl : (60 : Int) < 0 ∨ 60 < N
    · unfold rdB rdList at h
      rw [hu] at h
      simp only [lim, if_pos hl, rdN_bad] at h
      simp at h
    · rw [rdB_eq 60 _ N r1 hu hl] at h
      split at h
      · rename_i hN
        simp only [Prod.mk.injEq, St.ok.injEq] at h
        obtain ⟨rfl, rfl⟩ := h
        obtain ⟨h0, _⟩ := hw
        have hlen : (r1.take N.toNat).length = N.toNat := by rw [List.length_take]; omega
        have hNe : ((r1.take N.toNat).length : Int) = N := by rw [hlen]; omega
        refine ⟨by omega, fun x hx => hb x (by rw [he]; simp [List.mem_of_mem_take hx]), ?_⟩
        unfold encB
        rw [hNe, List.append_assoc, List.take_append_drop]
        exact he
      · simp at h
  · unfold rdB rdList at h
    rw [hu] at h
    simp only [lim, rdN_bad] at h
    simp at h
theorem rdL_inv {bs r l : List Int} (hb : ∀ x ∈ bs, B8 x) (h : rdL 60 (.ok bs) = (l, .ok r)) : l.length ≤ 60 ∧ (∀ x ∈ l, I64 x) ∧ bs = encL l ++ r := by
  rcases rdU_split hb with ⟨N, r1, hu, hw, he⟩ | ⟨v, e, hu⟩
  · by_cases hl : (60 : Int) < 0 ∨ 60 < N
    · unfold rdL rdList at h
      rw [hu] at h
      simp only [lim, if_pos hl, rdN_bad] at h
      simp at h
    · rw [rdL_eq 60 _ N r1 hu hl] at h
      obtain ⟨m, e1, e2, e3, e4⟩ := rdN_I_inv _ _ _ _ _ (fun x hx => hb x (by rw [he]; simp [hx])) h
      rw [List.nil_append] at e1
      subst e1
      obtain ⟨h0, _⟩ := hw
      have hNe : (l.length : Int) = N := by omega
      refine ⟨by omega, e3, ?_⟩
      unfold encL
      rw [hNe, List.append_assoc, ← e4]
      exact he
  · unfold rdL rdList at h
    rw [hu] at h
    simp only [lim, rdN_bad] at h
    simp at h
theorem rdV_inv {bs r : List Int} {k : Int} {x : V} (hk : k = 0 ∨ k = 1 ∨ k = 2 ∨ k = 3) (hb : ∀ x ∈ bs, B8 x) (h : rdV k 60 (.ok bs) = (x, .ok r)) : x.wf ∧ bs = encV x ++ r := by
  have z64 : W64 0 := ⟨by decide, by decide⟩
  have zi : I64 0 := ⟨by decide, by decide⟩
  unfold rdV at h
  rcases hk with rfl | rfl | rfl | rfl
  · rw [if_pos rfl] at h
    simp only [Prod.mk.injEq] at h
    obtain ⟨rfl, h⟩ := h
    obtain ⟨h1, h2⟩ := rdU_inv hb (Prod.ext rfl h)
    exact ⟨⟨h1, zi, by simp, by simp, by simp, by simp, .inl rfl⟩, by unfold encV; rw [if_pos rfl]; exact h2⟩
  · rw [if_neg (by decide), if_pos rfl] at h
    simp only [Prod.mk.injEq] at h
    obtain ⟨rfl, h⟩ := h
    obtain ⟨h1, h2⟩ := rdI_inv hb (Prod.ext rfl h)
    exact ⟨⟨z64, h1, by simp, by simp, by simp, by simp, .inr (.inl rfl)⟩, by unfold encV; rw [if_neg (by simp), if_pos rfl]; exact h2⟩
  · rw [if_neg (by decide), if_neg (by decide), if_pos rfl] at h
    simp only [Prod.mk.injEq] at h
    obtain ⟨rfl, h⟩ := h
    obtain ⟨h1, h2, h3⟩ := rdB_inv hb (Prod.ext rfl h)
    exact ⟨⟨z64, zi, h2, by simp, Nat.le_trans h1 (by decide), by simp, .inr (.inr (.inl rfl))⟩, by unfold encV; rw [if_neg (by simp), if_neg (by simp), if_pos rfl]; exact h3⟩
  · rw [if_neg (by decide), if_neg (by decide), if_neg (by decide)] at h
    simp only [Prod.mk.injEq] at h
    obtain ⟨rfl, h⟩ := h
    obtain ⟨h1, h2, h3⟩ := rdL_inv hb (Prod.ext rfl h)
    exact ⟨⟨z64, zi, by simp, h2, by simp, Nat.le_trans h1 (by decide), .inr (.inr (.inr rfl))⟩, by unfold encV; rw [if_neg (by simp), if_neg (by simp), if_neg (by simp)]; exact h3⟩

/-- The values ys have been read from bs, and s is left. -/
def Canon (bs : List Int) (ys : List V) : St → Prop
  | .ok r => bs = encVs ys ++ r ∧ ∀ y ∈ ys, y.wf
  | .bad _ => True
theorem Canon.start (bs : List Int) : Canon bs [] (.ok bs) := ⟨by simp [encVs], by simp⟩
theorem Canon.step {bs : List Int} {ys : List V} {s : St} {k : Int} (h : Canon bs ys s) (hb : ∀ x ∈ bs, B8 x) (hk : k = 0 ∨ k = 1 ∨ k = 2 ∨ k = 3) : Canon bs (ys ++ [(rdV k 60 s).1]) (rdV k 60 s).2 := by
  cases s with
  | bad e => rw [rdV_stuck]; trivial
  | ok r =>
    obtain ⟨h1, h2⟩ := h
    obtain ⟨x, s', hx⟩ : ∃ x s', rdV k 60 (.ok r) = (x, s') := ⟨_, _, rfl⟩
    rw [hx]
    cases s' with
    | bad e => trivial
    | ok r' =>
      obtain ⟨h3, h4⟩ := rdV_inv hk (fun y hy => hb y (by rw [h1]; simp [hy])) hx
      refine ⟨?_, fun y hy => ?_⟩
      · unfold encVs at h1 ⊢
        rw [List.flatMap_append, h1, h4]
        simp
      · rcases List.mem_append.1 hy with hy | hy
        · exact h2 y hy
        · have e : y = x := by simpa using hy
          rw [e]; exact h3
theorem Canon.done {bs : List Int} {ys : List V} {s : St} (h : Canon bs ys s) (he : s.endE = 0) (hs : ∀ e, s = .bad e → e ≠ 0) : encVs ys = bs ∧ ∀ y ∈ ys, y.wf := by
  cases s with
  | bad e => exact absurd he (hs e rfl)
  | ok r =>
    cases r with
    | nil => obtain ⟨h1, h2⟩ := h; rw [List.append_nil] at h1; exact ⟨h1.symm, h2⟩
    | cons c cs => cases he
end Go.Proofs.Ytcojbloflaeefaa
