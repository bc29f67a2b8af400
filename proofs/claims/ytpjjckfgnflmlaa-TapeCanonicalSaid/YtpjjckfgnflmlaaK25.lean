/-
  What can be decoded is what encoding gives. Plain mathematics; no function of the program.
-/
import Derived.Test.YtpjjckfgnflmlaaK24

namespace Go.Proofs.Ytpjjckfgnflmlaa
open Go

def Ne0 (s : St) : Prop := ∀ e, s = .bad e → e ≠ 0
theorem ne0_ok (r : List Int) : Ne0 (.ok r) := fun _ h => by cases h
theorem decF_ne0 : ∀ (bs : List Int) (i : Nat) (acc : Int), Ne0 (decF i acc bs).2 := by
  intro bs
  induction bs with
  | nil => intro i acc e h; cases h; decide
  | cons c cs ih =>
    intro i acc
    rw [decF]
    split
    · intro e h; cases h; decide
    · split
      · exact ne0_ok _
      · exact ih _ _
theorem rdU_ne0 {s : St} (h : Ne0 s) : Ne0 (rdU s).2 := by
  cases s with
  | ok r => exact decF_ne0 r 0 0
  | bad e => exact h
theorem rdZ_ne0 : ∀ (n : Nat) {s : St}, Ne0 s → Ne0 (rdZ n s).2
  | 0, _, h => h
  | n + 1, s, h => rdZ_ne0 n (s := (rdI s).2) (rdU_ne0 h)
theorem fail_ne0 {c : Int} {s : St} (hc : c ≠ 0) (h : Ne0 s) : Ne0 (s.fail c) := by
  cases s with
  | ok r => intro e he; cases he; exact hc
  | bad e => exact h
theorem rdC_ne0 {m : Int} {s : St} (h : Ne0 s) : Ne0 (rdC m s).2 := by
  unfold rdC
  simp only
  split
  · exact fail_ne0 (by decide) (rdU_ne0 h)
  · exact rdU_ne0 h
theorem rdE_ne0 {s : St} (h : Ne0 s) : Ne0 (rdE s).2 := by
  have := rdZ_ne0 8 h
  unfold rdE
  simp only
  exact this
theorem rdA_ne0 {s : St} (h : Ne0 s) : Ne0 (rdA s).2 := by
  have := rdZ_ne0 6 h
  unfold rdA
  simp only
  exact this
theorem rdEs_ne0 : ∀ (n : Nat) (acc : List NM.Ev) {s : St}, Ne0 s → Ne0 (rdEs n acc s).2
  | 0, _, _, h => h
  | _ + 1, _, .bad _, h => h
  | n + 1, acc, .ok r, h => by
    rw [rdEs]
    exact rdEs_ne0 n _ (rdE_ne0 h)
theorem chkA_ne0 {acc : List TP.An} {a : TP.An} {s : St} (h : Ne0 s) : Ne0 (chkA acc a s) := by
  have h1 : Ne0 (chkO acc a s) := by
    unfold chkO
    split
    · split
      · exact h
      · exact fail_ne0 (by decide) h
    · exact h
  unfold chkA
  split
  · exact fail_ne0 (by decide) h1
  · exact h1
theorem rdAs_ne0 : ∀ (n : Nat) (acc : List TP.An) {s : St}, Ne0 s → Ne0 (rdAs n acc s).2
  | 0, _, _, h => h
  | _ + 1, _, .bad _, h => h
  | n + 1, acc, .ok r, h => by
    rw [rdAs]
    exact rdAs_ne0 n _ (chkA_ne0 (rdA_ne0 h))
theorem decT_ne0 (bs : List Int) : Ne0 (decT bs).2 := rdAs_ne0 _ _ (rdC_ne0 (rdEs_ne0 _ _ (rdC_ne0 (ne0_ok bs))))
theorem decT_done {bs : List Int} (h : (decT bs).2.endE = 0) : (decT bs).2 = .ok [] := by
  have h0 := decT_ne0 bs
  cases hs : (decT bs).2 with
  | ok r =>
    cases r with
    | nil => rfl
    | cons x r => rw [hs] at h; cases h
  | bad e => rw [hs] at h; exact absurd h (h0 e hs)

theorem rdI_invT {bs r : List Int} {v : Int} (hb : ∀ x ∈ bs, B8 x) (h : rdI (.ok bs) = (v, .ok r)) : I64 v ∧ bs = encI v ++ r := by
  unfold rdI at h
  obtain ⟨z, s, hz⟩ : ∃ z s, rdU (.ok bs) = (z, s) := ⟨_, _, rfl⟩
  rw [hz] at h
  simp only [Prod.mk.injEq] at h
  obtain ⟨rfl, rfl⟩ := h
  obtain ⟨h1, h2⟩ := rdU_inv hb hz
  refine ⟨unzig_i h1, ?_⟩
  unfold encI
  rw [zig_unzig h1]
  exact h2
theorem rdZ_bad : ∀ (n : Nat) (e : Int), (rdZ n (.bad e)).2 = .bad e
  | 0, _ => rfl
  | n + 1, e => rdZ_bad n e
theorem rdZ_inv : ∀ (n : Nat) (bs z r : List Int), (∀ x ∈ bs, B8 x) → rdZ n (.ok bs) = (z, .ok r) → z.length = n ∧ (∀ x ∈ z, I64 x) ∧ bs = encN z ++ r
  | 0, bs, z, r, hb, h => by
    simp only [rdZ, Prod.mk.injEq, St.ok.injEq] at h
    obtain ⟨rfl, rfl⟩ := h
    exact ⟨rfl, by simp, by simp [encN]⟩
  | n + 1, bs, z, r, hb, h => by
    rw [rdZ] at h
    obtain ⟨v, s, hv⟩ : ∃ v s, rdI (.ok bs) = (v, s) := ⟨_, _, rfl⟩
    rw [hv] at h
    simp only [Prod.mk.injEq] at h
    obtain ⟨rfl, h⟩ := h
    cases s with
    | bad e => rw [rdZ_bad] at h; cases h
    | ok r1 =>
      obtain ⟨h1, h2⟩ := rdI_invT hb hv
      obtain ⟨e1, e2, e3⟩ := rdZ_inv n r1 _ r (fun x hx => hb x (by rw [h2]; simp [hx])) (Prod.ext rfl h)
      refine ⟨by simp [e1], fun x hx => ?_, ?_⟩
      · rcases List.mem_cons.1 hx with rfl | hx
        · exact h1
        · exact e2 x hx
      · rw [h2]
        conv => lhs; rw [e3]
        simp [encN]
theorem rdE_inv {bs r : List Int} {x : NM.Ev} (hb : ∀ x ∈ bs, B8 x) (h : rdE (.ok bs) = (x, .ok r)) : (∀ y ∈ NM.evL x, I64 y) ∧ bs = encN (NM.evL x) ++ r := by
  obtain ⟨z, s, hz⟩ : ∃ z s, rdZ 8 (.ok bs) = (z, s) := ⟨_, _, rfl⟩
  unfold rdE at h
  rw [hz] at h
  simp only [Prod.mk.injEq] at h
  obtain ⟨rfl, rfl⟩ := h
  obtain ⟨h1, h2, h3⟩ := rdZ_inv 8 bs z r hb hz
  match z, h1 with
  | [a0, a1, a2, a3, a4, a5, a6, a7], _ => exact ⟨h2, h3⟩
theorem rdA_inv {bs r : List Int} {x : TP.An} (hb : ∀ x ∈ bs, B8 x) (h : rdA (.ok bs) = (x, .ok r)) : (∀ y ∈ anL x, I64 y) ∧ bs = encN (anL x) ++ r := by
  obtain ⟨z, s, hz⟩ : ∃ z s, rdZ 6 (.ok bs) = (z, s) := ⟨_, _, rfl⟩
  unfold rdA at h
  rw [hz] at h
  simp only [Prod.mk.injEq] at h
  obtain ⟨rfl, rfl⟩ := h
  obtain ⟨h1, h2, h3⟩ := rdZ_inv 6 bs z r hb hz
  match z, h1 with
  | [a0, a1, a2, a3, a4, a5], _ => exact ⟨h2, h3⟩
theorem rdEs_inv : ∀ (n : Nat) (acc es : List NM.Ev) (bs r : List Int), (∀ x ∈ bs, B8 x) → rdEs n acc (.ok bs) = (es, .ok r) → ∃ m, es = acc ++ m ∧ m.length = n ∧ (∀ e ∈ m, ∀ y ∈ NM.evL e, I64 y) ∧ bs = m.flatMap (fun e => encN (NM.evL e)) ++ r
  | 0, acc, es, bs, r, hb, h => by
    simp only [rdEs, Prod.mk.injEq, St.ok.injEq] at h
    obtain ⟨rfl, rfl⟩ := h
    exact ⟨[], by simp, rfl, by simp, by simp⟩
  | n + 1, acc, es, bs, r, hb, h => by
    rw [rdEs] at h
    obtain ⟨x, s, hv⟩ : ∃ x s, rdE (.ok bs) = (x, s) := ⟨_, _, rfl⟩
    rw [hv] at h
    simp only at h
    cases s with
    | bad e => rw [rdEs_bad] at h; cases h
    | ok r1 =>
      obtain ⟨h1, h2⟩ := rdE_inv hb hv
      obtain ⟨m, e1, e2, e3, e4⟩ := rdEs_inv n _ es r1 r (fun x hx => hb x (by rw [h2]; simp [hx])) h
      refine ⟨x :: m, by rw [e1]; simp, by simp [e2], fun y hy => ?_, by rw [h2]; rw [e4, ← List.append_assoc, List.flatMap_cons]⟩
      rcases List.mem_cons.1 hy with rfl | hy
      · exact h1
      · exact e3 y hy
theorem chkA_ok {acc : List TP.An} {a : TP.An} {s : St} {r : List Int} (h : chkA acc a s = .ok r) : s = .ok r ∧ 0 < a.2 ∧ ∀ b, acc.getLast? = some b → TP.ltQ b.1 a.1 := by
  have hf : ∀ (c : Int) (t : St), t.fail c ≠ .ok r := fun c t e => by cases t <;> cases e
  unfold chkA at h
  split at h
  · exact absurd h (hf _ _)
  · unfold chkO at h
    split at h
    · rename_i b hb
      split at h
      · rename_i hlt
        exact ⟨h, by omega, fun b' hb' => by rw [hb] at hb'; injection hb' with hb'; subst hb'; exact hlt⟩
      · exact absurd h (hf _ _)
    · rename_i hb
      exact ⟨h, by omega, fun b' hb' => by rw [hb] at hb'; cases hb'⟩
theorem srt_snoc {acc : List TP.An} {a : TP.An} (hs : TP.Srt acc) (h : ∀ b, acc.getLast? = some b → TP.ltQ b.1 a.1) : TP.Srt (acc ++ [a]) := by
  refine List.pairwise_append.2 ⟨hs, List.pairwise_singleton _ _, fun x hx y hy => ?_⟩
  rw [List.mem_singleton.1 hy]
  rcases List.eq_nil_or_concat acc with rfl | ⟨l, b, e⟩
  · cases hx
  · subst e
    have hb := h b (by simp)
    rcases List.mem_append.1 (by simpa using hx : x ∈ l ++ [b]) with hx | hx
    · exact TP.ltQ_trans ((List.pairwise_append.1 (by simpa using hs : TP.Srt (l ++ [b]))).2.2 x hx b (by simp)) hb
    · rw [List.mem_singleton.1 hx]; exact hb
theorem rdAs_inv : ∀ (n : Nat) (acc l : List TP.An) (bs r : List Int), (∀ x ∈ bs, B8 x) → TP.Srt acc → rdAs n acc (.ok bs) = (l, .ok r) → ∃ m, l = acc ++ m ∧ m.length = n ∧ (∀ e ∈ m, ∀ y ∈ anL e, I64 y) ∧ bs = m.flatMap (fun e => encN (anL e)) ++ r ∧ TP.Srt l ∧ ∀ x ∈ m, 0 < x.2
  | 0, acc, l, bs, r, hb, hs, h => by
    simp only [rdAs, Prod.mk.injEq, St.ok.injEq] at h
    obtain ⟨rfl, rfl⟩ := h
    exact ⟨[], by simp, rfl, by simp, by simp, hs, by simp⟩
  | n + 1, acc, l, bs, r, hb, hs, h => by
    rw [rdAs] at h
    obtain ⟨x, s, hv⟩ : ∃ x s, rdA (.ok bs) = (x, s) := ⟨_, _, rfl⟩
    rw [hv] at h
    simp only at h
    cases hc : chkA acc x s with
    | bad e => rw [hc, rdAs_bad] at h; cases h
    | ok r1 =>
      rw [hc] at h
      obtain ⟨rfl, hp, hl⟩ := chkA_ok hc
      obtain ⟨h1, h2⟩ := rdA_inv hb hv
      obtain ⟨m, e1, e2, e3, e4, e5, e6⟩ := rdAs_inv n _ l r1 r (fun x hx => hb x (by rw [h2]; simp [hx])) (srt_snoc hs hl) h
      refine ⟨x :: m, by rw [e1]; simp, by simp [e2], fun y hy => ?_, by rw [h2]; rw [e4, ← List.append_assoc, List.flatMap_cons], e5, fun y hy => ?_⟩
      · rcases List.mem_cons.1 hy with rfl | hy
        · exact h1
        · exact e3 y hy
      · rcases List.mem_cons.1 hy with rfl | hy
        · exact hp
        · exact e6 y hy
theorem rdC_inv {most : Int} {bs r : List Int} {n : Int} (hb : ∀ x ∈ bs, B8 x) (h : rdC most (.ok bs) = (n, .ok r)) : W64 n ∧ n ≤ most ∧ bs = encU n ++ r := by
  obtain ⟨z, s, hz⟩ : ∃ z s, rdU (.ok bs) = (z, s) := ⟨_, _, rfl⟩
  unfold rdC at h
  rw [hz] at h
  simp only [Prod.mk.injEq] at h
  obtain ⟨rfl, h⟩ := h
  split at h
  · cases s <;> cases h
  · rename_i hle
    subst h
    obtain ⟨h1, h2⟩ := rdU_inv hb hz
    exact ⟨h1, by omega, h2⟩
/-- What can be decoded to the end is the encoding of a normal tape. -/
theorem decT_inv {bs : List Int} (hb : ∀ x ∈ bs, B8 x) (h : (decT bs).2 = .ok []) : bs = encT (decT bs).1.1 (decT bs).1.2 ∧ TP.Srt (decT bs).1.2 ∧ (∀ x ∈ (decT bs).1.2, 0 < x.2) ∧ (∀ e ∈ (decT bs).1.1, ∀ y ∈ NM.evL e, I64 y) ∧ ∀ e ∈ (decT bs).1.2, ∀ y ∈ anL e, I64 y := by
  obtain ⟨n, s1, h1⟩ : ∃ n s1, rdC 5000 (.ok bs) = (n, s1) := ⟨_, _, rfl⟩
  obtain ⟨es, s2, h2⟩ : ∃ es s2, rdEs n.toNat [] s1 = (es, s2) := ⟨_, _, rfl⟩
  obtain ⟨k, s3, h3⟩ : ∃ n s1, rdC 10000 s2 = (n, s1) := ⟨_, _, rfl⟩
  obtain ⟨l, s4, h4⟩ : ∃ es s2, rdAs k.toNat [] s3 = (es, s2) := ⟨_, _, rfl⟩
  have hd : decT bs = ((es, l), s4) := by unfold decT; simp only [h1, h2, h3, h4]
  rw [hd] at h ⊢
  obtain rfl : s4 = .ok [] := h
  cases s3 with
  | bad e => rw [rdAs_bad] at h4; cases h4
  | ok r3 =>
    cases s2 with
    | bad e => rw [rdC_bad (by decide)] at h3; cases h3
    | ok r2 =>
      cases s1 with
      | bad e => rw [rdEs_bad] at h2; cases h2
      | ok r1 =>
        obtain ⟨⟨a1, _⟩, a2, a3⟩ := rdC_inv hb h1
        have hb1 : ∀ x ∈ r1, B8 x := fun x hx => hb x (by rw [a3]; simp [hx])
        obtain ⟨m, b1, b2, b3, b4⟩ := rdEs_inv _ _ _ _ _ hb1 h2
        have hb2 : ∀ x ∈ r2, B8 x := fun x hx => hb1 x (by rw [b4]; simp [hx])
        obtain ⟨⟨c1, _⟩, c2, c3⟩ := rdC_inv hb2 h3
        have hb3 : ∀ x ∈ r3, B8 x := fun x hx => hb2 x (by rw [c3]; simp [hx])
        obtain ⟨q, d1, d2, d3, d4, d5, d6⟩ := rdAs_inv _ _ _ _ _ hb3 List.Pairwise.nil h4
        rw [List.nil_append] at b1 d1
        subst b1
        subst d1
        refine ⟨?_, d5, d6, b3, d3⟩
        show bs = encT es l
        unfold encT
        rw [a3, b4, c3, d4, b2, d2, Int.toNat_of_nonneg a1, Int.toNat_of_nonneg c1]
        simp
end Go.Proofs.Ytpjjckfgnflmlaa
