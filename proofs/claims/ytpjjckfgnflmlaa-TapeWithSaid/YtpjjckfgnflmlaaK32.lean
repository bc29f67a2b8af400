/-
  How many parts With leaves. Plain mathematics; no function of the program.
-/
import Derived.Test.YtpjjckfgnflmlaaK6

namespace Go.Proofs.Ytpjjckfgnflmlaa
open Go

namespace TP
theorem key_len {f : NM.Qu → Int} {L : List An} (hs : Srt L) (hm : ∀ x : An, x ∈ L ↔ x.2 = f x.1 ∧ 0 < x.2) (q : NM.Qu) : (L.filter fun x => decide (x.1 = q)).length = if 0 < f q then 1 else 0 := by
  by_cases h : 0 < f q
  · rw [if_pos h]
    have : L.filter (fun x => decide (x.1 = q)) = [(q, f q)] := by
      refine srt_ext (List.Pairwise.filter _ hs) (List.pairwise_singleton _ _) fun x => ?_
      rw [List.mem_filter, List.mem_singleton, decide_eq_true_eq, hm]
      constructor
      · rintro ⟨⟨h1, _⟩, h3⟩
        exact Prod.ext h3 (by rw [h1, h3])
      · rintro rfl
        exact ⟨⟨rfl, h⟩, rfl⟩
    rw [this]
    rfl
  · rw [if_neg h]
    have : L.filter (fun x => decide (x.1 = q)) = [] := by
      rw [List.filter_eq_nil_iff]
      intro x hx
      rw [decide_eq_true_eq]
      intro e
      obtain ⟨h1, h2⟩ := (hm x).1 hx
      rw [e] at h1
      omega
    rw [this]
    rfl
theorem split_len (L : List An) (q : NM.Qu) : L.length = (L.filter fun x => decide (x.1 = q)).length + (L.filter fun x => !decide (x.1 = q)).length := by
  induction L with
  | nil => rfl
  | cons x L ih =>
    simp only [List.filter_cons, List.length_cons]
    by_cases h : x.1 = q
    · simp only [h, decide_true, Bool.not_true, if_true, List.length_cons]
      simp
      omega
    · simp only [h, decide_false, Bool.not_false, if_true, List.length_cons]
      simp
      omega
theorem mem_norm' {t : List An} (x : An) : x ∈ normA t ↔ x.2 = getA t x.1 ∧ 0 < x.2 := mem_norm
/-- The parts' number behind With. -/
theorem with_len (t : List An) (q : NM.Qu) (n : Int) : (withA t q n).length + (if 0 < getA t q then 1 else 0) = (normA t).length + (if 0 < n then 1 else 0) := by
  have hw : ∀ x : An, x ∈ withA t q n ↔ x.2 = getA (withA t q n) x.1 ∧ 0 < x.2 := fun x => by
    have := mem_norm' (t := withA t q n) x
    rwa [show normA (withA t q n) = withA t q n from norm_norm _] at this
  have sw : Srt (withA t q n) := norm_srt _
  have h1 := key_len sw hw q
  have h2 := key_len (norm_srt t) mem_norm' q
  rw [get_with, if_pos rfl] at h1
  have h3 := split_len (withA t q n) q
  have h4 := split_len (normA t) q
  have h5 : (withA t q n).filter (fun x => !decide (x.1 = q)) = (normA t).filter (fun x => !decide (x.1 = q)) := by
    refine srt_ext (List.Pairwise.filter _ sw) (List.Pairwise.filter _ (norm_srt t)) fun x => ?_
    rw [List.mem_filter, List.mem_filter, hw, mem_norm']
    simp only [Bool.not_eq_true', decide_eq_false_iff_not]
    constructor
    · rintro ⟨⟨h1, h2⟩, h3⟩
      rw [get_with, if_neg (Ne.symm h3)] at h1
      exact ⟨⟨h1, h2⟩, h3⟩
    · rintro ⟨⟨h1, h2⟩, h3⟩
      exact ⟨⟨by rw [get_with, if_neg (Ne.symm h3)]; exact h1, h2⟩, h3⟩
  rw [h5] at h3
  have h6 : (if 0 < max 0 n then 1 else 0 : Nat) = if 0 < n then 1 else 0 := by
    by_cases h : 0 < n
    · rw [if_pos h, if_pos (by omega)]
    · rw [if_neg h, if_neg (by omega)]
  rw [h6] at h1
  omega
theorem with_le (t : List An) (q : NM.Qu) (n : Int) : (withA t q n).length ≤ t.length + 1 := by
  have h1 := with_len t q n
  have h2 := norm_len t
  have h3 : (if 0 < n then 1 else 0 : Nat) ≤ 1 := by split <;> omega
  omega
end TP
end Go.Proofs.Ytpjjckfgnflmlaa
