/-
  A set built up from the envelopes of another, in whatever order. Plain mathematics; no function of the program.
-/
import Derived.Test.YtepbppckhfiplaaNwM
namespace Go.Proofs.Ytepbppckhfiplaa.NW

/-- What is built (gt) and what is left (lf) of the set s. -/
structure Inv (s lf gt : List En) : Prop where
  srt : Srt gt
  mem : ∀ x, x ∈ s ↔ x ∈ gt ∨ x ∈ lf
  dif : lf.Pairwise fun x y => x.m ≠ y.m
  new : ∀ x ∈ lf, has gt x.m = false
  len : gt.length + lf.length = s.length
theorem Inv.start {s : List En} (h : Srt s) : Inv s s [] := ⟨List.Pairwise.nil, fun x => by simp, by
  refine List.Pairwise.imp ?_ h
  intro a b hab e
  have h2 : ltM a.m b.m := hab
  rw [e] at h2
  exact ltM_irr b.m h2, fun _ _ => rfl, by simp⟩
theorem Inv.done {s gt : List En} (hs : Srt s) (h : Inv s [] gt) : gt = s := Srt.ext h.srt hs fun x => by rw [h.mem x]; simp
theorem Inv.step {s lf gt : List En} {k : Nat} {e : En} (h : Inv s lf gt) (hk : lf[k]? = some e) : has gt e.m = false ∧ Inv s (lf.take k ++ lf.drop (k + 1)) (put gt e) := by
  have hn := h.new e (List.mem_of_getElem? hk)
  obtain ⟨h1, h2⟩ := List.getElem?_eq_some_iff.1 hk
  have hsplit : lf = lf.take k ++ e :: lf.drop (k + 1) := by
    conv => lhs; rw [← List.take_append_drop k lf, List.drop_eq_getElem_cons h1, h2]
  have hd := h.dif
  rw [hsplit, List.pairwise_append, List.pairwise_cons] at hd
  obtain ⟨d1, ⟨d2, d3⟩, d4⟩ := hd
  refine ⟨hn, srt_put h.srt hn, fun x => ?_, ?_, fun x hx => ?_, ?_⟩
  · rw [h.mem x, mem_put]
    conv => lhs; rhs; rw [hsplit]
    simp only [List.mem_append, List.mem_cons]
    constructor
    · rintro (h | h | h | h)
      · exact .inl (.inr h)
      · exact .inr (.inl h)
      · exact .inl (.inl h)
      · exact .inr (.inr h)
    · rintro ((h | h) | h | h)
      · exact .inr (.inr (.inl h))
      · exact .inl h
      · exact .inr (.inl h)
      · exact .inr (.inr (.inr h))
  · rw [List.pairwise_append]
    exact ⟨d1, d3, fun a ha b hb => d4 a ha b (by simp [hb])⟩
  · rw [has_put]
    have hxl : x ∈ lf := by
      rw [hsplit]
      simp only [List.mem_append, List.mem_cons] at hx ⊢
      rcases hx with h | h
      · exact .inl h
      · exact .inr (.inr h)
    have hne : ¬ e.m = x.m := by
      rcases List.mem_append.1 hx with h | h
      · exact fun e2 => d4 x h e (by simp) e2.symm
      · exact d2 x h
    rw [h.new x hxl, decide_eq_false hne]
    rfl
  · have := h.len
    rw [put_len, List.length_append, List.length_take, List.length_drop]
    omega
theorem Inv.part {lf : List En} {k : Nat} (h : k < lf.length) : (lf.take k ++ lf.drop (k + 1)).length = k + (lf.length - (k + 1)) := by
  rw [List.length_append, List.length_take, List.length_drop]
  omega
end Go.Proofs.Ytepbppckhfiplaa.NW
