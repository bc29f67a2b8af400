/-
  What the law TapeRound says of lists: the tapes that it makes, and what their normal forms are. No function of the program.
-/
import Derived.Test.YtiokiecnglmbnaaK27
import Derived.Test.YtiokiecnglmbnaaK21
import Derived.Test.YtiokiecnglmbnaaK24
import Derived.Test.YtiokiecnglmbnaaK29

namespace Go.Proofs.Ytiokiecnglmbnaa
open Go Go.RowKit Go.Proofs
theorem sm64 (n : Int) : I64 (NM.smallN n) := by
  unfold NM.smallN NM.smallK
  split <;> exact ⟨by omega, by omega⟩
theorem ev64 (x : Int) : ∀ y ∈ NM.evL (TP.evOfN x), I64 y := by
  intro y hy
  unfold TP.evOfN NM.evOf at hy
  generalize NM.arI x 1000000000 = k at hy
  generalize x.tdiv 1000 = m at hy
  unfold NM.evK at hy
  cases h1 : NM.msgK (1 + k % 7) <;> cases h2 : NM.argK (1 + k % 7) <;> simp only [h1, h2, NM.evL, NM.msL, NM.m0, List.cons_append, List.nil_append, List.mem_cons, List.not_mem_nil, or_false, if_true, if_false, Bool.false_eq_true] at hy <;> rcases hy with h | h | h | h | h | h | h | h <;> subst h <;> first | exact sm64 _ | exact ⟨by omega, by omega⟩ | exact ⟨by decide, by decide⟩ | (unfold NM.smallN NM.smallK; split <;> exact ⟨by omega, by omega⟩)
theorem an64 (x : Int) : ∀ y ∈ anL (TP.anOfN x), I64 y := by
  intro y hy
  unfold TP.anOfN TP.qOf at hy
  generalize around x 100000 = k at hy
  generalize around k 100000 = k' at hy
  simp only [anL, NM.quL, List.cons_append, List.nil_append, List.mem_cons, List.not_mem_nil, or_false] at hy
  rcases hy with h | h | h | h | h | h <;> subst h <;> first | exact ⟨by omega, by omega⟩ | (split <;> exact ⟨by omega, by omega⟩)
theorem evs64 (l : List Int) : ∀ e ∈ TP.evsG l, ∀ y ∈ NM.evL e, I64 y := by
  intro e he
  obtain ⟨x, _, rfl⟩ := List.mem_map.1 he
  exact ev64 x
theorem ans64 (l : List Int) : ∀ a ∈ TP.ansG l, ∀ y ∈ anL a, I64 y := by
  intro e he
  obtain ⟨x, _, rfl⟩ := List.mem_map.1 he
  exact an64 x
theorem evw64 {e : NM.Ev} (h : EvW e) : ∀ y ∈ NM.evL e, I64 y := by
  obtain ⟨h1, h2, h3, h4, h5, h6, h7, h8⟩ := h
  intro y hy
  simp only [NM.evL, NM.msL, List.cons_append, List.nil_append, List.mem_cons, List.not_mem_nil, or_false] at hy
  rcases hy with h | h | h | h | h | h | h | h <;> subst h <;> assumption
theorem anw64 {a : TP.An} (h : AnW a) : ∀ y ∈ anL a, I64 y := by
  obtain ⟨⟨h1, h2, h3, h4, h5⟩, h6⟩ := h
  intro y hy
  simp only [anL, NM.quL, List.cons_append, List.nil_append, List.mem_cons, List.not_mem_nil, or_false] at hy
  rcases hy with h | h | h | h | h | h <;> subst h <;> assumption
theorem norm_dec {es : List NM.Ev} {l : List TP.An} (h1 : es.length ≤ 10) (h2 : l.length ≤ 10) (he : ∀ e ∈ es, ∀ y ∈ NM.evL e, I64 y) (ha : ∀ e ∈ l, ∀ y ∈ anL e, I64 y) : decP (encT es (TP.normA l)) = ((es, TP.normA l), 0) :=
  decP_enc es (TP.normA l) (by omega) (by have := TP.norm_len l; omega) he (normA_i64 ha) (TP.norm_srt l) (fun x hx => (TP.mem_norm.1 hx).2)
theorem norm_lt {l : List TP.An} {i j : Nat} {x y : TP.An} (hij : i < j) (h1 : (TP.normA l)[i]? = some x) (h2 : (TP.normA l)[j]? = some y) : NM.lexL (NM.quL x.1) (NM.quL y.1) < 0 := by
  obtain ⟨a1, rfl⟩ := List.getElem?_eq_some_iff.1 h1
  obtain ⟨a2, rfl⟩ := List.getElem?_eq_some_iff.1 h2
  exact List.pairwise_iff_getElem.1 (TP.norm_srt l) i j a1 a2 hij
theorem norm_pos {l : List TP.An} {i : Nat} {x : TP.An} (h1 : (TP.normA l)[i]? = some x) : 0 < x.2 := (TP.mem_norm.1 (List.mem_of_getElem? h1)).2
theorem encN_b8 {l : List Int} (h : ∀ x ∈ l, I64 x) : ∀ y ∈ encN l, B8 y := by
  intro y hy
  obtain ⟨x, hx, hy⟩ := List.mem_flatMap.1 hy
  exact encU_b8 (zig_w (h x hx)).1 y hy
theorem encT_b8 {es : List NM.Ev} {l : List TP.An} (he : ∀ e ∈ es, ∀ y ∈ NM.evL e, I64 y) (ha : ∀ e ∈ l, ∀ y ∈ anL e, I64 y) : ∀ y ∈ encT es l, B8 y := by
  intro y hy
  simp only [encT, List.mem_append] at hy
  rcases hy with ((hy | hy) | hy) | hy
  · exact encU_b8 (by omega) y hy
  · obtain ⟨e, h1, h2⟩ := List.mem_flatMap.1 hy
    exact encN_b8 (he e h1) y h2
  · exact encU_b8 (by omega) y hy
  · obtain ⟨e, h1, h2⟩ := List.mem_flatMap.1 hy
    exact encN_b8 (ha e h1) y h2
theorem flat_le {α : Type} (f : α → List Int) (b : Nat) (hf : ∀ x, (f x).length ≤ b) : ∀ l : List α, (l.flatMap f).length ≤ b * l.length
  | [] => by simp
  | x :: l => by
    have h1 := hf x
    have h2 := flat_le f b hf l
    rw [List.flatMap_cons, List.length_append, List.length_cons, Nat.mul_succ]
    omega
theorem encT_le {es : List NM.Ev} {l : List TP.An} (h1 : es.length ≤ 10) (h2 : l.length ≤ 10) : (encT es l).length ≤ 2000 := by
  have a1 := encU_len es.length
  have a2 := encU_len l.length
  have a3 := flat_le (fun e => encN (NM.evL e)) 80 (fun e => Nat.le_trans (encI_le _) (by simp [NM.evL, NM.msL])) es
  have a4 := flat_le (fun e => encN (anL e)) 60 (fun e => Nat.le_trans (encI_le _) (by simp [anL, NM.quL])) l
  simp only [encT, List.length_append]
  omega
end Go.Proofs.Ytiokiecnglmbnaa
