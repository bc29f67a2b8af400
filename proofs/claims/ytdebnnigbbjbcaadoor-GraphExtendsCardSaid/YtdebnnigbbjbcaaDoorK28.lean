/-
  A topological order of all vertices exists just if no vertex reaches itself along an edge. Plain mathematics; no function of the program.
  No vertex reaches itself along an edge just if every component is one vertex and there is no loop. Plain mathematics.
  The least shortest cycle is empty just if no vertex reaches itself along an edge. Plain mathematics.
  What the least shortest cycle is like: consecutive vertices are joined, the first is the least, none stands twice. Plain mathematics.
  An order that keeps every edge forward: places; an edge along the order keeps it, an edge that closes a path makes a cycle. Plain mathematics.
  The law's respects: it says true of an order that has each vertex once and keeps each edge forward. Conditions: at most 10 vertices, the edges name vertices.
-/
import Derived.Test.YtdebnnigbbjbcaaDoorK3
import Derived.Test.YtdebnnigbbjbcaaDoorK15
import Derived.Test.YtdebnnigbbjbcaaDoorK16
import Derived.Test.YtdebnnigbbjbcaaDoorK27
import Derived.BigQuiet
import Derived.Test.YtdebnnigbbjbcaaDoorK2
import Derived.Test.YtdebnnigbbjbcaaDoorK17
import Derived.Test.YtdebnnigbbjbcaaDoorK14

namespace Go.Proofs.YtdebnnigbbjbcaaDoor

/-- u comes before w along at least one edge. -/
def Pre (nx : List (List Nat)) (u w : Nat) : Prop := ∃ b, b ∈ nb nx u ∧ Rch nx b w
/-- Some vertex reaches itself along an edge. -/
def HasCyc (nx : List (List Nat)) : Prop := ∃ a, Pre nx a a
theorem Pre.trans {nx : List (List Nat)} {u v w : Nat} (h : Pre nx u v) (k : Pre nx v w) : Pre nx u w := by
  obtain ⟨b, h1, h2⟩ := h
  obtain ⟨c, k1, k2⟩ := k
  exact ⟨b, h1, h2.trans (.head k1 k2)⟩
theorem nb_from {nx : List (List Nat)} {a b : Nat} (e : b ∈ nb nx a) : a < nx.length := by
  unfold nb at e
  rcases Nat.lt_or_ge a nx.length with h | h
  · exact h
  · rw [List.getElem?_eq_none h] at e
    cases e
/-- Each element stands behind its predecessors. -/
def Fore (nx : List (List Nat)) (d : List Nat) : Prop := ∀ A x B, d = A ++ x :: B → ∀ u, x ∈ nb nx u → u ∈ A
theorem fore_snoc {nx : List (List Nat)} {d : List Nat} {v : Nat} (h : Fore nx d) (hv : ∀ u, v ∈ nb nx u → u ∈ d) : Fore nx (d ++ [v]) := by
  intro A x B e u hu
  rcases split_append (B := B) e with ⟨B1, h1, _⟩ | ⟨A2, h1, h2⟩
  · exact h A x B1 h1 u hu
  · cases A2 with
    | nil =>
      injection h1 with e1 _
      subst e1
      rw [h2, List.append_nil]
      exact hv u hu
    | cons c t =>
      injection h1 with _ e2
      exact absurd e2 (by simp)
theorem kahn_fore (nx : List (List Nat)) : ∀ f d, Fore nx d → d.Nodup → (∀ x ∈ d, x < nx.length) → Fore nx (kahn nx f d) ∧ (kahn nx f d).Nodup ∧ (∀ x ∈ kahn nx f d, x < nx.length) ∧ (d.length + f ≤ (kahn nx f d).length ∨ ∀ w, w < nx.length → w ∉ kahn nx f d → ∃ u, u ∉ kahn nx f d ∧ w ∈ nb nx u)
  | 0, d, h1, h2, h3 => ⟨h1, h2, h3, .inl (Nat.le_refl _)⟩
  | f + 1, d, h1, h2, h3 => by
    rw [kahn]
    cases hs : kStep nx d with
    | none =>
      refine ⟨h1, h2, h3, .inr fun w hw hd => ?_⟩
      unfold kStep at hs
      rw [List.find?_eq_none] at hs
      have h4 := hs w (List.mem_range.2 hw)
      rcases Classical.em (∃ u, u ∉ d ∧ w ∈ nb nx u) with h | h
      · exact h
      · refine absurd ((canGo_iff _ _ _).2 ⟨hd, fun u hu hn => ?_⟩) h4
        rcases Classical.em (u ∈ d) with k | k
        · exact k
        · exact absurd ⟨u, k, hn⟩ h
    | some v =>
      dsimp only
      unfold kStep at hs
      have hv := List.mem_range.1 (List.mem_of_find?_eq_some hs)
      obtain ⟨h4, h5⟩ := (canGo_iff _ _ _).1 (List.find?_some hs)
      have h6 := kahn_fore nx f (d ++ [v]) (fore_snoc h1 fun u hu => h5 u (nb_from hu) hu) (by
        rw [List.nodup_append]
        exact ⟨h2, by simp, fun a ha b hb => by
          rw [List.mem_singleton] at hb
          subst hb
          exact fun e => h4 (e ▸ ha)⟩) (fun x hx => by
        rcases List.mem_append.1 hx with hx | hx
        · exact h3 x hx
        · rw [List.mem_singleton] at hx
          omega)
      refine ⟨h6.1, h6.2.1, h6.2.2.1, ?_⟩
      rcases h6.2.2.2 with h | h
      · rw [List.length_append, List.length_singleton] at h
        exact .inl (by omega)
      · exact .inr h
theorem topoL_fore (nx : List (List Nat)) : Fore nx (topoL nx) ∧ (topoL nx).Nodup ∧ (∀ x ∈ topoL nx, x < nx.length) ∧ (nx.length ≤ (topoL nx).length ∨ ∀ w, w < nx.length → w ∉ topoL nx → ∃ u, u ∉ topoL nx ∧ w ∈ nb nx u) := by
  have h := kahn_fore nx nx.length [] (fun A x B e => by simp at e) List.nodup_nil (fun x h => by cases h)
  rw [List.length_nil, Nat.zero_add] at h
  exact h
/-- An order that each element stands in behind its predecessors has no cycle in it. -/
theorem fore_acyclic {nx : List (List Nat)} {d : List Nat} (h : Fore nx d) (hd : d.Nodup) {a : Nat} (ha : a ∈ d) : ¬ Pre nx a a := by
  rintro ⟨b, h1, h2⟩
  obtain ⟨A, B, rfl⟩ := List.append_of_mem ha
  have hn : a ∉ A := fun k => by
    rw [List.nodup_append] at hd
    exact hd.2.2 a k a (by simp) rfl
  have hin : b ∈ A ++ [a] := by
    rcases Classical.em (b ∈ A ++ [a]) with k | k
    · exact k
    · obtain ⟨x, y, _, hx, hy, hy2⟩ := h2.leaves (P := fun z => z ∉ A ++ [a]) k (by simp)
      have hy3 : y ∈ A ++ [a] := Classical.not_not.1 hy2
      refine absurd (List.mem_append_left _ ?_) hx
      rcases List.mem_append.1 hy3 with k3 | k3
      · obtain ⟨A1, B1, rfl⟩ := List.append_of_mem k3
        exact List.mem_append_left _ (h A1 y (B1 ++ a :: B) (by simp) x hy)
      · rw [List.mem_singleton] at k3
        subst k3
        exact h A y B rfl x hy
  rcases List.mem_append.1 hin with k3 | k3
  · obtain ⟨A1, B1, rfl⟩ := List.append_of_mem k3
    exact hn (List.mem_append_left _ (h A1 b (B1 ++ a :: B) (by simp) a h1))
  · rw [List.mem_singleton] at k3
    subst k3
    exact hn (h A b B rfl b h1)
theorem filter_less {l : List Nat} {p q : Nat → Bool} (h : ∀ x ∈ l, p x = true → q x = true) (hx : ∃ x ∈ l, q x = true ∧ p x = false) : (l.filter p).length < (l.filter q).length := by
  induction l with
  | nil =>
    obtain ⟨x, hx, _⟩ := hx
    cases hx
  | cons a t ih =>
    have hle : (t.filter p).length ≤ (t.filter q).length := by
      clear ih hx
      replace h := fun x hx => h x (List.mem_cons_of_mem a hx)
      induction t with
      | nil => exact Nat.le_refl _
      | cons b s ih2 =>
        have := ih2 fun x hx => h x (List.mem_cons_of_mem b hx)
        have hb := h b List.mem_cons_self
        rw [List.filter_cons, List.filter_cons]
        cases hp : p b with
        | true =>
          rw [hb hp]
          simp
          omega
        | false =>
          cases q b <;> simp <;> omega
    rw [List.filter_cons, List.filter_cons]
    have ha := h a List.mem_cons_self
    obtain ⟨x, hx, h1, h2⟩ := hx
    rcases List.mem_cons.1 hx with e | hx
    · subst e
      rw [h1, h2]
      simp
      omega
    · have := ih (fun x hx => h x (List.mem_cons_of_mem a hx)) ⟨x, hx, h1, h2⟩
      cases hp : p a with
      | true =>
        rw [ha hp]
        simp
        omega
      | false =>
        cases q a <;> simp <;> omega
theorem sub_len : ∀ (l m : List Nat), l.Nodup → (∀ x ∈ l, x ∈ m) → l.length ≤ m.length
  | [], _, _, _ => Nat.zero_le _
  | a :: t, m, hd, hs => by
    obtain ⟨A, B, rfl⟩ := List.append_of_mem (hs a List.mem_cons_self)
    obtain ⟨h1, h2⟩ := List.nodup_cons.1 hd
    have := sub_len t (A ++ B) h2 fun x hx => by
      rcases List.mem_append.1 (hs x (List.mem_cons_of_mem a hx)) with k | k
      · exact List.mem_append_left _ k
      · rcases List.mem_cons.1 k with e | k
        · exact absurd (e ▸ hx) h1
        · exact List.mem_append_right _ k
    simp only [List.length_append, List.length_cons] at this ⊢
    omega
/-- How many vertices come before w. -/
noncomputable def anc (nx : List (List Nat)) (w : Nat) : Nat := ((List.range nx.length).filter fun u => @decide (Pre nx u w) (Classical.propDecidable _)).length
theorem anc_less {nx : List (List Nat)} (hn : ¬ HasCyc nx) {u w : Nat} (h : w ∈ nb nx u) : anc nx u < anc nx w := by
  unfold anc
  refine filter_less (fun x _ hx => ?_) ⟨u, List.mem_range.2 (nb_from h), ?_, ?_⟩
  · have hx := @of_decide_eq_true _ (Classical.propDecidable _) hx
    exact @decide_eq_true _ (Classical.propDecidable _) (hx.trans ⟨w, h, .refl w⟩)
  · exact @decide_eq_true _ (Classical.propDecidable _) ⟨w, h, .refl w⟩
  · exact @decide_eq_false _ (Classical.propDecidable _) fun k => hn ⟨u, k⟩
theorem topo_of_acyclic {nx : List (List Nat)} (hn : ¬ HasCyc nx) : (topoL nx).length = nx.length := by
  obtain ⟨h1, h2, h3, h4⟩ := topoL_fore nx
  have hle := nodup_len nx.length _ h2 h3
  rcases h4 with h4 | h4
  · omega
  · have hall : ∀ m w, anc nx w < m → w < nx.length → w ∈ topoL nx := by
      intro m
      induction m with
      | zero => intro w h; omega
      | succ m ih =>
        intro w hm hw
        rcases Classical.em (w ∈ topoL nx) with k | k
        · exact k
        · obtain ⟨u, hu, hnb⟩ := h4 w hw k
          have := anc_less hn hnb
          exact absurd (ih u (by omega) (nb_from hnb)) hu
    have hsub : ∀ x ∈ List.range nx.length, x ∈ topoL nx := fun x hx => hall (anc nx x + 1) x (by omega) (List.mem_range.1 hx)
    have hlen : (List.range nx.length).length ≤ (topoL nx).length := sub_len _ _ List.nodup_range hsub
    rw [List.length_range] at hlen
    omega
theorem acyclic_of_topo {nx : List (List Nat)} (hl : (topoL nx).length = nx.length) : ¬ HasCyc nx := by
  rintro ⟨a, h⟩
  obtain ⟨h1, h2, h3, _⟩ := topoL_fore nx
  have ha : a ∈ topoL nx := by
    rcases Classical.em (a ∈ topoL nx) with k | k
    · exact k
    · exfalso
      obtain ⟨b, e, _⟩ := h
      have := nodup_len nx.length (topoL nx ++ [a]) (by
        rw [List.nodup_append]
        exact ⟨h2, by simp, fun x hx y hy => by
          rw [List.mem_singleton] at hy
          subst hy
          exact fun e => k (e ▸ hx)⟩) (fun x hx => by
        rcases List.mem_append.1 hx with hx | hx
        · exact h3 x hx
        · rw [List.mem_singleton] at hx
          have := nb_from e
          omega)
      rw [List.length_append, List.length_singleton] at this
      omega
  exact fore_acyclic h1 h2 ha h
theorem topo_iff (nx : List (List Nat)) : (topoL nx).length = nx.length ↔ ¬ HasCyc nx := ⟨acyclic_of_topo, topo_of_acyclic⟩
end Go.Proofs.YtdebnnigbbjbcaaDoor

namespace Go.Proofs.YtdebnnigbbjbcaaDoor

theorem filter_all {l : List Nat} {p : Nat → Bool} (h : (l.filter p).length = l.length) : ∀ x ∈ l, p x = true := by
  intro x hx
  cases hp : p x with
  | true => rfl
  | false =>
    have h1 := filter_less (l := l) (p := p) (q := fun _ => true) (fun _ _ _ => rfl) ⟨x, hx, rfl, hp⟩
    have h2 := List.length_filter_le (fun _ : Nat => true) l
    omega
theorem rch_step {nx : List (List Nat)} {v w : Nat} (h : Rch nx v w) (hn : v ≠ w) : Pre nx v w := by
  cases h with
  | refl => exact absurd rfl hn
  | head e k => exact ⟨_, e, k⟩
theorem cls_single {nx : List (List Nat)} (hn : ¬ HasCyc nx) {v : Nat} (hv : v < nx.length) : cls nx v = [v] := by
  refine sorted_ext_nat _ _ (cls_sorted nx v) (by simp) fun w => ?_
  rw [cls_mem, List.mem_singleton]
  constructor
  · rintro ⟨_, h1, h2⟩
    rcases Classical.em (w = v) with k | k
    · exact k
    · obtain ⟨b, e, r⟩ := rch_step h1 fun e => k e.symm
      exact absurd ⟨v, b, e, r.trans h2⟩ hn
  · rintro rfl
    exact ⟨hv, .refl nx w⟩
theorem comps_iff (nx : List (List Nat)) : ((comps nx).length = nx.length ∧ ∀ v, v ∉ nb nx v) ↔ ¬ HasCyc nx := by
  constructor
  · rintro ⟨h1, h2⟩ ⟨a, b, e, r⟩
    unfold comps at h1
    rw [List.length_map] at h1
    have h3 := filter_all (by rw [h1, List.length_range])
    have ha := nb_from e
    have hb : b < nx.length := by
      rcases Classical.em (b = a) with k | k
      · exact k ▸ ha
      · obtain ⟨c, e2, _⟩ := rch_step r k
        exact nb_from e2
    have hB : Both nx a b := ⟨.one e, r⟩
    have h4 := of_decide_eq_true (h3 a (List.mem_range.2 ha))
    have h5 := of_decide_eq_true (h3 b (List.mem_range.2 hb))
    rw [cls_eq hB] at h4
    rw [h4] at h5
    injection h5 with h5
    subst h5
    exact h2 _ e
  · intro hn
    refine ⟨?_, fun v hv => hn ⟨v, v, hv, .refl v⟩⟩
    unfold comps
    rw [List.length_map, List.filter_eq_self.2 fun v hv => ?_, List.length_range]
    rw [cls_single hn (List.mem_range.1 hv)]
    simp
end Go.Proofs.YtdebnnigbbjbcaaDoor

namespace Go.Proofs.YtdebnnigbbjbcaaDoor

theorem wk_pre {nx : List (List Nat)} {s : Nat} : ∀ r x, Wk nx s r x → Pre nx x s
  | 0, _, h => h.elim
  | 1, _, h => ⟨s, h, .refl s⟩
  | r + 2, x, h => by
    obtain ⟨y, hy, _, k⟩ := h
    obtain ⟨b, h1, h2⟩ := wk_pre (r + 1) y k
    exact ⟨y, hy, .head h1 h2⟩
theorem wk_of_rch {nx : List (List Nat)} {s : Nat} (hs : ∀ a, Pre nx a a → s ≤ a) {x : Nat} (h : Rch nx x s) : Pre nx s x → x = s ∨ ∃ r, Wk nx s r x := by
  generalize hc : s = c at h
  induction h with
  | refl => exact fun _ => .inl rfl
  | head e k ih =>
    rename_i a' b' c'
    subst hc
    intro hp
    refine .inr ?_
    have hp2 : Pre nx s b' := by
      obtain ⟨z, h1, h2⟩ := hp
      exact ⟨z, h1, h2.tail e⟩
    rcases ih rfl hp2 with h1 | ⟨r, h1⟩
    · exact ⟨1, h1 ▸ e⟩
    · have hbb : Pre nx b' b' := by
        obtain ⟨z, h3, h4⟩ := wk_pre r b' h1
        obtain ⟨q, h5, h6⟩ := hp2
        exact ⟨z, h3, h4.trans (.head h5 h6)⟩
      have hle := hs b' hbb
      rcases Nat.eq_or_lt_of_le hle with h2 | h2
      · exact ⟨1, show s ∈ nb nx a' by rw [h2]; exact e⟩
      · exact ⟨r + 1, wk_step e h2 h1⟩
theorem least_nat {P : Nat → Prop} : ∀ n, P n → ∃ m, P m ∧ ∀ k, k < m → ¬ P k := by
  intro n
  induction n using Nat.strongRecOn with
  | _ n ih =>
    intro h
    rcases Classical.em (∃ k, k < n ∧ P k) with ⟨k, hk, hp⟩ | hn
    · exact ih k hk hp
    · exact ⟨n, h, fun k hk hp => hn ⟨k, hk, hp⟩⟩
theorem wk_list {nx : List (List Nat)} (hg : Good nx) {s : Nat} : ∀ r x, Wk nx s r x → (∀ r', r' < r → ¬ Wk nx s r' x) → ∃ l : List Nat, l.length = r ∧ l.Nodup ∧ ∀ y ∈ l, y < nx.length ∧ ∃ j, j ≤ r ∧ Wk nx s j y ∧ ∀ j', j' < j → ¬ Wk nx s j' y
  | 0, _, h, _ => h.elim
  | 1, x, h, hm => ⟨[x], rfl, by simp, fun y hy => by
      rw [List.mem_singleton] at hy
      subst hy
      exact ⟨nb_from h, 1, Nat.le_refl _, h, hm⟩⟩
  | r + 2, x, h, hm => by
    obtain ⟨y, hy, hsy, k⟩ := h
    obtain ⟨l, h1, h2, h3⟩ := wk_list hg (r + 1) y k fun r' hr' hw => hm (r' + 1) (by omega) (wk_step hy hsy hw)
    have hx : x ∉ l := fun hx => by
      obtain ⟨_, j, hj, hw, _⟩ := h3 x hx
      exact hm j (by omega) hw
    refine ⟨x :: l, by simp [h1], List.nodup_cons.2 ⟨hx, h2⟩, fun z hz => ?_⟩
    rcases List.mem_cons.1 hz with e | hz
    · subst e
      exact ⟨nb_from hy, r + 2, Nat.le_refl _, ⟨y, hy, hsy, k⟩, hm⟩
    · obtain ⟨h4, j, hj, h5⟩ := h3 z hz
      exact ⟨h4, j, by omega, h5⟩
theorem cyc_short {nx : List (List Nat)} (hg : Good nx) (h : HasCyc nx) : ∃ s r, s < nx.length ∧ r ≤ nx.length ∧ Wk nx s r s := by
  obtain ⟨a, ha⟩ := h
  obtain ⟨s, hs, hl⟩ := least_nat (P := fun a => Pre nx a a) a ha
  have hl2 : ∀ a, Pre nx a a → s ≤ a := fun a h => by
    rcases Nat.lt_or_ge a s with k | k
    · exact absurd h (hl a k)
    · exact k
  have hw : ∃ r, Wk nx s r s := by
    obtain ⟨b, h1, h2⟩ := hs
    rcases wk_of_rch hl2 h2 ⟨b, h1, .refl b⟩ with e | ⟨r, h3⟩
    · exact ⟨1, show s ∈ nb nx s from e ▸ h1⟩
    · have hbb : Pre nx b b := by
        obtain ⟨z, h4, h5⟩ := wk_pre r b h3
        exact ⟨z, h4, h5.tail h1⟩
      rcases Nat.eq_or_lt_of_le (hl2 b hbb) with e | e
      · exact ⟨1, show s ∈ nb nx s by rw [← e] at h1; exact h1⟩
      · exact ⟨r + 1, wk_step h1 e h3⟩
  obtain ⟨r0, h0⟩ := hw
  obtain ⟨r, hr, hm⟩ := least_nat (P := fun r => Wk nx s r s) r0 h0
  obtain ⟨l, h1, h2, h3⟩ := wk_list hg r s hr hm
  have := nodup_len nx.length l h2 fun y hy => (h3 y hy).1
  obtain ⟨b, h4, _⟩ := hs
  exact ⟨s, r, nb_from h4, by omega, hr⟩
theorem isCyc_iff {nx : List (List Nat)} (hg : Good nx) {C : List Nat} (h : IsCyc nx nx.length nx.length C) : C = [] ↔ ¬ HasCyc nx := by
  constructor
  · rintro rfl hc
    obtain ⟨s, r, h1, h2, h3⟩ := cyc_short hg hc
    rcases h with ⟨_, h4⟩ | ⟨L, t, _, _, _, h5, h6, _⟩
    · exact h4 s h1 r h2 h3
    · exact (wkL_iff nx t L t).2 h5 h6.symm
  · intro hn
    rcases h with ⟨h4, _⟩ | ⟨L, t, _, _, _, h5, _⟩
    · exact h4
    · exact absurd ⟨t, wk_pre L t h5⟩ hn
end Go.Proofs.YtdebnnigbbjbcaaDoor

namespace Go.Proofs.YtdebnnigbbjbcaaDoor

theorem wkL_one {nx : List (List Nat)} {s x : Nat} (h : Wk nx s 1 x) : wkL nx s 1 x = [x] := by
  unfold wkL
  exact if_pos h
theorem wkL_cons {nx : List (List Nat)} {s r x : Nat} (h : Wk nx s (r + 2) x) : ∃ y, wkL nx s (r + 2) x = x :: wkL nx s (r + 1) y ∧ y ∈ nb nx x ∧ s < y ∧ Wk nx s (r + 1) y := by
  have hne := (wkL_iff nx s (r + 2) x).2 h
  rw [wkL] at hne ⊢
  cases hf : (nb nx x).find? fun y => decide (s < y) && !(wkL nx s (r + 1) y).isEmpty with
  | none =>
    rw [hf] at hne
    exact absurd rfl hne
  | some y =>
    have h1 := List.mem_of_find?_eq_some hf
    have h2 := List.find?_some hf
    rw [Bool.and_eq_true, decide_eq_true_eq, empty_iff, wkL_iff] at h2
    exact ⟨y, rfl, h1, h2.1, h2.2⟩
theorem wkL_first {nx : List (List Nat)} {s r x : Nat} (h : Wk nx s r x) : (wkL nx s r x)[0]? = some x := by
  match r, h with
  | 0, h => exact h.elim
  | 1, h => rw [wkL_one h]; rfl
  | r + 2, h =>
    obtain ⟨y, e, _⟩ := wkL_cons h
    rw [e]
    rfl
theorem wkL_mem {nx : List (List Nat)} {s : Nat} : ∀ r x, Wk nx s r x → ∀ z ∈ wkL nx s r x, ∃ j, j ≤ r ∧ Wk nx s j z ∧ (z = x ∨ s < z)
  | 0, _, h, _, _ => h.elim
  | 1, x, h, z, hz => by
    rw [wkL_one h, List.mem_singleton] at hz
    subst hz
    exact ⟨1, Nat.le_refl _, h, .inl rfl⟩
  | r + 2, x, h, z, hz => by
    obtain ⟨y, e, h1, h2, h3⟩ := wkL_cons h
    rw [e] at hz
    rcases List.mem_cons.1 hz with e1 | hz
    · subst e1
      exact ⟨r + 2, Nat.le_refl _, h, .inl rfl⟩
    · obtain ⟨j, hj, hw, h4⟩ := wkL_mem (r + 1) y h3 z hz
      refine ⟨j, by omega, hw, .inr ?_⟩
      rcases h4 with h4 | h4
      · omega
      · exact h4
theorem wkL_nodup {nx : List (List Nat)} {s : Nat} : ∀ r x, Wk nx s r x → (∀ r', r' < r → ¬ Wk nx s r' x) → (wkL nx s r x).Nodup
  | 0, _, h, _ => h.elim
  | 1, x, h, _ => by rw [wkL_one h]; simp
  | r + 2, x, h, hm => by
    obtain ⟨y, e, h1, h2, h3⟩ := wkL_cons h
    rw [e]
    refine List.nodup_cons.2 ⟨fun hx => ?_, wkL_nodup (r + 1) y h3 fun r' hr' hw => hm (r' + 1) (by omega) (wk_step h1 h2 hw)⟩
    obtain ⟨j, hj, hw, _⟩ := wkL_mem (r + 1) y h3 x hx
    exact hm j (by omega) hw
theorem wkL_edge {nx : List (List Nat)} {s : Nat} : ∀ r x, Wk nx s r x → (∀ i, i + 1 < r → (wkL nx s r x)[i + 1]?.getD 0 ∈ nb nx ((wkL nx s r x)[i]?.getD 0)) ∧ s ∈ nb nx ((wkL nx s r x)[r - 1]?.getD 0)
  | 0, _, h => h.elim
  | 1, x, h => by
    rw [wkL_one h]
    exact ⟨fun i hi => by omega, h⟩
  | r + 2, x, h => by
    obtain ⟨y, e, h1, h2, h3⟩ := wkL_cons h
    obtain ⟨k1, k2⟩ := wkL_edge (r + 1) y h3
    rw [e]
    constructor
    · intro i hi
      cases i with
      | zero =>
        rw [List.getElem?_cons_succ, wkL_first h3]
        exact h1
      | succ i =>
        rw [List.getElem?_cons_succ, List.getElem?_cons_succ]
        exact k1 i (by omega)
    · rw [show r + 2 - 1 = r + 1 by omega, List.getElem?_cons_succ]
      exact k2
/-- The cycle found: joined, the first the least, none twice. -/
theorem isCyc_ok {nx : List (List Nat)} {n : Nat} {C : List Nat} (h : IsCyc nx n n C) {i : Nat} (hi : i < C.length) : C[(i + 1) % C.length]?.getD 0 ∈ nb nx (C[i]?.getD 0) ∧ C[0]?.getD 0 ≤ C[i]?.getD 0 ∧ C[i]?.getD 0 ∉ C.drop (i + 1) := by
  rcases h with ⟨rfl, _⟩ | ⟨L, s, h1, h2, h3, h4, rfl, h5, _⟩
  · simp at hi
  · have hl := wkL_len nx s L s ((wkL_iff nx s L s).2 h4)
    have hf := wkL_first h4
    obtain ⟨k1, k2⟩ := wkL_edge L s h4
    have hnd := wkL_nodup L s h4 (h5 s h3)
    have hmm := wkL_mem L s h4
    obtain ⟨l, hl0⟩ : ∃ l, wkL nx s L s = l := ⟨_, rfl⟩
    rw [hl0] at hl hf k1 k2 hnd hmm hi ⊢
    subst hl
    have hz : l[i]?.getD 0 = l[i] := by rw [List.getElem?_eq_getElem hi]; rfl
    refine ⟨?_, ?_, ?_⟩
    · rcases Nat.lt_or_ge (i + 1) l.length with k | k
      · rw [Nat.mod_eq_of_lt k]
        exact k1 i k
      · rw [show i + 1 = l.length by omega, Nat.mod_self, hf, show i = l.length - 1 by omega]
        exact k2
    · rw [hf, hz]
      obtain ⟨_, _, _, h6⟩ := hmm l[i] (List.getElem_mem hi)
      show s ≤ l[i]
      omega
    · rw [hz]
      have h7 : l.take i ++ l[i] :: l.drop (i + 1) = l := by rw [← List.drop_eq_getElem_cons hi, List.take_append_drop]
      rw [← h7, List.nodup_append] at hnd
      exact (List.nodup_cons.1 hnd.2.1).1
end Go.Proofs.YtdebnnigbbjbcaaDoor

namespace Go.Proofs.YtdebnnigbbjbcaaDoor
open Go

/-- The list L has each of the n vertices once, and each edge of E leads forward in it. -/
structure TOrd (n : Nat) (E : List (Nat × Nat)) (L : List Nat) : Prop where
  len : L.length = n
  lt : ∀ x ∈ L, x < n
  nodup : L.Nodup
  fwd : ∀ x y : Nat, (x, y) ∈ E → ∀ i j : Nat, L[i]? = some x → L[j]? = some y → i < j
theorem nodup_place {L : List Nat} (h : L.Nodup) {i j x : Nat} (hi : L[i]? = some x) (hj : L[j]? = some x) : i = j := by
  obtain ⟨h1, h2⟩ := List.getElem?_eq_some_iff.1 hi
  obtain ⟨h3, h4⟩ := List.getElem?_eq_some_iff.1 hj
  have hp := List.pairwise_iff_getElem.1 h
  rcases Nat.lt_trichotomy i j with k | k | k
  · exact absurd (h2.trans h4.symm) (hp i j h1 h3 k)
  · exact k
  · exact absurd (h4.trans h2.symm) (hp j i h3 h1 k)
theorem fore_places {nx : List (List Nat)} {L : List Nat} (hF : Fore nx L) (hd : L.Nodup) {x y i j : Nat} (hi : L[i]? = some x) (hj : L[j]? = some y) (he : y ∈ nb nx x) : i < j := by
  obtain ⟨h3, h4⟩ := List.getElem?_eq_some_iff.1 hj
  have e : L = L.take j ++ y :: L.drop (j + 1) := by rw [← h4, ← List.drop_eq_getElem_cons h3, List.take_append_drop]
  have hm := hF _ _ _ e x he
  obtain ⟨k, hk, hkx⟩ := List.mem_iff_getElem.1 hm
  rw [List.length_take] at hk
  rw [List.getElem_take] at hkx
  have : i = k := nodup_place hd hi (by rw [List.getElem?_eq_getElem (by omega), hkx])
  omega
theorem tord_of_fore {n : Nat} {E : List (Nat × Nat)} {L : List Nat} (hE : ∀ e ∈ E, e.1 < n ∧ e.2 < n) (hF : Fore (succs n E) L) (hd : L.Nodup) (hl : ∀ x ∈ L, x < n) (hn : L.length = n) : TOrd n E L :=
  ⟨hn, hl, hd, fun x y he _ _ hi hj => fore_places hF hd hi hj ((nb_succs hE x y).2 he)⟩
theorem ord_topo {n : Nat} {E : List (Nat × Nat)} (hE : ∀ e ∈ E, e.1 < n ∧ e.2 < n) (hn : (topoL (succs n E)).length = n) : TOrd n E (topoL (succs n E)) := by
  obtain ⟨h1, h2, h3, _⟩ := topoL_fore (succs n E)
  rw [succs_len] at h3
  exact tord_of_fore hE h1 h2 h3 hn
/-- Each vertex stands in a whole order. -/
theorem whole_mem {n : Nat} {L : List Nat} (hn : L.length = n) (hd : L.Nodup) (hl : ∀ x ∈ L, x < n) {x : Nat} (hx : x < n) : x ∈ L := by
  apply Classical.byContradiction
  intro hc
  have := nodup_len n (x :: L) (List.nodup_cons.2 ⟨hc, hd⟩) (fun y hy => by
    rcases List.mem_cons.1 hy with rfl | h
    · exact hx
    · exact hl y h)
  rw [List.length_cons] at this
  omega
theorem TOrd.at_ {n : Nat} {E : List (Nat × Nat)} {L : List Nat} (h : TOrd n E L) {x : Nat} (hx : x < n) : ∃ i, i < n ∧ L[i]? = some x := by
  obtain ⟨i, hi, e⟩ := List.mem_iff_getElem.1 (whole_mem h.len h.nodup h.lt hx)
  exact ⟨i, by rw [← h.len]; exact hi, by rw [List.getElem?_eq_getElem hi, e]⟩
theorem TOrd.fore {n : Nat} {E : List (Nat × Nat)} {L : List Nat} (h : TOrd n E L) (hE : ∀ e ∈ E, e.1 < n ∧ e.2 < n) : Fore (succs n E) L := by
  intro A x B e u hu
  have he := (nb_succs hE u x).1 hu
  obtain ⟨i, hi, hiu⟩ := h.at_ (hE _ he).1
  have hx : L[A.length]? = some x := by rw [e]; simp
  have hlt := h.fwd u x he i A.length hiu hx
  rw [e, List.getElem?_append_left hlt] at hiu
  exact List.mem_of_getElem? hiu
theorem TOrd.acyclic {n : Nat} {E : List (Nat × Nat)} {L : List Nat} (h : TOrd n E L) (hE : ∀ e ∈ E, e.1 < n ∧ e.2 < n) : ¬ HasCyc (succs n E) := by
  rintro ⟨a, ha⟩
  have ha2 := ha
  obtain ⟨b, hb, _⟩ := ha2
  have hal := nb_from hb
  rw [succs_len] at hal
  exact fore_acyclic (h.fore hE) h.nodup (whole_mem h.len h.nodup h.lt hal) ha
theorem TOrd.whole {n : Nat} {E : List (Nat × Nat)} {L : List Nat} (h : TOrd n E L) (hE : ∀ e ∈ E, e.1 < n ∧ e.2 < n) : (topoL (succs n E)).length = n := by
  have := (topo_iff (succs n E)).2 (h.acyclic hE)
  rwa [succs_len] at this
/-- An edge along the order keeps the order. -/
theorem TOrd.add {n : Nat} {E : List (Nat × Nat)} {L : List Nat} (h : TOrd n E L) {p q x y : Nat} (hp : L[p]? = some x) (hq : L[q]? = some y) (hpq : p < q) : TOrd n (E ++ [(x, y)]) L := by
  refine ⟨h.len, h.lt, h.nodup, fun u v he i j hi hj => ?_⟩
  rcases List.mem_append.1 he with he | he
  · exact h.fwd u v he i j hi hj
  · rw [List.mem_singleton] at he
    injection he with e1 e2
    subst e1 e2
    rw [nodup_place h.nodup hi hp, nodup_place h.nodup hj hq]
    exact hpq
theorem add_lt {n : Nat} {E : List (Nat × Nat)} (hE : ∀ e ∈ E, e.1 < n ∧ e.2 < n) {x y : Nat} (hx : x < n) (hy : y < n) : ∀ e ∈ E ++ [(x, y)], e.1 < n ∧ e.2 < n := by
  intro e he
  rcases List.mem_append.1 he with he | he
  · exact hE e he
  · rw [List.mem_singleton] at he
    subst he
    exact ⟨hx, hy⟩
theorem rch_add {n : Nat} {E : List (Nat × Nat)} {i j : Nat} (hE : ∀ e ∈ E, e.1 < n ∧ e.2 < n) (hi : i < n) (hj : j < n) {u v : Nat} (h : Rch (succs n (E ++ [(j, i)])) u v) : Rch (succs n E) u v ∨ (Rch (succs n E) u j ∧ Rch (succs n E) i v) := by
  induction h with
  | refl a => exact .inl (.refl a)
  | head e _ ih =>
    rename_i a b c _
    rw [nb_succs (add_lt hE hj hi)] at e
    rcases List.mem_append.1 e with e | e
    · rcases ih with ih | ⟨ih1, ih2⟩
      · exact .inl (.head ((nb_succs hE _ _).2 e) ih)
      · exact .inr ⟨.head ((nb_succs hE _ _).2 e) ih1, ih2⟩
    · rw [List.mem_singleton] at e
      injection e with e1 e2
      subst e1 e2
      rcases ih with ih | ⟨_, ih2⟩
      · exact .inr ⟨.refl _, ih⟩
      · exact .inr ⟨.refl _, ih2⟩
theorem rch_more {n : Nat} {E F : List (Nat × Nat)} (hE : ∀ e ∈ E, e.1 < n ∧ e.2 < n) (hF : ∀ e ∈ F, e.1 < n ∧ e.2 < n) (hs : ∀ e ∈ E, e ∈ F) {u v : Nat} (h : Rch (succs n E) u v) : Rch (succs n F) u v := by
  induction h with
  | refl a => exact .refl a
  | head e _ ih => exact .head ((nb_succs hF _ _).2 (hs _ ((nb_succs hE _ _).1 e))) ih
/-- An edge that is added to a graph without cycles closes one just if its start is reached from its end. -/
theorem closing_iff {n : Nat} {E : List (Nat × Nat)} {i j : Nat} (hE : ∀ e ∈ E, e.1 < n ∧ e.2 < n) (hi : i < n) (hj : j < n) (hn : ¬ HasCyc (succs n E)) : HasCyc (succs n (E ++ [(j, i)])) ↔ j ∈ rset (succs n E) [i] := by
  have hr : j ∈ rset (succs n E) [i] ↔ Rch (succs n E) i j := by
    rw [rset_mem, succs_len]
    constructor
    · rintro ⟨_, v, h1, h2⟩
      rw [List.mem_singleton] at h1
      exact h1 ▸ h2
    · exact fun h => ⟨hj, i, by simp, h⟩
  rw [hr]
  constructor
  · rintro ⟨a, b, h1, h2⟩
    apply Classical.byContradiction
    intro hc
    rw [nb_succs (add_lt hE hj hi)] at h1
    have h3 := rch_add hE hi hj h2
    rcases List.mem_append.1 h1 with h1 | h1
    · have h1 := (nb_succs hE a b).2 h1
      rcases h3 with h3 | ⟨h3, h4⟩
      · exact hn ⟨a, b, h1, h3⟩
      · exact hc (h4.trans (.head h1 h3))
    · rw [List.mem_singleton] at h1
      injection h1 with e1 e2
      subst e1 e2
      rcases h3 with h3 | ⟨h3, _⟩
      · exact hc h3
      · exact hc h3
  · intro h
    exact ⟨j, i, (nb_succs (add_lt hE hj hi) _ _).2 (by simp), rch_more hE (add_lt hE hj hi) (fun e he => List.mem_append_left _ he) h⟩
end Go.Proofs.YtdebnnigbbjbcaaDoor

namespace Go.Proofs.YtdebnnigbbjbcaaDoor
open Go Go.RowKit Go.Proofs

theorem own_drewN {W : World} {lo : Nat} {v : Value} {l : List Nat} (h : Own W lo v l) (q : Nat) : Own (W.drewN q) lo v l := h.keep fun _ _ => rfl
/-- Has at what stands behind a place of a row. -/
theorem has_drop {W : World} {lo n c : Nat} {g : Nat} {L : List Nat} (ho : Own W lo (.slice (some ⟨g, 0, none⟩) n c) L) (hl : L.length ≤ 1000) (i x : Nat) (hi : i ≤ L.length) (A' : Option Addr) (n' c' : Nat) (hn : n' = L.length - i) (hA : n' = 0 ∨ A' = some ⟨g, i, none⟩) :
    Calls Tryd.prog 27 #[.slice A' n' c', .int .i64 (x : Int)] W fun e w' => e = .returned (.bool (decide (x ∈ L.drop i))) ∧ w' = W := by
  have hI : Ints .i64 W.heap.size W A' n' ((L.drop i).map fun n : Nat => (n : Int)) := by
    refine ⟨by rw [List.length_map, List.length_drop, hn], fun hp => ?_⟩
    rcases hA with h0 | rfl
    · omega
    · refine ⟨g, i, rfl, (ho.lt g rfl).2, fun j hj => ?_⟩
      have h1 := ho.cell (i := i + j) (by omega)
      rw [h1]
      rw [List.getElem?_map, List.getElem?_drop, List.getElem?_eq_getElem (by omega)]
      rfl
  have h2 := has_any A' n' c' ((L.drop i).map fun n : Nat => (n : Int)) (x : Int) W hI (by omega)
  have h3 : ((x : Int) ∈ (L.drop i).map fun n : Nat => (n : Int)) ↔ x ∈ L.drop i := by
    rw [List.mem_map]
    constructor
    · rintro ⟨y, hy, e⟩
      have : y = x := by omega
      exact this ▸ hy
    · exact fun h => ⟨x, h, rfl⟩
  rw [decide_eq_decide.2 h3] at h2
  exact h2
/-- What the places say when the first i elements of the order have theirs. -/
def Plc (k i : Nat) (L cs : List Nat) : Prop := cs.length = k ∧ ∀ j x, j < i → L[j]? = some x → cs[x]? = some j
theorem Plc.step {k i : Nat} {L cs : List Nat} (h : Plc k i L cs) (hd : L.Nodup) {x : Nat} (hx : L[i]? = some x) (hxk : x < k) : Plc k (i + 1) L (cs.set x i) := by
  refine ⟨by rw [List.length_set]; exact h.1, fun j y hj hy => ?_⟩
  by_cases e : y = x
  · subst e
    have : j = i := nodup_place hd hy hx
    subst this
    rw [List.getElem?_set_self (by rw [h.1]; exact hxk)]
  · rw [List.getElem?_set_ne (fun e' => e e'.symm)]
    refine h.2 j y ?_ hy
    rcases Nat.lt_or_ge j i with k | k
    · exact k
    · have : j = i := by omega
      subst this
      rw [hx] at hy
      injection hy with hy
      exact absurd hy.symm e

set_option maxRecDepth 100000 in
set_option maxHeartbeats 4000000 in
theorem respects_any (k m c lo c2 : Nat) (A O : Option Addr) (E : List (Nat × Nat)) (L : List Nat) (w : World) (hk : k ≤ 10) (hm : m ≤ 1000) (hE : Edg w w.heap.size A m E) (hd : ∀ e ∈ E, e.1 < k ∧ e.2 < k) (ho : Own w lo (.slice O k c2) L) (hO : TOrd k E L) :
    Calls Tryd.prog 26 #[.int .i64 (k : Int), .slice A m c, .slice O k c2] w fun e w' => e = .returned (.bool true) ∧ Below w.heap.size w w' := by
  have hmk := make_ints k k (Nat.le_refl _) (by omega)
  have HO := Lib.hid ho
  have HORD := Lib.hid hO
  have HE := Lib.hid hE
  have HD := Lib.hid hd
  have hml := hE.1
  have hLl := hO.len
  have hcl : k ≤ c2 := by
    obtain ⟨_, _, e, h1, _⟩ := ho.slice
    injection e with _ _ e
    omega
  clear ho hO hE hd
  go_enter Tryd.func26, Tryd.ntmps26
  go_wp2
  go_loopw [8] (fun i W => ∃ (j : Nat) (cs : List Nat), j ≤ k ∧ i = .int .i64 (j : Int) ∧ Hid (Plc k j L cs) ∧ W.heap[w.heap.size]? = some (.cells (cs.map nv).toArray 3 (0, 0)) ∧ Below w.heap.size w W) (fun i _ => k - (intOf i).toNat)
  case atStart => exact ⟨0, List.replicate k 0, Nat.zero_le _, rfl, ⟨by simp, fun j x h => absurd h (Nat.not_lt_zero _)⟩, by rw [World.alloc_heap_new]; simp [nv], (Below.refl _ w).alloc (Nat.le_refl _) _⟩
  case round =>
    obtain ⟨j, cs, hj, rfl, hP, hg, hB⟩ := hrel
    obtain ⟨wo, hwo⟩ : ∃ W, W = wr := ⟨_, rfl⟩
    subst hwo
    have hgl0 := heap_lt hg
    by_cases hlt : j < k
    · obtain ⟨gO, c', e, _, hgl, _, _⟩ := HO.out.form (by omega)
      injection e with e1 e2 e3
      subst e1
      clear e2 e3
      obtain ⟨x, hx⟩ : ∃ x, L[j]? = some x := ⟨_, List.getElem?_eq_getElem (by omega)⟩
      have hxk : x < k := HORD.out.lt x (List.mem_of_getElem? hx)
      have HOW := Lib.hid (HO.out.keep (w' := wo) fun b hb => hB.block b (HO.out.lt b hb).2)
      have hcx := HOW.out.cell (i := j) (by omega)
      rw [hx, Option.getD_some] at hcx
      unfold nv at hcx
      have HHA := Lib.hid (fun q A' n' c' hn hA => has_drop (W := wo.drewN q) (own_drewN HOW.out q) (by omega) (j + 1) x (by omega) A' n' c' hn hA)
      have hnm : x ∉ L.drop (j + 1) := by
        intro hm
        obtain ⟨i, hi, e⟩ := List.mem_iff_getElem.1 hm
        rw [List.getElem_drop] at e
        rw [List.length_drop] at hi
        have := nodup_place HORD.out.nodup hx (by rw [List.getElem?_eq_getElem (i := j + 1 + i) (by omega), e])
        omega
      rw [decide_eq_false hnm] at HHA
      have h1 : decide ((x : Int) < 0) = false := decide_eq_false (by omega)
      have h2 : decide ((k : Int) ≤ (x : Int)) = false := decide_eq_false (by omega)
      have HP := Lib.hid (hP.out.step HORD.out.nodup hx hxk)
      have HG := Lib.hid (dat_set (x := x) (i := j) hg)
      have hcw := dat_cell hg (x := x) (by rw [hP.out.1]; exact hxk)
      have hfz : wo.frozen? ⟨w.heap.size, x, none⟩ = false := by simp [World.frozen?, hg]
      have h3 : decide (k ≤ x) = false := decide_eq_false (by omega)
      have hj1 : (j : Int) + 1 ≤ (k : Int) := by omega
      have hj0 : (0 : Int) ≤ (j : Int) + 1 := by omega
      have hjt : ((j : Int) + 1).toNat = j + 1 := by omega
      clear hnm hx hg
      have hor : c2 = j + 1 ∨ ¬ c2 = j + 1 := by omega
      rcases hor with hor | hor
      all_goals
        go_wp2
        go_quiet (first | (go_at_call 27; refine Calls.quiet_of_same (HHA.out _ _ _ _ (by omega) (by first | exact .inl (by omega) | exact .inr rfl))))
        go_wp2
        go_roundw
        case rel => exact ⟨j + 1, cs.set x j, by omega, by go_num, HP.out, HG.out, (below_drewN' hB _).setCell (p := ⟨w.heap.size, x, none⟩) (Nat.le_refl _) _⟩
        case measure => simp [intOf]; omega
    · obtain rfl : j = k := by omega
      have HPL := Lib.hid hP.out
      have HG := Lib.hid hg
      clear hg hP
      go_wp2
      go_loopw [9] (fun i W => ∃ (r : Nat), r ≤ m ∧ i = .int .i64 (r : Int) ∧ W.heap[w.heap.size]? = some (.cells (cs.map nv).toArray 3 (0, 0)) ∧ Below w.heap.size w W) (fun i _ => m - (intOf i).toNat)
      case atStart => exact ⟨0, Nat.zero_le _, rfl, HG.out, hB⟩
      case round =>
        obtain ⟨r, hr, rfl, hg2, hB2⟩ := hrel
        obtain ⟨wp, hwp⟩ : ∃ W, W = wr := ⟨_, rfl⟩
        subst hwp
        by_cases hrm : r < m
        · obtain ⟨b, off, x, y, rfl, hb, hxy, hc1, hc2⟩ := HE.out.at_ hrm
          have hmem := List.mem_of_getElem? hxy
          have hxl := HD.out _ hmem
          simp only at hxl
          obtain ⟨ix, hix, hix2⟩ := HORD.out.at_ hxl.1
          obtain ⟨iy, hiy, hiy2⟩ := HORD.out.at_ hxl.2
          have hlt2 := HORD.out.fwd x y hmem ix iy hix2 hiy2
          have hcx := (hB2.cell (p := ⟨b, off + r * 2, none⟩) hb).trans hc1
          have hcy := (hB2.cell (p := ⟨b, off + r * 2 + 1, none⟩) hb).trans hc2
          unfold nv at hcx hcy
          have hax := dat_cell hg2 (x := x) (by rw [HPL.out.1]; exact hxl.1)
          have hay := dat_cell hg2 (x := y) (by rw [HPL.out.1]; exact hxl.2)
          have e1 : homeAt cs x = ix := by unfold homeAt; rw [HPL.out.2 ix x hix hix2]; rfl
          have e2 : homeAt cs y = iy := by unfold homeAt; rw [HPL.out.2 iy y hiy hiy2]; rfl
          rw [e1] at hax
          rw [e2] at hay
          have h1 : decide ((iy : Int) ≤ (ix : Int)) = false := decide_eq_false (by omega)
          have h2 : decide (iy ≤ ix) = false := decide_eq_false (by omega)
          have hx1 : (x : Int) < (j : Int) := by omega
          have hy1 : (y : Int) < (j : Int) := by omega
          have HG2 := Lib.hid hg2
          clear hxy hmem hix2 hiy2 e1 e2 hc1 hc2 hg2
          go_wp2
          go_quiet (fail)
          go_wp2
          go_roundw
          case rel => exact ⟨r + 1, by omega, by go_num, HG2.out, below_drewN' hB2 _⟩
          case measure => simp [intOf]; omega
        · obtain rfl : r = m := by omega
          go_wp2
          go_ret
          exact ⟨rfl, hB2⟩
end Go.Proofs.YtdebnnigbbjbcaaDoor
