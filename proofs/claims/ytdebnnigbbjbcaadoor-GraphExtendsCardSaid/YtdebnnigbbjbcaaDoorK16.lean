/-
  The shortest cycle: what the search of cycleFrom finds, exactly; what shortestCycle keeps. Plain mathematics; no function of the program.
  The contract of graph.shortestCycle.
  The contract of graph.Components.
  The contract of graph.Cycle for few vertices. Condition: the walks that the searches promise are there.
  Dropping the edges between components changes no cycle; the contract of graph.Cycle: the least of the shortest cycles. Condition: the edges' ends are vertices.
-/
import Derived.Test.YtdebnnigbbjbcaaDoorK15
import Derived.Test.YtdebnnigbbjbcaaDoorK3
import Derived.Test.YtdebnnigbbjbcaaDoorK10

namespace Go.Proofs.YtdebnnigbbjbcaaDoor

/-- A walk of r edges from x to s whose inner vertices are greater than s. -/
def Wk (nx : List (List Nat)) (s : Nat) : Nat → Nat → Prop
  | 0, _ => False
  | 1, x => s ∈ nb nx x
  | r + 2, x => ∃ y, y ∈ nb nx x ∧ s < y ∧ Wk nx s (r + 1) y
/-- The least such walk; an empty list where there is none. -/
def wkL (nx : List (List Nat)) (s : Nat) : Nat → Nat → List Nat
  | 0, _ => []
  | 1, x => if s ∈ nb nx x then [x] else []
  | r + 2, x => match (nb nx x).find? fun y => decide (s < y) && !(wkL nx s (r + 1) y).isEmpty with
    | none => []
    | some y => x :: wkL nx s (r + 1) y
theorem wk_pos {nx : List (List Nat)} {s r x : Nat} (h : Wk nx s r x) : 1 ≤ r := by
  cases r with
  | zero => exact h.elim
  | succ r => omega
theorem wk_step {nx : List (List Nat)} {s r x y : Nat} (hy : y ∈ nb nx x) (hs : s < y) (h : Wk nx s r y) : Wk nx s (r + 1) x := by
  cases r with
  | zero => exact h.elim
  | succ r => exact ⟨y, hy, hs, h⟩
theorem empty_iff (l : List Nat) : (!l.isEmpty) = true ↔ l ≠ [] := by cases l <;> simp
theorem wkL_iff (nx : List (List Nat)) (s : Nat) : ∀ r x, wkL nx s r x ≠ [] ↔ Wk nx s r x
  | 0, x => by simp [wkL, Wk]
  | 1, x => by simp [wkL, Wk]
  | r + 2, x => by
    rw [wkL, Wk]
    cases hf : (nb nx x).find? fun y => decide (s < y) && !(wkL nx s (r + 1) y).isEmpty with
    | none =>
      rw [List.find?_eq_none] at hf
      simp only [ne_eq, not_true_eq_false, false_iff, not_exists, not_and]
      intro y hy hs hw
      refine hf y hy ?_
      rw [Bool.and_eq_true, empty_iff, wkL_iff nx s (r + 1) y]
      exact ⟨decide_eq_true hs, hw⟩
    | some y =>
      have h1 := List.find?_some hf
      have h2 := List.mem_of_find?_eq_some hf
      rw [Bool.and_eq_true, empty_iff, wkL_iff nx s (r + 1) y] at h1
      simp only [ne_eq, reduceCtorEq, not_false_eq_true, true_iff]
      exact ⟨y, h2, of_decide_eq_true h1.1, h1.2⟩
theorem wkL_len (nx : List (List Nat)) (s : Nat) : ∀ r x, wkL nx s r x ≠ [] → (wkL nx s r x).length = r
  | 0, x, h => by simp [wkL] at h
  | 1, x, h => by
    unfold wkL at h ⊢
    split at h
    · rename_i h0
      rw [if_pos h0]
      rfl
    · exact absurd rfl h
  | r + 2, x, h => by
    rw [wkL] at h ⊢
    cases hf : (nb nx x).find? fun y => decide (s < y) && !(wkL nx s (r + 1) y).isEmpty with
    | none => rw [hf] at h; exact absurd rfl h
    | some y =>
      have h1 := List.find?_some hf
      rw [Bool.and_eq_true, empty_iff] at h1
      simp [wkL_len nx s (r + 1) y h1.2]
theorem find_congr {p q : Nat → Bool} : ∀ (l : List Nat), (∀ x ∈ l, p x = q x) → l.find? p = l.find? q
  | [], _ => rfl
  | a :: l, h => by
    rw [List.find?_cons, List.find?_cons, h a (by simp), find_congr l fun x hx => h x (by simp [hx])]

/-- cycleFrom's marks, where the start is not met. -/
theorem setTo_false (s len : Nat) : ∀ (us D : List Nat), (∀ u ∈ us, u < D.length) → s ∉ us → (setTo s len us D).1 = false ∧ ∀ x, homeAt (setTo s len us D).2 x = if x ∈ us then len else homeAt D x
  | [], D, _, _ => ⟨rfl, fun x => by simp [setTo]⟩
  | u :: us, D, hu, hs => by
    have h1 : ¬ u = s := fun e => hs (by simp [e])
    unfold setTo
    rw [if_neg h1]
    obtain ⟨k1, k2⟩ := setTo_false s len us (D.set u len) (fun x hx => by rw [List.length_set]; exact hu x (by simp [hx])) (fun h => hs (by simp [h]))
    refine ⟨k1, fun x => ?_⟩
    rw [k2, homeAt_set]
    by_cases e1 : x ∈ us
    · simp [e1]
    · by_cases e2 : u = x
      · subst e2
        simp [hu u (by simp)]
      · simp [e1, e2]
        exact fun e => absurd e.symm e2
theorem setTo_true (s len : Nat) : ∀ (us D : List Nat), s ∈ us → (setTo s len us D).1 = true
  | [], _, h => by cases h
  | u :: us, D, h => by
    unfold setTo
    by_cases e : u = s
    · rw [if_pos e]
    · rw [if_neg e]
      refine setTo_true s len us _ ?_
      rcases List.mem_cons.1 h with h | h
      · exact absurd h.symm e
      · exact h
theorem setTo_or (s len : Nat) : ∀ (us D : List Nat) (x : Nat), homeAt (setTo s len us D).2 x = homeAt D x ∨ (x ∈ us ∧ homeAt (setTo s len us D).2 x = len)
  | [], _, _ => .inl rfl
  | u :: us, D, x => by
    unfold setTo
    by_cases e : u = s
    · rw [if_pos e]
      exact .inl rfl
    · rw [if_neg e]
      rcases setTo_or s len us (D.set u len) x with h | ⟨h1, h2⟩
      · rw [homeAt_set] at h
        split at h
        · rename_i hc
          exact .inr ⟨by rw [← hc.1]; simp, h⟩
        · exact .inl h
      · exact .inr ⟨by simp [h1], h2⟩

/-- What holds of the search before place i of the queue. -/
structure BI (nd : List (List Nat)) (s n i unf : Nat) (D Q : List Nat) : Prop where
  dlen : D.length = n
  qlt : ∀ x ∈ Q, x < n ∧ s ≤ x
  q0 : homeAt Q 0 = s ∧ 0 < Q.length
  nodup : Q.Nodup
  unf : ∀ x, x ∈ bitsL unf ↔ s ≤ x ∧ x < n ∧ (x ∉ Q ∨ x = s)
  ds : homeAt D s = 0
  dout : ∀ x, x ∉ Q → homeAt D x = 0
  sound : ∀ x ∈ Q, x ≠ s → 1 ≤ homeAt D x ∧ Wk nd s (homeAt D x) x
  proc : ∀ j, j < i → j < Q.length → ∀ u, s ≤ u → u < n → homeAt Q j ∈ nb nd u → u ∈ Q ∧ u ≠ s ∧ homeAt D u ≤ homeAt D (homeAt Q j) + 1
  mono : ∀ j k, j ≤ k → k < Q.length → homeAt D (homeAt Q j) ≤ homeAt D (homeAt Q k)
  near : ∀ j, j < Q.length → i < Q.length → homeAt D (homeAt Q j) ≤ homeAt D (homeAt Q i) + 1
  ile : i ≤ Q.length
theorem homeAt_of {Q : List Nat} {x : Nat} (h : x ∈ Q) : ∃ j, j < Q.length ∧ homeAt Q j = x := by
  obtain ⟨j, hj, e⟩ := List.mem_iff_getElem.1 h
  refine ⟨j, hj, ?_⟩
  unfold homeAt
  rw [List.getElem?_eq_getElem hj, e]
  rfl
theorem homeAt_app {Q R : List Nat} {j : Nat} (h : j < Q.length) : homeAt (Q ++ R) j = homeAt Q j := by
  unfold homeAt
  rw [List.getElem?_append_left h]
theorem homeAt_app2 {Q R : List Nat} {j : Nat} (h : Q.length ≤ j) (h2 : j < (Q ++ R).length) : homeAt (Q ++ R) j ∈ R := by
  unfold homeAt
  rw [List.getElem?_append_right h]
  rw [List.length_append] at h2
  rw [List.getElem?_eq_getElem (by omega)]
  exact List.getElem_mem _
section
variable {nd : List (List Nat)} {s n i unf below : Nat} {D Q : List Nat}
theorem BI.cover (h : BI nd s n i unf D Q) (hg : Good nd) (hn : nd.length = n) : ∀ r x, s < x → x < n → Wk nd s r x → (i < Q.length → r ≤ homeAt D (homeAt Q i)) → x ∈ Q ∧ 1 ≤ homeAt D x ∧ homeAt D x ≤ r
  | 0, _, _, _, hw, _ => hw.elim
  | 1, x, hs, hx, hw, hi => by
    have h0 : 0 < i := by
      rcases Nat.eq_zero_or_pos i with e | e
      · subst e
        have := hi h.q0.2
        rw [h.q0.1, h.ds] at this
        omega
      · exact e
    obtain ⟨h1, h2, h3⟩ := h.proc 0 h0 h.q0.2 x (by omega) hx (by rw [h.q0.1]; exact hw)
    rw [h.q0.1, h.ds] at h3
    exact ⟨h1, (h.sound x h1 h2).1, h3⟩
  | r + 2, x, hs, hx, hw, hi => by
    obtain ⟨y, hy, hsy, hwy⟩ := hw
    have hyn : y < n := by rw [← hn]; exact nb_lt hg hy
    obtain ⟨h1, h2, h3⟩ := BI.cover h hg hn (r + 1) y hsy hyn hwy (fun hl => by have := hi hl; omega)
    obtain ⟨j, hj, rfl⟩ := homeAt_of h1
    have hji : j < i := by
      rcases Nat.lt_or_ge i Q.length with hl | hl
      · rcases Nat.lt_or_ge j i with e | e
        · exact e
        · have := h.mono i j e hj
          have := hi hl
          omega
      · omega
    obtain ⟨h4, h5, h6⟩ := h.proc j hji hj x (by omega) hx hy
    exact ⟨h4, (h.sound x h4 h5).1, by omega⟩
theorem BI.short (h : BI nd s n i unf D Q) (hg : Good nd) (hn : nd.length = n) : ∀ r, (i < Q.length → r ≤ homeAt D (homeAt Q i)) → ¬ Wk nd s r s
  | 0, _, hw => hw
  | 1, hi, hw => by
    have h0 : 0 < i := by
      rcases Nat.eq_zero_or_pos i with e | e
      · subst e
        have := hi h.q0.2
        rw [h.q0.1, h.ds] at this
        omega
      · exact e
    have hs := h.qlt s (by
      have := h.q0
      rw [← this.1]
      unfold homeAt
      rw [List.getElem?_eq_getElem this.2]
      exact List.getElem_mem _)
    obtain ⟨h1, h2, h3⟩ := h.proc 0 h0 h.q0.2 s (by omega) hs.1 (by rw [h.q0.1]; exact hw)
    exact h2 rfl
  | r + 2, hi, hw => by
    obtain ⟨y, hy, hsy, hwy⟩ := hw
    have hyn : y < n := by rw [← hn]; exact nb_lt hg hy
    obtain ⟨h1, h2, h3⟩ := h.cover hg hn (r + 1) y hsy hyn hwy (fun hl => by have := hi hl; omega)
    obtain ⟨j, hj, rfl⟩ := homeAt_of h1
    have hji : j < i := by
      rcases Nat.lt_or_ge i Q.length with hl | hl
      · rcases Nat.lt_or_ge j i with e | e
        · exact e
        · have := h.mono i j e hj
          have := hi hl
          omega
      · omega
    obtain ⟨h4, h5, h6⟩ := h.proc j hji hj s (Nat.le_refl _) (by omega) hy
    exact h5 rfl
/-- What a search that found says. -/
structure Found (nd : List (List Nat)) (s n below len : Nat) (D : List Nat) : Prop where
  lt : len < below
  walk : Wk nd s len s
  least : ∀ r, r < len → ¬ Wk nd s r s
  mark : ∀ x r, homeAt D x = r → 1 ≤ r → r < len → s < x ∧ Wk nd s r x
  all : ∀ x r, s < x → x < n → Wk nd s r x → r < len → 1 ≤ homeAt D x ∧ homeAt D x ≤ r
theorem homeAt_in {Q : List Nat} {k : Nat} (h : k < Q.length) : homeAt Q k ∈ Q := by
  unfold homeAt
  rw [List.getElem?_eq_getElem h]
  exact List.getElem_mem h
theorem bfs_exact (hg : Good nd) (hn : nd.length = n) (below : Nat) : ∀ (f i unf : Nat) (D Q : List Nat), n + 1 ≤ f + i → BI nd s n i unf D Q →
    (bfs (preds nd) s below f i unf D Q = none ∧ ∀ r, r < below → ¬ Wk nd s r s) ∨ ∃ len D', bfs (preds nd) s below f i unf D Q = some (len, D') ∧ Found nd s n below len D'
  | 0, i, unf, D, Q, hf, h => by
    have h1 := nodup_len n Q h.nodup fun x hx => (h.qlt x hx).1
    have := h.ile
    omega
  | f + 1, i, unf, D, Q, hf, h => by
    rw [bfs]
    by_cases hi : i < Q.length
    · rw [if_pos hi]
      by_cases hb : below ≤ homeAt D (homeAt Q i) + 1
      · rw [if_pos hb]
        exact .inl ⟨rfl, fun r hr => h.short hg hn r fun _ => by omega⟩
      · rw [if_neg hb]
        have hvQ := homeAt_in hi
        have hnear := fun j hj => h.near j hj hi
        have hmono1 := fun k hk hkl => h.mono i k hk hkl
        have hshort := fun r (hr : r ≤ homeAt D (homeAt Q i)) => h.short hg hn r fun _ => hr
        have hcover := fun r x h1 h2 h3 (hr : r ≤ homeAt D (homeAt Q i)) => h.cover hg hn r x h1 h2 h3 fun _ => hr
        obtain ⟨v, hv⟩ : ∃ v, homeAt Q i = v := ⟨_, rfl⟩
        rw [hv] at hb hvQ hnear hmono1 hshort hcover ⊢
        obtain ⟨d, hd⟩ : ∃ d, homeAt D v = d := ⟨_, rfl⟩
        rw [hd] at hb hnear hmono1 hshort hcover ⊢
        obtain ⟨us, hus⟩ : ∃ us, bitsL (unf &&& mask (nb (preds nd) v)) = us := ⟨_, rfl⟩
        have hmem : ∀ u, u ∈ us ↔ (s ≤ u ∧ u < n ∧ (u ∉ Q ∨ u = s)) ∧ v ∈ nb nd u := fun u => by rw [← hus, bits_and_mem, h.unf, nb_preds nd hg]
        have hnodup : us.Nodup := by
          rw [← hus]
          exact (List.nodup_range (n := 10)).sublist List.filter_sublist
        rw [hus]
        have hvs := h.qlt v hvQ
        by_cases hsu : s ∈ us
        · have h1 := setTo_true s (d + 1) us D hsu
          have h2 := setTo_or s (d + 1) us D
          obtain ⟨t, D', hst⟩ : ∃ t D', setTo s (d + 1) us D = (t, D') := ⟨_, _, rfl⟩
          rw [hst] at h1 h2 ⊢
          simp only at h1 h2
          subst h1
          refine .inr ⟨d + 1, D', rfl, by omega, ?_, fun r hr => hshort r (by omega), fun x r hx h1 hr => ?_, fun x r hsx hxn hw hr => ?_⟩
          · have hvn := ((hmem s).1 hsu).2
            by_cases e : v = s
            · subst e
              rw [h.ds] at hd
              subst hd
              exact hvn
            · obtain ⟨h3, h4⟩ := h.sound v hvQ e
              rw [hd] at h4
              exact wk_step hvn (by omega) h4
          · rcases h2 x with h3 | ⟨_, h3⟩
            · have hxQ : x ∈ Q := by
                rcases Classical.em (x ∈ Q) with h4 | h4
                · exact h4
                · have := h.dout x h4
                  omega
              have hxs : x ≠ s := fun e => by
                have := h.ds
                rw [e] at h3
                rw [e] at hx
                omega
              have := (h.qlt x hxQ).2
              refine ⟨by omega, ?_⟩
              have h5 := (h.sound x hxQ hxs).2
              rw [← h3, hx] at h5
              exact h5
            · omega
          · obtain ⟨h3, h4, h5⟩ := hcover r x hsx hxn hw (by omega)
            rcases h2 x with h6 | ⟨h6, _⟩
            · omega
            · rcases ((hmem x).1 h6).1.2.2 with h7 | h7
              · exact absurd h3 h7
              · omega
        · obtain ⟨h1, h2⟩ := setTo_false s (d + 1) us D (fun u hu => by rw [h.dlen]; exact ((hmem u).1 hu).1.2.1) hsu
          have hlen := setTo_len s (d + 1) us D
          obtain ⟨t, D', hst⟩ : ∃ t D', setTo s (d + 1) us D = (t, D') := ⟨_, _, rfl⟩
          rw [hst] at h1 h2 hlen ⊢
          simp only at h1 h2 hlen
          subst h1
          simp only
          have huQ : ∀ u ∈ us, u ∉ Q ∧ u ≠ s ∧ s ≤ u ∧ u < n ∧ v ∈ nb nd u := fun u hu => by
            obtain ⟨⟨h3, h4, h5⟩, h6⟩ := (hmem u).1 hu
            have h7 : u ≠ s := fun e => hsu (e ▸ hu)
            exact ⟨h5.resolve_right h7, h7, h3, h4, h6⟩
          have hold : ∀ x, x ∈ Q → homeAt D' x = homeAt D x := fun x hx => by
            rw [h2, if_neg fun hu => (huQ x hu).1 hx]
          have hnew : ∀ x, x ∈ us → homeAt D' x = d + 1 := fun x hx => by rw [h2, if_pos hx]
          have hsQ : s ∈ Q := by rw [← h.q0.1]; exact homeAt_in h.q0.2
          refine bfs_exact hg hn below f (i + 1) _ D' (Q ++ us) (by omega) ⟨by rw [hlen, h.dlen], ?_, ?_, ?_, ?_, ?_, ?_, ?_, ?_, ?_, ?_, ?_⟩
          · intro x hx
            rcases List.mem_append.1 hx with hx | hx
            · exact h.qlt x hx
            · have := huQ x hx
              exact ⟨this.2.2.2.1, this.2.2.1⟩
          · rw [homeAt_app h.q0.2, List.length_append]
            have := h.q0
            exact ⟨this.1, by omega⟩
          · rw [List.nodup_append]
            exact ⟨h.nodup, hnodup, fun a ha b hb e => (huQ b hb).1 (e ▸ ha)⟩
          · intro x
            rw [bits_left_mem, h.unf, nb_preds nd hg, List.mem_append]
            constructor
            · rintro ⟨⟨h3, h4, h5⟩, h6⟩
              refine ⟨h3, h4, ?_⟩
              rcases h5 with h5 | h5
              · exact .inl fun h7 => h7.elim h5 fun h8 => h6 (huQ x h8).2.2.2.2
              · exact .inr h5
            · rintro ⟨h3, h4, h5⟩
              refine ⟨⟨h3, h4, h5.imp (fun h6 h7 => h6 (.inl h7)) id⟩, fun h6 => ?_⟩
              rcases h5 with h5 | h5
              · exact h5 (.inr ((hmem x).2 ⟨⟨h3, h4, .inl fun h7 => h5 (.inl h7)⟩, h6⟩))
              · exact hsu (h5 ▸ (hmem x).2 ⟨⟨h3, h4, .inr h5⟩, h6⟩)
          · rw [hold s hsQ]
            exact h.ds
          · intro x hx
            rw [h2, if_neg fun hu => hx (List.mem_append_right _ hu)]
            exact h.dout x fun h3 => hx (List.mem_append_left _ h3)
          · intro x hx hxs
            rcases List.mem_append.1 hx with hx | hx
            · rw [hold x hx]
              exact h.sound x hx hxs
            · rw [hnew x hx]
              refine ⟨by omega, ?_⟩
              have h3 := (huQ x hx).2.2.2.2
              by_cases e : v = s
              · subst e
                rw [h.ds] at hd
                subst hd
                exact h3
              · have h4 := (h.sound v hvQ e).2
                rw [hd] at h4
                exact wk_step h3 (by omega) h4
          · intro j hj hjl u hsu' hun hnb
            have hjQ : j < Q.length := by omega
            rw [homeAt_app hjQ] at hnb ⊢
            rw [hold _ (homeAt_in hjQ)]
            rcases Nat.lt_or_ge j i with e | e
            · obtain ⟨h3, h4, h5⟩ := h.proc j e hjQ u hsu' hun hnb
              refine ⟨List.mem_append_left _ h3, h4, ?_⟩
              rw [hold u h3]
              exact h5
            · obtain rfl : j = i := by omega
              rw [hv] at hnb ⊢
              rw [hd]
              have hus' : u ≠ s := fun e => by
                subst e
                exact hsu ((hmem u).2 ⟨⟨Nat.le_refl _, hun, .inr rfl⟩, hnb⟩)
              rcases Classical.em (u ∈ Q) with h3 | h3
              · refine ⟨List.mem_append_left _ h3, hus', ?_⟩
                rw [hold u h3]
                obtain ⟨k, hk, rfl⟩ := homeAt_of h3
                exact hnear k hk
              · have h4 := (hmem u).2 ⟨⟨hsu', hun, .inl h3⟩, hnb⟩
                exact ⟨List.mem_append_right _ h4, hus', by rw [hnew u h4]; exact Nat.le_refl _⟩
          · intro j k hjk hk
            rcases Nat.lt_or_ge k Q.length with e | e
            · rw [homeAt_app e, homeAt_app (show j < Q.length by omega), hold _ (homeAt_in e), hold _ (homeAt_in (show j < Q.length by omega))]
              exact h.mono j k hjk e
            · rw [hnew _ (homeAt_app2 e hk)]
              rcases Nat.lt_or_ge j Q.length with e2 | e2
              · rw [homeAt_app e2, hold _ (homeAt_in e2)]
                exact hnear j e2
              · rw [hnew _ (homeAt_app2 e2 (by omega))]
                exact Nat.le_refl _
          · intro j hj hi1
            have h3 : d ≤ homeAt D' (homeAt (Q ++ us) (i + 1)) := by
              rcases Nat.lt_or_ge (i + 1) Q.length with e | e
              · rw [homeAt_app e, hold _ (homeAt_in e)]
                exact hmono1 (i + 1) (by omega) e
              · rw [hnew _ (homeAt_app2 e hi1)]
                omega
            rcases Nat.lt_or_ge j Q.length with e | e
            · rw [homeAt_app e, hold _ (homeAt_in e)]
              have := hnear j e
              omega
            · rw [hnew _ (homeAt_app2 e hj)]
              omega
          · rw [List.length_append]
            omega
    · rw [if_neg hi]
      exact .inl ⟨rfl, fun r _ => h.short hg hn r fun hl => absurd hl hi⟩
theorem bfs_begin (hs : s < n) (hn : n ≤ 10) : BI nd s n 0 (mask (List.range' s (n - s))) (List.replicate n 0) [s] := by
  refine ⟨by simp, fun x hx => ?_, ⟨rfl, by simp⟩, by simp, fun x => ?_, homeAt_rep n s, fun x _ => homeAt_rep n x, fun x hx hne => ?_, fun j hj => by omega, fun j k _ _ => ?_, fun j _ _ => ?_, by simp⟩
  · rw [List.mem_singleton] at hx
    omega
  · unfold bitsL
    simp only [List.mem_filter, mask_bit, List.mem_range, decide_eq_true_eq, List.mem_range'_1, List.mem_singleton]
    omega
  · rw [List.mem_singleton] at hx
    exact absurd hx hne
  · rw [homeAt_rep, homeAt_rep]
    exact Nat.le_refl _
  · rw [homeAt_rep]
    exact Nat.zero_le _
end
/-- The walk that leastWalk takes is the least one. -/
theorem walk_is {nd : List (List Nat)} (hg : Good nd) {s n below len : Nat} (hn : nd.length = n) {D : List Nat} (h : Found nd s n below len D) : ∀ (r v : Nat), r ≤ len → Wk nd s r v → (∀ r', r' < r → ¬ Wk nd s r' v) → v :: walkL nd D v (r - 1) = wkL nd s r v
  | 0, _, _, hw, _ => hw.elim
  | 1, v, _, hw, _ => by
    rw [wkL, if_pos (show s ∈ nb nd v from hw)]
    rfl
  | r + 2, v, hr, hw, hmin => by
    have hstep : stepTo nd D v (r + 1) = (nb nd v).find? fun y => decide (s < y) && !(wkL nd s (r + 1) y).isEmpty := by
      unfold stepTo
      refine find_congr _ fun y hy => ?_
      have hyn : y < n := by rw [← hn]; exact nb_lt hg hy
      rw [Bool.eq_iff_iff, decide_eq_true_eq, Bool.and_eq_true, empty_iff, wkL_iff, decide_eq_true_eq]
      constructor
      · exact fun e => h.mark y (r + 1) e (by omega) (by omega)
      · rintro ⟨h1, h2⟩
        obtain ⟨h3, h4⟩ := h.all y (r + 1) h1 hyn h2 (by omega)
        rcases Nat.lt_or_ge (homeAt D y) (r + 1) with h5 | h5
        · exact absurd (wk_step hy h1 (h.mark y _ rfl h3 (by omega)).2) (hmin _ (by omega))
        · omega
    show v :: walkL nd D v (r + 1) = _
    rw [wkL, walkL, hstep]
    cases hf : (nb nd v).find? fun y => decide (s < y) && !(wkL nd s (r + 1) y).isEmpty with
    | none =>
      have h1 := (wkL_iff nd s (r + 2) v).2 hw
      rw [wkL, hf] at h1
      exact absurd rfl h1
    | some y =>
      have h1 := List.find?_some hf
      have h2 := List.mem_of_find?_eq_some hf
      rw [Bool.and_eq_true, empty_iff, wkL_iff, decide_eq_true_eq] at h1
      have h3 := walk_is hg hn h (r + 1) y (by omega) h1.2 fun r' hr' hw' => hmin (r' + 1) (by omega) (wk_step h2 h1.1 hw')
      rw [Nat.add_sub_cancel] at h3
      simp only
      rw [h3]
theorem from_is {nd : List (List Nat)} (hg : Good nd) {s n : Nat} (below : Nat) (hn : nd.length = n) (hs : s < n) (hn10 : n ≤ 10) :
    (fromL nd (preds nd) s n below = [] ∧ ∀ r, r < below → ¬ Wk nd s r s) ∨ ∃ len, 1 ≤ len ∧ len < below ∧ Wk nd s len s ∧ (∀ r, r < len → ¬ Wk nd s r s) ∧ fromL nd (preds nd) s n below = wkL nd s len s := by
  unfold fromL bfsL
  rcases bfs_exact hg hn below 12 0 _ _ _ (by omega) (bfs_begin (nd := nd) hs hn10) with ⟨h1, h2⟩ | ⟨len, D, h1, h2⟩
  · rw [h1]
    exact .inl ⟨rfl, h2⟩
  · rw [h1]
    exact .inr ⟨len, wk_pos h2.walk, h2.lt, h2.walk, h2.least, walk_is hg hn h2 len s (Nat.le_refl _) h2.walk h2.least⟩
/-- What the least of the shortest cycles is, of those that begin below k. -/
def IsCyc (nx : List (List Nat)) (n k : Nat) (c : List Nat) : Prop :=
  (c = [] ∧ ∀ s, s < k → ∀ r, r ≤ n → ¬ Wk nx s r s) ∨ ∃ L s, 1 ≤ L ∧ L ≤ n ∧ s < k ∧ Wk nx s L s ∧ c = wkL nx s L s ∧ (∀ t, t < k → ∀ r, r < L → ¬ Wk nx t r t) ∧ ∀ t, t < s → ¬ Wk nx t L t
theorem IsCyc.same {nx : List (List Nat)} {n k : Nat} {c d : List Nat} (h : IsCyc nx n k c) (h' : IsCyc nx n k d) : c = d := by
  rcases h with ⟨rfl, h1⟩ | ⟨L, s, a1, a2, a3, a4, rfl, a5, a6⟩
  · rcases h' with ⟨rfl, _⟩ | ⟨L, s, a1, a2, a3, a4, rfl, a5, a6⟩
    · rfl
    · exact absurd a4 (h1 s a3 L a2)
  · rcases h' with ⟨rfl, h1⟩ | ⟨L', s', b1, b2, b3, b4, rfl, b5, b6⟩
    · exact absurd a4 (h1 s a3 L a2)
    · have e1 : L = L' := by
        rcases Nat.lt_trichotomy L L' with e | e | e
        · exact absurd a4 (b5 s a3 L e)
        · exact e
        · exact absurd b4 (a5 s' b3 L' e)
      subst e1
      have e2 : s = s' := by
        rcases Nat.lt_trichotomy s s' with e | e | e
        · exact absurd a4 (b6 s e)
        · exact e
        · exact absurd b4 (a6 s' e)
      subst e2
      rfl
theorem short_is {nd : List (List Nat)} (hg : Good nd) {n : Nat} (hn : nd.length = n) (hn10 : n ≤ 10) : ∀ k, k ≤ n →
    (shortTo nd (preds nd) n k = ([], n + 1) ∧ ∀ s, s < k → ∀ r, r ≤ n → ¬ Wk nd s r s) ∨ ∃ L s, 1 ≤ L ∧ L ≤ n ∧ s < k ∧ Wk nd s L s ∧ shortTo nd (preds nd) n k = (wkL nd s L s, L) ∧ (∀ t, t < k → ∀ r, r < L → ¬ Wk nd t r t) ∧ ∀ t, t < s → ¬ Wk nd t L t
  | 0, _ => .inl ⟨rfl, fun s hs => by omega⟩
  | k + 1, hk => by
    have ih := short_is hg hn hn10 k (by omega)
    rw [shortTo]
    by_cases he : (nb nd k).length = 0
    · rw [if_pos he]
      have hno : ∀ r, ¬ Wk nd k r k := fun r hw => by
        have h0 := List.eq_nil_of_length_eq_zero he
        cases r with
        | zero => exact hw
        | succ r =>
          cases r with
          | zero => rw [Wk, h0] at hw; cases hw
          | succ r =>
            obtain ⟨y, hy, _⟩ := hw
            rw [h0] at hy
            cases hy
      rcases ih with ⟨h1, h2⟩ | ⟨L, s, h1, h2, h3, h4, h5, h6, h7⟩
      · refine .inl ⟨h1, fun s hs r hr => ?_⟩
        rcases Nat.lt_or_ge s k with e | e
        · exact h2 s e r hr
        · obtain rfl : s = k := by omega
          exact hno r
      · refine .inr ⟨L, s, h1, h2, by omega, h4, h5, fun t ht r hr => ?_, h7⟩
        rcases Nat.lt_or_ge t k with e | e
        · exact h6 t e r hr
        · obtain rfl : t = k := by omega
          exact hno r
    · rw [if_neg he]
      rcases ih with ⟨h1, h2⟩ | ⟨L, s, h1, h2, h3, h4, h5, h6, h7⟩
      · rw [h1]
        rcases from_is hg (s := k) (n + 1) hn (by omega) hn10 with ⟨f1, f2⟩ | ⟨len, f1, f2, f3, f4, f5⟩
        · rw [f1]
          refine .inl ⟨rfl, fun s hs r hr => ?_⟩
          rcases Nat.lt_or_ge s k with e | e
          · exact h2 s e r hr
          · obtain rfl : s = k := by omega
            exact f2 r (by omega)
        · have hw := (wkL_iff nd k len k).2 f3
          have hwl := wkL_len nd k len k hw
          rw [f5]
          refine .inr ⟨len, k, f1, by omega, by omega, f3, ?_, fun t ht r hr => ?_, fun t ht => h2 t ht len (by omega)⟩
          · cases hc : wkL nd k len k with
            | nil => exact absurd hc hw
            | cons a l =>
              rw [hc] at hwl
              simp only [hwl]
          · rcases Nat.lt_or_ge t k with e | e
            · exact h2 t e r (by omega)
            · obtain rfl : t = k := by omega
              exact f4 r hr
      · rw [h5]
        rcases from_is hg (s := k) L hn (by omega) hn10 with ⟨f1, f2⟩ | ⟨len, f1, f2, f3, f4, f5⟩
        · simp only [f1]
          refine .inr ⟨L, s, h1, h2, by omega, h4, rfl, fun t ht r hr => ?_, h7⟩
          rcases Nat.lt_or_ge t k with e | e
          · exact h6 t e r hr
          · obtain rfl : t = k := by omega
            exact f2 r hr
        · have hw := (wkL_iff nd k len k).2 f3
          have hwl := wkL_len nd k len k hw
          simp only [f5]
          refine .inr ⟨len, k, f1, by omega, by omega, f3, ?_, fun t ht r hr => ?_, fun t ht => h6 t ht len f2⟩
          · cases hc : wkL nd k len k with
            | nil => exact absurd hc hw
            | cons a l =>
              rw [hc] at hwl
              simp only [hwl]
          · rcases Nat.lt_or_ge t k with e | e
            · exact h6 t e r (by omega)
            · obtain rfl : t = k := by omega
              exact f4 r hr
theorem shortL_is {nd : List (List Nat)} (hg : Good nd) {n : Nat} (hn : nd.length = n) (hn10 : n ≤ 10) : IsCyc nd n n (shortL nd (preds nd) n) := by
  unfold shortL
  rcases short_is hg hn hn10 n (Nat.le_refl _) with ⟨h1, h2⟩ | ⟨L, s, h1, h2, h3, h4, h5, h6, h7⟩
  · rw [h1]
    exact .inl ⟨rfl, h2⟩
  · rw [h5]
    exact .inr ⟨L, s, h1, h2, h3, h4, rfl, h6, h7⟩
end Go.Proofs.YtdebnnigbbjbcaaDoor

namespace Go.Proofs.YtdebnnigbbjbcaaDoor
open Go Go.RowKit Go.Proofs

theorem Groups.form {W : World} {B : Nat} {gv : Value} {l : List Nat} (h : Groups W B gv l) : ∃ A q c, gv = .slice A q c := by
  rcases h with ⟨_, h⟩ | ⟨_, gb, cap, h, _⟩
  · exact ⟨_, _, _, h⟩
  · exact ⟨_, _, _, h⟩

set_option maxRecDepth 100000 in
set_option maxHeartbeats 4000000 in
theorem short_any (g lo hi g2 lo2 hi2 c c2 n : Nat) (cs cs2 : Array Value) (nx bs : List (List Nat)) (w : World) (hnx : nx.length = n) (hbs : bs.length = n) (hn : n ≤ 10) (hR : Rows2 w lo hi g cs nx) (hh : hi ≤ w.heap.size) (hg : Good nx)
    (hR2 : Rows2 w lo2 hi2 g2 cs2 bs) (hh2 : hi2 ≤ w.heap.size) (hsl : ∀ v x, x ∈ nb bs v → x < n) (hbl : ∀ v, (nb bs v).length ≤ 1000) (hT : Tab w)
    (hlead : ∀ s below len D, s < n → below ≤ n + 1 → bfsL bs s n below = some (len, D) → LeadsL nx D s (len - 1)) :
    Calls Tryd.prog 40 #[.slice (some ⟨g, 0, none⟩) n c, .slice (some ⟨g2, 0, none⟩) n c2] w fun e w' => ∃ v, e = .returned v ∧ Own w' w.heap.size v (shortL nx bs n) ∧ Below w.heap.size w w' := by
  have hmk := make_groups n (by omega)
  have htb : 0 < w.heap.size := World.block_lt_of_cell? w _ (hT 0 (by omega))
  have hgin := hR.gin
  have hgin2 := hR2.gin
  obtain ⟨w0, hw0⟩ : ∃ W, w.alloc (.cells (Array.replicate n (.slice none 0 0)) 87) = W := ⟨_, rfl⟩
  have hb0 : Below w.heap.size w w0 := by rw [← hw0]; exact (Below.refl _ _).alloc (Nat.le_refl _) _
  have hc0 : SrcTo w0 w.heap.size n 0 bs := ⟨_, by rw [← hw0]; exact World.alloc_heap_new w _, by simp, fun v hv => absurd hv (Nat.not_lt_zero _)⟩
  have HW0 := Lib.hid hw0
  have HC0 := Lib.hid hc0
  have HN := Lib.hid hnx
  have HN2 := Lib.hid hbs
  have HR := Lib.hid hR
  have HR2 := Lib.hid hR2
  have HG := Lib.hid hg
  have HSL := Lib.hid hsl
  have HBL := Lib.hid hbl
  have HT := Lib.hid hT
  have HLD := Lib.hid hlead
  clear hw0 hc0 hnx hbs hR hR2 hg hsl hbl hT hlead
  go_enter Tryd.func40, Tryd.ntmps40
  go_wp2_with fail
  rw [HW0.out]
  go_loopw [18] (fun i wr => ∃ k : Nat, k ≤ n ∧ i = .int .i64 (k : Int) ∧ SrcTo wr w.heap.size n k bs ∧ Below w.heap.size w wr) (fun i _ => n - (intOf i).toNat)
  case atStart => exact ⟨0, Nat.zero_le _, rfl, HC0.out, hb0⟩
  case round =>
    obtain ⟨k, hk, rfl, hSk, hB⟩ := hrel
    by_cases hlt : k < n
    · obtain ⟨v, l, hv, hl, ho, hcv⟩ := HR2.out.at_ (i := k) (by rw [HN2.out]; exact hlt)
      have hnb : nb bs k = l := by unfold nb; rw [hl]; rfl
      obtain ⟨A3, c3, rfl, hlc, hcm⟩ := ho.slice
      have hcw : wr.cell? ⟨g2, k, none⟩ = some (.slice A3 l.length c3) := (hB.cell (p := ⟨g2, k, none⟩) (by show g2 < _; omega)).trans hcv
      have ho1 : Own wr lo2 (.slice A3 l.length c3) l := ho.keep fun b hb => hB.block b (ho.lt b hb).2
      have hll : l.length ≤ 1000 := by rw [← hnb]; exact HBL.out k
      have HGR := Lib.hid (groups_any A3 l.length c3 l wr ho1.lst.2.ints hll (fun x hx => by have := HSL.out k x (by rw [hnb]; exact hx); omega))
      have hfz : wr.frozen? ⟨w.heap.size, k, none⟩ = false := by
        obtain ⟨C, h1, _⟩ := hSk
        simp [World.frozen?, h1]
      have hce : ∃ y, wr.cell? ⟨w.heap.size, k, none⟩ = some y := by
        obtain ⟨C, h1, h2, _⟩ := hSk
        exact ⟨_, by rw [cell_of_row wr w.heap.size k C _ (0, 0) h1, Array.getElem?_eq_getElem (by omega)]⟩
      obtain ⟨y, hy⟩ := hce
      have hsz : w.heap.size < wr.heap.size := World.block_lt_of_cell? wr _ hy
      have HNB := Lib.hid hnb
      have HSK := Lib.hid hSk
      clear hv hl ho ho1 hcv hnb hSk
      go_wp2_with (go_at_call 58
                   refine HGR.out.mono ?_
                   rintro e w3 ⟨gv, rfl, hgv, hB3⟩
                   obtain ⟨A4, q4, c4, rfl⟩ := hgv.form
                   have hf3 : w3.frozen? ⟨w.heap.size, k, none⟩ = false := (World.frozen?_of_block (w := wr) (hB3.block _ hsz)).trans hfz
                   have hy3 : w3.cell? ⟨w.heap.size, k, none⟩ = some y := (World.cell?_of_block (w := wr) (hB3.block _ hsz)).trans hy
                   have HGV := Lib.hid hgv
                   have HB3 := Lib.hid hB3
                   clear hgv hB3)
      go_roundw
      case rel =>
        have hs3 := HB3.out.size
        refine ⟨k + 1, by omega, by go_num, HSK.out.step hlt HB3.out (by rw [HNB.out]; exact HGV.out), (hB.trans (HB3.out.mono (by omega))).setCell (p := ⟨w.heap.size, k, none⟩) (Nat.le_refl _) _⟩
      case measure => simp [intOf]; omega
    · obtain rfl : n = k := by omega
      obtain ⟨wa, hwa⟩ : ∃ W, W = wr := ⟨_, rfl⟩
      subst hwa
      have HSR := Lib.hid hSk.all
      clear hSk hmk
      go_wp2_with fail
      go_loopw [8, 9, 34] (fun sv bl i wr => ∃ k : Nat, k ≤ n ∧ i = .int .i64 (k : Int) ∧ bl = .int .i64 (((shortTo nx bs n k).2 : Nat) : Int) ∧ Own wr w.heap.size sv (shortTo nx bs n k).1 ∧ Below wa.heap.size wa wr) (fun _ _ i _ => n - (intOf i).toNat)
      case atStart => exact ⟨0, Nat.zero_le _, rfl, by simp [shortTo], Own.nil _ _, Below.refl _ _⟩
      case round =>
        obtain ⟨k, hk, rfl, rfl, ho, hBk⟩ := hrel
        have hsa := hB.size
        have hBw : Below w.heap.size w wr := hB.trans (hBk.mono hsa)
        have HO := Lib.hid ho
        by_cases hlt : k < n
        · obtain ⟨v, l, hv, hl, hol, hcv⟩ := HR.out.at_ (i := k) (by rw [HN.out]; exact hlt)
          have hnb : nb nx k = l := by unfold nb; rw [hl]; rfl
          obtain ⟨A3, c3, rfl, hlc, hcm⟩ := hol.slice
          have hcw : wr.cell? ⟨g, k, none⟩ = some (.slice A3 l.length c3) := (hBw.cell (p := ⟨g, k, none⟩) (by show g < _; omega)).trans hcv
          obtain ⟨p, hp⟩ : ∃ p, shortTo nx bs n k = p := ⟨_, rfl⟩
          obtain ⟨sh, b⟩ := p
          have hb11 : b ≤ n + 1 := by
            have := short_le nx bs n k
            rw [hp] at this
            exact this
          rw [hp] at HO
          have HP := Lib.hid hp
          rw [hp]
          have hll : l.length ≤ 1000 := by
            have := nb_short nx HG.out k
            rw [hnb, HN.out] at this
            omega
          by_cases hl0 : l.length = 0
          · have hnext : shortTo nx bs n (k + 1) = (sh, b) := by rw [shortTo, if_pos (by rw [hnb]; exact hl0), hp]
            have HNX := Lib.hid hnext
            rw [hl0] at hcw
            clear hv hl hol hcv hnb ho hnext hp
            go_wp2_with fail
            go_roundw
            case rel => exact ⟨k + 1, by omega, by go_num, by rw [HNX.out], by rw [HNX.out]; exact HO.out, hBk⟩
            case measure => simp [intOf]; omega
          · have HFR := Lib.hid (from_list g lo hi w.heap.size c n k n b cs nx bs wr HN.out hn (HR.out.keep fun x _ hx => hBw.block x (by omega)) (by have := hBw.size; omega) HG.out (HSR.out.below hBk) HSL.out hlt (by omega) (HT.out.keep (hBw.block _ htb)) (fun len D h => HLD.out k b len D hlt hb11 h))
            have hnext : ∀ CL, fromL nx bs k n b = CL → shortTo nx bs n (k + 1) = if CL = [] then (sh, b) else (CL, CL.length) := fun CL h => by
              rw [shortTo, if_neg (by rw [hnb]; exact hl0), hp, h]
              rcases CL with _ | ⟨a, l⟩ <;> simp
            have HNX := Lib.hid hnext
            have hl1 : ((l.length : Int) == 0) = false := by rw [beq_eq_false_iff_ne]; omega
            clear hv hl hol hcv hnb ho hnext hp
            go_wp2_with (go_at_call 59
                         refine HFR.out.mono ?_
                         rintro e w5 ⟨v5, CL, rfl, hCL, h5, hB5⟩
                         have HB5 := Lib.hid hB5
                         have HX5 := Lib.hid (HNX.out CL hCL)
                         clear hB5 hCL
                         rcases h5 with ⟨rfl, rfl⟩ | ⟨h50, h51, h52⟩
                         rotate_left
                         obtain ⟨g5, c5, rfl, h53, h54, h55, h56⟩ := h52.form h50
                         have HO5 := Lib.hid h52
                         clear h52)
            · go_roundw
              case rel =>
                have hx : shortTo nx bs n (k + 1) = (CL, CL.length) := by
                  rw [HX5.out, if_neg]
                  rintro rfl
                  simp at h50
                exact ⟨k + 1, by omega, by go_num, by rw [hx], by rw [hx]; exact HO5.out.base_ fun x hx => by have h1 := (HO5.out.lt x hx).1; have h2 := hBw.size; omega, hBk.trans (HB5.out.mono hBk.size)⟩
              case measure => simp [intOf]; omega
            · go_roundw
              case rel =>
                have hx : shortTo nx bs n (k + 1) = (sh, b) := by rw [HX5.out]; simp
                exact ⟨k + 1, by omega, by go_num, by rw [hx], by rw [hx]; exact HO.out.keep fun x hx => HB5.out.block x (HO.out.lt x hx).2, hBk.trans (HB5.out.mono hBk.size)⟩
              case measure => simp [intOf]; omega
        · obtain rfl : n = k := by omega
          obtain ⟨A3, c3, rfl, hlc, hcm⟩ := ho.slice
          clear ho
          go_wp2_with fail
          go_ret
          exact ⟨_, rfl, HO.out, hBw⟩
end Go.Proofs.YtdebnnigbbjbcaaDoor

namespace Go.Proofs.YtdebnnigbbjbcaaDoor
open Go Go.RowKit Go.Proofs

set_option maxHeartbeats 1000000 in
theorem comps_any (n m c : Nat) (A : Option Addr) (E : List (Nat × Nat)) (w : World) (hn : n ≤ 1000) (hm : m ≤ 1000) (hE : Edg w w.heap.size A m E) (hd : ∀ e ∈ E, e.1 < n ∧ e.2 < n) :
    Calls Tryd.prog 24 #[.int .i64 n, .slice A m c] w fun e w' => ∃ av ys B, e = .returned av ∧ w.heap.size ≤ B ∧ All w' B av ys ∧ ys.Perm (partsOf (succs n E)) ∧ ys.Pairwise (fun a b => cmpL a b ≤ 0) ∧ Below w.heap.size w w' := by
  have HSU := Lib.hid (successors_any sort_own compact_own n m c A E w hn hm hE hd)
  clear hE hd
  go_enter Tryd.func24, Tryd.ntmps24
  go_wp2_with (first
    | (go_at_call 29
       refine HSU.out.mono ?_
       rintro e w1 ⟨g, cs, rfl, hR, hb1⟩
       have HCO := Lib.hid (components_any g w.heap.size w1.heap.size n cs (succs n E) w1 (by rw [succs_len]; exact hn) hR (Nat.le_refl _) (succs_good n E))
       rw [succs_len] at HCO
       clear hR)
    | (go_at_call 39
       refine HCO.out.mono ?_
       rintro e w2 ⟨av, ys, rfl, hA, hP, hW, hb2⟩
       have HA := Lib.hid hA
       have HP := Lib.hid hP
       have HW := Lib.hid hW
       clear hA hP hW))
  go_ret
  exact ⟨_, _, _, rfl, hb1.size, HA.out, HP.out, HW.out, hb1.trans (hb2.mono hb1.size)⟩
end Go.Proofs.YtdebnnigbbjbcaaDoor

namespace Go.Proofs.YtdebnnigbbjbcaaDoor
open Go Go.RowKit Go.Proofs

theorem compFold_lt (pn : List (List Nat)) (n : Nat) (l : List Nat) (s : List Bool × List (List Nat)) (hs : s.1.length = n) (hl : ∀ c ∈ s.2, ∀ x ∈ c, x < n) : ∀ c ∈ (compFold pn n l s).2, ∀ x ∈ c, x < n := by
  induction l generalizing s with
  | nil => exact hl
  | cons v vs ih =>
    refine ih (compStep pn n s v) ((dfs_step pn (n + 1) v (s.1, [])).len.trans hs) fun c hc => ?_
    unfold compStep at hc
    split at hc
    · exact hl c hc
    · rcases List.mem_append.1 hc with hc | hc
      · exact hl c hc
      · rw [List.mem_singleton] at hc
        subst hc
        intro x hx
        unfold sortN at hx
        rw [List.mem_mergeSort] at hx
        exact dfs_out_lt pn n (n + 1) v (s.1, []) hs (fun _ h => by cases h) x hx
theorem parts_ok (nx : List (List Nat)) : (partsOf nx).length ≤ nx.length ∧ ∀ c ∈ partsOf nx, c.length ≤ nx.length ∧ ∀ x ∈ c, x < nx.length := by
  obtain ⟨_, _, h1, h2⟩ := compFold_len (preds nx) nx.length nx.length (leftOf nx).reverse (List.replicate nx.length false, []) (by rw [unv_rep]; exact Nat.le_refl _) (fun x hx => by cases hx) (by rw [unv_rep]; simp)
  have h3 := compFold_lt (preds nx) nx.length (leftOf nx).reverse (List.replicate nx.length false, []) (by simp) (fun c hc => by cases hc)
  unfold partsOf
  exact ⟨by omega, fun c hc => ⟨h1 c hc, h3 c hc⟩⟩
theorem dropL_len (nx ys : List (List Nat)) : (dropL nx ys).length = nx.length := dropTo_len _ _ _
theorem dropL_good (nx ys : List (List Nat)) (hg : Good nx) : Good (dropL nx ys) := by
  intro l hl
  rw [dropL_len]
  unfold dropL dropTo at hl
  obtain ⟨v, hv, rfl⟩ := List.mem_map.1 hl
  rw [List.mem_range] at hv
  have h1 : nb nx v ∈ nx := by
    unfold nb
    rw [List.getElem?_eq_getElem hv]
    exact List.getElem_mem hv
  rw [if_pos hv]
  unfold dropRow
  exact ⟨filter_sorted _ (hg _ h1).1, fun w hw => (hg _ h1).2 w (List.mem_filter.1 hw).1⟩

set_option maxHeartbeats 2000000 in
theorem cycle_any (n m c : Nat) (A : Option Addr) (E : List (Nat × Nat)) (w : World) (hn : n ≤ 10) (hm : m ≤ 1000) (hE : Edg w w.heap.size A m E) (hd : ∀ e ∈ E, e.1 < n ∧ e.2 < n) (hT : Tab w)
    (hlead : ∀ ys, ys.Perm (partsOf (succs n E)) → ∀ s below len D, s < n → below ≤ n + 1 → bfsL (preds (dropL (succs n E) ys)) s n below = some (len, D) → LeadsL (dropL (succs n E) ys) D s (len - 1)) :
    Calls Tryd.prog 21 #[.int .i64 n, .slice A m c] w fun e w' => ∃ v ys, e = .returned v ∧ ys.Perm (partsOf (succs n E)) ∧ ys.Pairwise (fun a b => cmpL a b ≤ 0) ∧ Own w' w.heap.size v (shortL (dropL (succs n E) ys) (preds (dropL (succs n E) ys)) n) ∧ Below w.heap.size w w' := by
  have HSU := Lib.hid (successors_any sort_own compact_own n m c A E w (by omega) hm hE hd)
  have htb : 0 < w.heap.size := World.block_lt_of_cell? w _ (hT 0 (by omega))
  have HT := Lib.hid hT
  have HLD := Lib.hid hlead
  obtain ⟨nx, hnx⟩ : ∃ nx, succs n E = nx := ⟨_, rfl⟩
  have hlen : nx.length = n := by rw [← hnx, succs_len]
  have hgd : Good nx := by rw [← hnx]; exact succs_good n E
  rw [hnx] at HSU HLD ⊢
  clear hE hd hnx hT hlead
  go_enter Tryd.func21, Tryd.ntmps21
  go_wp2_with (first
    | (go_at_call 29
       refine HSU.out.mono ?_
       rintro e w1 ⟨g, cs, rfl, hR, hb1⟩
       have HR := Lib.hid hR
       have hgg := hR.gin
       have HCO := Lib.hid (components_any g w.heap.size w1.heap.size n cs nx w1 (by omega) hR (Nat.le_refl _) hgd)
       rw [hlen] at HCO
       clear hR)
    | (go_at_call 39
       refine HCO.out.mono ?_
       rintro e w2 ⟨av, ys, rfl, hA, hP, hW, hb2⟩
       have hA' := hA
       obtain ⟨vs, hov, _⟩ := hA'
       obtain ⟨A2, c2, rfl, _, _⟩ := own_slice hov
       have hpo := parts_ok nx
       have HDR := Lib.hid (drop_any g w.heap.size w1.heap.size n w1.heap.size ys.length c2 A2 cs nx ys w2 (by omega) (HR.out.keep fun b _ hb => hb2.block b hb) hb2.size hgd hA (by have := hP.length_eq; omega) (fun l hl => ⟨by have := (hpo.2 l (hP.mem_iff.1 hl)).1; omega, (hpo.2 l (hP.mem_iff.1 hl)).2⟩))
       rw [hlen] at HDR
       have HP := Lib.hid hP
       have HW := Lib.hid hW
       clear hA hP hW hov)
    | (go_at_call 38
       refine HDR.out.mono ?_
       rintro e w3 ⟨rfl, ds, hR3, hC3⟩
       have hdl := (dropL_len nx ys).trans hlen
       have hdg := dropL_good nx ys hgd
       have hs2 := hb2.size
       have hs3 := hC3.size
       have HPR := Lib.hid (predecessors_any g w.heap.size w1.heap.size n ds (dropL nx ys) w3 (by omega) hR3 (by omega) hdg)
       rw [hdl] at HPR
       have HR3 := Lib.hid hR3
       have HC3 := Lib.hid hC3
       clear hR3 hC3)
    | (go_at_call 41
       refine HPR.out.mono ?_
       rintro e w4 ⟨g4, es, rfl, hR4, hb4⟩
       have hs4 := hb4.size
       have hs1 := hb1.size
       have hB4 : Below w.heap.size w w4 := ((hb1.trans (hb2.mono hs1)).trans (HC3.out.below (fun b _ h => h.1) (by omega))).trans (hb4.mono (by omega))
       have HSH := Lib.hid (short_any g w.heap.size w1.heap.size g4 w3.heap.size w4.heap.size n n n ds es (dropL nx ys) (preds (dropL nx ys)) w4 hdl ((preds_len _).trans hdl) hn (HR3.out.keep fun b _ hb => hb4.block b (by omega)) (by omega) hdg hR4 (Nat.le_refl _) (fun v x hx => by
         have h1 := (nb_preds (dropL nx ys) hdg x v).1 hx
         rcases Nat.lt_or_ge x n with h | h
         · exact h
         · unfold nb at h1
           rw [List.getElem?_eq_none (by omega)] at h1
           cases h1) (fun v => by have := nb_short (preds (dropL nx ys)) (preds_good _) v; rw [preds_len, hdl] at this; omega) (HT.out.keep (hB4.block _ htb)) (fun s below len D h1 h2 h3 => HLD.out ys HP.out s below len D h1 h2 h3))
       have HB4 := Lib.hid hB4
       clear hR4 hB4)
    | (go_at_call 40
       refine HSH.out.mono ?_
       rintro e w5 ⟨v5, rfl, ho5, hb5⟩
       have HO5 := Lib.hid ho5
       have HB5 := Lib.hid hb5
       clear ho5 hb5))
  go_ret
  have hs5 := HB4.out.size
  exact ⟨_, ys, rfl, HP.out, HW.out, HO5.out.base_ fun b hb => by have := (HO5.out.lt b hb).1; omega, HB4.out.trans (HB5.out.mono hs5)⟩
end Go.Proofs.YtdebnnigbbjbcaaDoor

namespace Go.Proofs.YtdebnnigbbjbcaaDoor
open Go Go.RowKit Go.Proofs

theorem homeSet_at (i x : Nat) : ∀ (c H : List Nat), (∀ v ∈ c, v < H.length) → homeAt (homeSet H i c) x = if x ∈ c then i else homeAt H x
  | [], H, _ => by simp [homeSet]
  | v :: c, H, h => by
    have h1 : homeSet H i (v :: c) = homeSet (H.set v i) i c := rfl
    rw [h1, homeSet_at i x c (H.set v i) (fun u hu => by rw [List.length_set]; exact h u (by simp [hu])), homeAt_set]
    by_cases e1 : x ∈ c
    · simp [e1]
    · by_cases e2 : v = x
      · subst e2
        simp [h v (by simp)]
      · rw [if_neg e1, if_neg (fun h => e2 h.1), if_neg (fun h => by
          rcases List.mem_cons.1 h with h | h
          · exact e2 h.symm
          · exact e1 h)]
theorem nodup_inj {α : Type} {l : List α} (h : l.Nodup) {i j : Nat} (hi : i < l.length) (hj : j < l.length) (e : l[i] = l[j]) : i = j := by
  have hp := List.pairwise_iff_getElem.1 h
  rcases Nat.lt_trichotomy i j with k | k | k
  · exact absurd e (hp i j hi hj k)
  · exact k
  · exact absurd e.symm (hp j i hj hi k)
section
variable {nx : List (List Nat)} {n : Nat} {ys : List (List Nat)}
theorem home_is (hn : nx.length = n) (hys : ∀ c ∈ ys, ∃ v, v < n ∧ c = cls nx v) (hnd : ys.Nodup) {x j : Nat} (hx : x < n) (hj : ys[j]? = some (cls nx x)) : ∀ K, j < K → K ≤ ys.length → homeAt (homeTo n ys K) x = j
  | 0, h, _ => by omega
  | K + 1, h, hK => by
    have hnb : nb ys K = ys[K] := by unfold nb; rw [List.getElem?_eq_getElem (by omega)]; rfl
    obtain ⟨v, hv, hc⟩ := hys ys[K] (List.getElem_mem (by omega))
    have hlt : ∀ u ∈ nb ys K, u < (homeTo n ys K).length := fun u hu => by
      rw [homeTo_len]
      rw [hnb, hc] at hu
      have := (cls_mem.1 hu).1
      omega
    rw [homeTo_succ, homeSet_at K x _ _ hlt]
    by_cases hm : x ∈ nb ys K
    · rw [if_pos hm]
      rw [hnb, hc] at hm
      have h1 := cls_eq (cls_mem.1 hm).2
      obtain ⟨hjl, hje⟩ := List.getElem?_eq_some_iff.1 hj
      have h2 : ys[K] = ys[j] := by rw [hc, hje, h1]
      exact nodup_inj hnd (by omega) hjl h2
    · rw [if_neg hm]
      have hne : K ≠ j := fun e => by
        subst e
        apply hm
        rw [hnb]
        obtain ⟨_, hje⟩ := List.getElem?_eq_some_iff.1 hj
        rw [hje]
        exact cls_mem.2 ⟨by omega, .refl nx x⟩
      exact home_is hn hys hnd hx hj K (by omega) (by omega)
theorem same_home (hn : nx.length = n) (hys : ∀ c, c ∈ ys ↔ ∃ v, v < n ∧ c = cls nx v) (hnd : ys.Nodup) {x y : Nat} (hx : x < n) (hy : y < n) : homeAt (homeTo n ys ys.length) x = homeAt (homeTo n ys ys.length) y ↔ Both nx x y := by
  obtain ⟨i, hi, ei⟩ := List.mem_iff_getElem.1 ((hys (cls nx x)).2 ⟨x, hx, rfl⟩)
  obtain ⟨j, hj, ej⟩ := List.mem_iff_getElem.1 ((hys (cls nx y)).2 ⟨y, hy, rfl⟩)
  have hsub : ∀ c ∈ ys, ∃ v, v < n ∧ c = cls nx v := fun c hc => (hys c).1 hc
  rw [home_is hn hsub hnd hx (by rw [List.getElem?_eq_getElem hi, ei]) ys.length hi (Nat.le_refl _), home_is hn hsub hnd hy (by rw [List.getElem?_eq_getElem hj, ej]) ys.length hj (Nat.le_refl _)]
  constructor
  · intro e
    subst e
    exact (cls_of_eq (by rw [hn]; exact hx) (ei.symm.trans ej)).symm
  · intro e
    have h2 : ys[i] = ys[j] := by rw [ei, ej, cls_eq e]
    exact nodup_inj hnd hi hj h2
theorem drop_nb (hn : nx.length = n) {v : Nat} (hv : v < n) : nb (dropL nx ys) v = (nb nx v).filter fun w => decide (homeAt (homeTo n ys ys.length) w = homeAt (homeTo n ys ys.length) v) := by
  unfold dropL
  rw [hn]
  have h1 := dropTo_at nx (homeTo n ys ys.length) n (v := v) (by omega)
  rw [if_pos hv] at h1
  show (dropTo nx (homeTo n ys ys.length) n)[v]?.getD [] = _
  rw [h1]
  rfl
end
theorem find_filter (p q : Nat → Bool) : ∀ l : List Nat, (l.filter p).find? q = l.find? fun a => p a && q a
  | [] => rfl
  | a :: l => by
    rw [List.filter_cons, List.find?_cons]
    cases hp : p a with
    | true =>
      rw [if_pos rfl, List.find?_cons, find_filter p q l]
      simp
    | false =>
      rw [if_neg (by simp), find_filter p q l]
      simp
theorem wk_rch {nx : List (List Nat)} {s : Nat} : ∀ r x, Wk nx s r x → Rch nx x s
  | 0, _, h => h.elim
  | 1, _, h => Rch.one h
  | r + 2, _, ⟨_, hy, _, hw⟩ => .head hy (wk_rch (r + 1) _ hw)
theorem wkL_drop {nx : List (List Nat)} {n : Nat} {ys : List (List Nat)} (hg : Good nx) (hn : nx.length = n) (hys : ∀ c, c ∈ ys ↔ ∃ v, v < n ∧ c = cls nx v) (hnd : ys.Nodup) (s : Nat) : ∀ r x, x < n → Rch nx s x → wkL nx s r x = wkL (dropL nx ys) s r x
  | 0, _, _, _ => rfl
  | 1, x, hx, hr => by
    have hsn : s ∈ nb nx x → s < n := fun h => by rw [← hn]; exact nb_lt hg h
    have : s ∈ nb nx x ↔ s ∈ nb (dropL nx ys) x := by
      rw [drop_nb hn hx, List.mem_filter, decide_eq_true_eq]
      constructor
      · exact fun h => ⟨h, (same_home hn hys hnd (hsn h) hx).2 ⟨hr, .one h⟩⟩
      · exact fun h => h.1
    rw [wkL, wkL]
    by_cases h : s ∈ nb nx x
    · rw [if_pos h, if_pos (this.1 h)]
    · rw [if_neg h, if_neg (fun h2 => h (this.2 h2))]
  | r + 2, x, hx, hr => by
    have hf : (nb nx x).find? (fun y => decide (s < y) && !(wkL nx s (r + 1) y).isEmpty) = (nb (dropL nx ys) x).find? (fun y => decide (s < y) && !(wkL (dropL nx ys) s (r + 1) y).isEmpty) := by
      rw [drop_nb hn hx, find_filter]
      refine find_congr _ fun y hy => ?_
      have hyn : y < n := by rw [← hn]; exact nb_lt hg hy
      have ih := wkL_drop hg hn hys hnd s (r + 1) y hyn (hr.tail hy)
      rw [← ih]
      by_cases he : wkL nx s (r + 1) y = []
      · rw [he]; simp
      · have hb : Both nx y x := ⟨(wk_rch _ _ ((wkL_iff nx s (r + 1) y).1 he)).trans hr, .one hy⟩
        rw [decide_eq_true ((same_home hn hys hnd hyn hx).2 hb)]
        simp
    rw [wkL, wkL, ← hf]
    cases hq : (nb nx x).find? fun y => decide (s < y) && !(wkL nx s (r + 1) y).isEmpty with
    | none => rfl
    | some y =>
      have hm := List.mem_of_find?_eq_some hq
      simp only
      rw [wkL_drop hg hn hys hnd s (r + 1) y (by rw [← hn]; exact nb_lt hg hm) (hr.tail hm)]
theorem IsCyc.drop {nx : List (List Nat)} {n : Nat} {ys : List (List Nat)} {c : List Nat} (hg : Good nx) (hn : nx.length = n) (hys : ∀ c, c ∈ ys ↔ ∃ v, v < n ∧ c = cls nx v) (hnd : ys.Nodup) (h : IsCyc (dropL nx ys) n n c) : IsCyc nx n n c := by
  have he : ∀ t, t < n → ∀ r, wkL nx t r t = wkL (dropL nx ys) t r t := fun t ht r => wkL_drop hg hn hys hnd t r t ht (.refl t)
  have hw : ∀ t, t < n → ∀ r, Wk nx t r t ↔ Wk (dropL nx ys) t r t := fun t ht r => by rw [← wkL_iff, ← wkL_iff, he t ht r]
  rcases h with ⟨h1, h2⟩ | ⟨L, s, a1, a2, a3, a4, a5, a6, a7⟩
  · exact .inl ⟨h1, fun s hs r hr k => h2 s hs r hr ((hw s hs r).1 k)⟩
  · exact .inr ⟨L, s, a1, a2, a3, (hw s a3 L).2 a4, by rw [a5, he s a3 L], fun t ht r hr k => a6 t ht r hr ((hw t ht r).1 k), fun t ht k => a7 t ht ((hw t (by omega) L).1 k)⟩
/-- graph.Cycle gives the least of the shortest cycles. -/
theorem cycle_is (n m c : Nat) (A : Option Addr) (E : List (Nat × Nat)) (w : World) (hn : n ≤ 10) (hm : m ≤ 1000) (hE : Edg w w.heap.size A m E) (hd : ∀ e ∈ E, e.1 < n ∧ e.2 < n) (hT : Tab w) :
    Calls Tryd.prog 21 #[.int .i64 n, .slice A m c] w fun e w' => ∃ v C, e = .returned v ∧ IsCyc (succs n E) n n C ∧ Own w' w.heap.size v C ∧ Below w.heap.size w w' := by
  have hg := succs_good n E
  have hl := succs_len n E
  refine (cycle_any n m c A E w hn hm hE hd hT fun ys _ s below len D _ _ hb => lead_any _ (dropL_good _ ys hg) s n below len D hb).mono ?_
  rintro e w' ⟨v, ys, rfl, hp, hs, ho, hB⟩
  have hdl := (dropL_len (succs n E) ys).trans hl
  obtain ⟨h1, h2⟩ := parts_are hg
  refine ⟨v, _, rfl, IsCyc.drop hg hl (ys := ys) (fun c => by rw [hp.mem_iff, h1, hl]) (hp.nodup_iff.2 h2) (shortL_is (dropL_good _ ys hg) hdl hn), ho, hB⟩
end Go.Proofs.YtdebnnigbbjbcaaDoor
