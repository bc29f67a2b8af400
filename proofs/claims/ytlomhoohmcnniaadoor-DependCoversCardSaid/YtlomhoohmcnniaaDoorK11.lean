/-
  Orders as functions on numbers, on: what makes an order's rows; covers; linear orders; how many there are. Plain mathematics; no function of the program.
  Linear extensions: how many there are; that the number hangs on what may come next alone; an exchange of neighbours. Plain mathematics; no function of the program.
  What a frontier holds: for each element, how many of those that it waits for are not in the list; which may come next; what becomes of it when one is taken or put back. Plain mathematics; no function of the program.
  The closure, element by element against a topological order: what the rows hold on the way, and that they are an order in the end. Plain mathematics; no function of the program.
-/
import Derived.Test.YtlomhoohmcnniaaDoorK10

namespace Go.Proofs.YtlomhoohmcnniaaDoor.PO
open Go.Proofs.YtlomhoohmcnniaaDoor

/-- a comes before b by the rows R. -/
def lt (R : List Nat) (a b : Nat) : Bool := (R[a]?.getD 0).testBit b
/-- R holds the closure of an order without cycles. -/
structure Cl (R : List Nat) : Prop where
  small : Small R
  irr : ∀ a, lt R a a = false
  tr : ∀ a b c, lt R a b = true → lt R b c = true → lt R a c = true
theorem lt_nb {R : List Nat} (hs : Small R) (a b : Nat) : b ∈ nb (rows R) a ↔ lt R a b = true := nb_rows hs a b
theorem lt_from {R : List Nat} {a b : Nat} (h : lt R a b = true) : a < R.length := by
  unfold lt at h
  rcases Nat.lt_or_ge a R.length with h1 | h1
  · exact h1
  · rw [List.getElem?_eq_none h1] at h
    simp at h
theorem lt_to {R : List Nat} (hs : Small R) {a b : Nat} (h : lt R a b = true) : b < R.length := by
  have h1 := lt_from h
  unfold lt at h
  rw [List.getElem?_eq_getElem h1] at h
  exact bit_lt (hs.2 _ (List.getElem_mem h1)) h
theorem Cl.up {R : List Nat} (h : Cl R) {a b : Nat} : Up (rows R) a b ↔ lt R a b = true := by
  constructor
  · intro k
    induction k with
    | one e => exact (lt_nb h.small _ _).1 e
    | more e _ ih => exact h.tr _ _ _ ((lt_nb h.small _ _).1 e) ih
  · exact fun k => .one ((lt_nb h.small _ _).2 k)
theorem Cl.acyc {R : List Nat} (h : Cl R) : ¬ Cyc (rows R) := by
  rintro ⟨a, ha⟩
  have := h.irr a
  rw [h.up.1 ha] at this
  cases this
theorem Cl.topo {R : List Nat} (h : Cl R) : (topoL (rows R)).length = R.length := by
  rw [topo_of_acyclic h.acyc, rows_len]

/-! ### covers -/
def cover (R : List Nat) (s : Nat) (P : List Nat) : Nat := P.foldl (fun s b => if s.testBit b then s ^^^ (s &&& R[b]?.getD 0) else s) s
theorem cover_snoc (R : List Nat) (s : Nat) (P : List Nat) (b : Nat) : cover R s (P ++ [b]) = if (cover R s P).testBit b then cover R s P ^^^ (cover R s P &&& R[b]?.getD 0) else cover R s P := by
  unfold cover
  rw [List.foldl_append]
  rfl
theorem cover_bit {R : List Nat} (h : Cl R) (a : Nat) (P : List Nat) (i : Nat) : (cover R (R[a]?.getD 0) P).testBit i = true ↔ lt R a i = true ∧ ¬ ∃ c ∈ P, lt R a c = true ∧ lt R c i = true := by
  suffices ∀ k, k ≤ P.length → ∀ i, (cover R (R[a]?.getD 0) (P.take k)).testBit i = true ↔ lt R a i = true ∧ ¬ ∃ c ∈ P.take k, lt R a c = true ∧ lt R c i = true by
    have := this P.length (Nat.le_refl _) i
    rwa [List.take_length] at this
  intro k
  induction k with
  | zero => intro _ i; simp [cover, lt]
  | succ k ih =>
    intro hk i
    have ih := ih (by omega)
    obtain ⟨b, hb⟩ : ∃ b, P[k]? = some b := ⟨P[k], List.getElem?_eq_getElem hk⟩
    rw [List.take_add_one, hb]
    simp only [Option.toList]
    rw [cover_snoc]
    obtain ⟨s, hsd⟩ : ∃ s, cover R (R[a]?.getD 0) (P.take k) = s := ⟨_, rfl⟩
    rw [hsd] at ih ⊢
    have hsplit : (∃ c ∈ P.take k ++ [b], lt R a c = true ∧ lt R c i = true) ↔ (∃ c ∈ P.take k, lt R a c = true ∧ lt R c i = true) ∨ (lt R a b = true ∧ lt R b i = true) := by
      constructor
      · rintro ⟨x, hx, h⟩
        rcases List.mem_append.1 hx with hx | hx
        · exact .inl ⟨x, hx, h⟩
        · rw [List.mem_singleton] at hx
          exact .inr (hx ▸ h)
      · rintro (⟨x, hx, h⟩ | h)
        · exact ⟨x, List.mem_append_left _ hx, h⟩
        · exact ⟨b, by simp, h⟩
    rw [hsplit]
    by_cases hbit : s.testBit b = true
    · rw [if_pos hbit, Nat.testBit_xor, Nat.testBit_and]
      have hab := ((ih b).1 hbit).1
      have hi := ih i
      have hbi : (R[b]?.getD 0).testBit i = lt R b i := rfl
      rw [hbi]
      cases h1 : s.testBit i with
      | false =>
        rw [h1] at hi
        constructor
        · intro h2; simp at h2
        · rintro ⟨h2, h3⟩
          exact absurd (hi.2 ⟨h2, fun h4 => h3 (.inl h4)⟩) (by simp)
      | true =>
        rw [h1] at hi
        have h2 := hi.1 rfl
        cases h3 : lt R b i with
        | true =>
          constructor
          · intro h4; simp at h4
          · rintro ⟨_, h4⟩
            exact absurd (.inr ⟨hab, rfl⟩) h4
        | false =>
          constructor
          · intro _
            refine ⟨h2.1, ?_⟩
            rintro (h4 | ⟨_, h4⟩)
            · exact h2.2 h4
            · cases h4
          · intro _; rfl
    · rw [if_neg hbit, ih i]
      constructor
      · rintro ⟨h1, h2⟩
        refine ⟨h1, ?_⟩
        rintro (h3 | ⟨h3, h4⟩)
        · exact h2 h3
        · have h5 : ¬ (lt R a b = true ∧ ¬ ∃ c ∈ P.take k, lt R a c = true ∧ lt R c b = true) := fun h => hbit ((ih b).2 h)
          refine h5 ⟨h3, ?_⟩
          rintro ⟨c, hc, h6, h7⟩
          exact h2 ⟨c, hc, h6, h.tr _ _ _ h7 h4⟩
      · rintro ⟨h1, h2⟩
        exact ⟨h1, fun h3 => h2 (.inl h3)⟩
/-- b is next above a. -/
def covB (R : List Nat) (a b : Nat) : Bool := lt R a b && !((List.range R.length).any fun c => lt R a c && lt R c b)
theorem covB_iff {R : List Nat} (_hs : Small R) (a b : Nat) : covB R a b = true ↔ lt R a b = true ∧ ¬ ∃ c, lt R a c = true ∧ lt R c b = true := by
  unfold covB
  simp only [Bool.and_eq_true, Bool.not_eq_true', List.any_eq_false, List.mem_range, Bool.and_eq_true, not_and]
  constructor
  · rintro ⟨h1, h2⟩
    refine ⟨h1, ?_⟩
    rintro ⟨c, h3, h4⟩
    exact h2 c (lt_from h4) h3 h4
  · rintro ⟨h1, h2⟩
    exact ⟨h1, fun c _ h3 h4 => h2 ⟨c, h3, h4⟩⟩
theorem cover_all {R : List Nat} (h : Cl R) {P : List Nat} (hP : ∀ x, x < R.length → x ∈ P) (a : Nat) : els (cover R (R[a]?.getD 0) P) = (List.range R.length).filter (covB R a) := by
  refine sorted_ext_nat _ _ (els_sorted _) (List.Pairwise.filter _ (range_sorted _)) fun x => ?_
  rw [els_mem, cover_bit h, List.mem_filter, List.mem_range, covB_iff h.small]
  constructor
  · rintro ⟨_, h1, h2⟩
    refine ⟨lt_to h.small h1, h1, ?_⟩
    rintro ⟨c, h3, h4⟩
    exact h2 ⟨c, hP c (lt_from h4), h3, h4⟩
  · rintro ⟨h0, h1, h2⟩
    refine ⟨by have := h.small.1; omega, h1, ?_⟩
    rintro ⟨c, _, h3, h4⟩
    exact h2 ⟨c, h3, h4⟩
/-- All covers. -/
def covs (R : List Nat) : List (Nat × Nat) := (List.range R.length).flatMap fun a => ((List.range R.length).filter (covB R a)).map fun b => (a, b)
theorem covs_mem {R : List Nat} (hs : Small R) (a b : Nat) : (a, b) ∈ covs R ↔ lt R a b = true ∧ ¬ ∃ c, lt R a c = true ∧ lt R c b = true := by
  rw [← covB_iff hs]
  unfold covs
  rw [List.mem_flatMap]
  constructor
  · rintro ⟨x, _, hx⟩
    obtain ⟨y, hy, e⟩ := List.mem_map.1 hx
    injection e with e1 e2
    subst e1 e2
    exact (List.mem_filter.1 hy).2
  · intro h
    have h1 := ((covB_iff hs a b).1 h).1
    exact ⟨a, List.mem_range.2 (lt_from h1), List.mem_map.2 ⟨b, List.mem_filter.2 ⟨List.mem_range.2 (lt_to hs h1), h⟩, rfl⟩⟩
/-- The closure of the covers is the order. -/
theorem covs_up {R : List Nat} (h : Cl R) {nx : List (List Nat)} (hn : ∀ a b, b ∈ nb nx a ↔ (a, b) ∈ covs R) (a b : Nat) : Up nx a b ↔ lt R a b = true := by
  constructor
  · intro k
    induction k with
    | one e => exact ((covs_mem h.small _ _).1 ((hn _ _).1 e)).1
    | more e _ ih => exact h.tr _ _ _ ((covs_mem h.small _ _).1 ((hn _ _).1 e)).1 ih
  · suffices ∀ m a b, anc (rows R) b - anc (rows R) a < m → lt R a b = true → Up nx a b from this _ a b (Nat.lt_succ_self _)
    intro m
    induction m with
    | zero => intro a b h; omega
    | succ m ih =>
      intro a b hm hab
      rcases Classical.em (∃ c, lt R a c = true ∧ lt R c b = true) with ⟨c, h1, h2⟩ | hc
      · have k1 := anc_less h.acyc (h.up.2 h1)
        have k2 := anc_less h.acyc (h.up.2 h2)
        exact (ih a c (by omega) h1).trans (ih c b (by omega) h2)
      · exact .one ((hn _ _).2 ((covs_mem h.small _ _).2 ⟨hab, hc⟩))
/-- Without one of the covers its two ends are not ordered. -/
theorem covs_less {R : List Nat} (h : Cl R) {nx : List (List Nat)} {p q : Nat} (hpq : (p, q) ∈ covs R) (hn : ∀ a b, b ∈ nb nx a → (a, b) ∈ covs R ∧ (a, b) ≠ (p, q)) : ¬ Up nx p q := by
  have hle : ∀ a b, Up nx a b → lt R a b = true := by
    intro a b k
    induction k with
    | one e => exact ((covs_mem h.small _ _).1 (hn _ _ e).1).1
    | more e _ ih => exact h.tr _ _ _ ((covs_mem h.small _ _).1 (hn _ _ e).1).1 ih
  obtain ⟨h1, h2⟩ := (covs_mem h.small _ _).1 hpq
  intro k
  cases k with
  | one e => exact (hn _ _ e).2 rfl
  | more e k => exact h2 ⟨_, ((covs_mem h.small _ _).1 (hn _ _ e).1).1, hle _ _ k⟩

/-! ### linear orders -/
/-- l is a linear extension. -/
def isLin (R : List Nat) (l : List Nat) : Bool := decide (l.length = R.length) && (List.range l.length).all fun i => decide (l[i]?.getD 0 < R.length) && (List.range i).all fun k => decide (l[k]?.getD 0 ≠ l[i]?.getD 0) && !lt R (l[i]?.getD 0) (l[k]?.getD 0)
theorem isLin_iff (R l : List Nat) : isLin R l = true ↔ l.length = R.length ∧ ∀ i x : Nat, l[i]? = some x → x < R.length ∧ ∀ k y : Nat, k < i → l[k]? = some y → y ≠ x ∧ lt R x y = false := by
  unfold isLin
  simp only [Bool.and_eq_true, decide_eq_true_eq, List.all_eq_true, List.mem_range, Bool.not_eq_true']
  constructor
  · rintro ⟨h1, h2⟩
    refine ⟨h1, fun i x hx => ?_⟩
    have hi := (List.getElem?_eq_some_iff.1 hx).1
    have h3 := h2 i hi
    rw [hx] at h3
    refine ⟨h3.1, fun k y hk hy => ?_⟩
    have h4 := h3.2 k hk
    rw [hy] at h4
    exact h4
  · rintro ⟨h1, h2⟩
    refine ⟨h1, fun i hi => ?_⟩
    have hx : l[i]? = some l[i] := List.getElem?_eq_getElem hi
    obtain ⟨h3, h4⟩ := h2 i _ hx
    rw [hx]
    refine ⟨h3, fun k hk => ?_⟩
    have hy : l[k]? = some l[k] := List.getElem?_eq_getElem (by omega)
    rw [hy]
    exact h4 k _ hk hy
theorem topo_lin {R : List Nat} (h : Cl R) : isLin R (topoL (rows R)) = true := by
  rw [isLin_iff]
  obtain ⟨h1, h2, h3, _⟩ := topoL_fore (rows R)
  rw [rows_len] at h3
  refine ⟨h.topo, fun i x hx => ⟨h3 x (List.mem_of_getElem? hx), fun k y hk hy => ?_⟩⟩
  obtain ⟨hi, ei⟩ := List.getElem?_eq_some_iff.1 hx
  obtain ⟨hk2, ek⟩ := List.getElem?_eq_some_iff.1 hy
  constructor
  · rintro rfl
    exact (List.pairwise_iff_getElem.1 h2 k i hk2 hi hk) (ek.trans ei.symm)
  · cases hc : lt R x y with
    | false => rfl
    | true =>
      have e : topoL (rows R) = (topoL (rows R)).take k ++ y :: (topoL (rows R)).drop (k + 1) := by rw [← ek, ← List.drop_eq_getElem_cons hk2, List.take_append_drop]
      have hm := h1 _ _ _ e x ((lt_nb h.small x y).2 hc)
      obtain ⟨j, hj, hjx⟩ := List.mem_iff_getElem.1 hm
      rw [List.length_take] at hj
      rw [List.getElem_take] at hjx
      exact absurd (hjx.trans ei.symm) (List.pairwise_iff_getElem.1 h2 j i (by omega) hi (by omega))
end Go.Proofs.YtlomhoohmcnniaaDoor.PO

namespace Go.Proofs.YtlomhoohmcnniaaDoor.PO
open Go.Proofs.YtlomhoohmcnniaaDoor

/-- What may come next behind d. -/
def nexts (R d : List Nat) : List Nat := (List.range R.length).filter (canGo (rows R) d)
def allE (R : List Nat) : Nat → List Nat → List (List Nat)
  | 0, d => [d]
  | f + 1, d => (nexts R d).flatMap fun a => allE R f (d ++ [a])
def cnt (R : List Nat) : Nat → List Nat → Nat
  | 0, _ => 1
  | f + 1, d => ((nexts R d).map fun a => cnt R f (d ++ [a])).sum
theorem allE_len (R : List Nat) : ∀ f d, (allE R f d).length = cnt R f d
  | 0, _ => rfl
  | f + 1, d => by
    rw [allE, cnt, List.length_flatMap]
    congr 1
    exact List.map_congr_left fun a _ => allE_len R f (d ++ [a])
theorem go_iff {R : List Nat} (hs : Small R) (d : List Nat) (w : Nat) : canGo (rows R) d w = true ↔ w ∉ d ∧ ∀ u, lt R u w = true → u ∈ d := by
  rw [canGo_iff]
  constructor
  · rintro ⟨h1, h2⟩
    exact ⟨h1, fun u hu => h2 u (by rw [rows_len]; exact lt_from hu) ((lt_nb hs u w).2 hu)⟩
  · rintro ⟨h1, h2⟩
    exact ⟨h1, fun u _ hu => h2 u ((lt_nb hs u w).1 hu)⟩
theorem go_congr {R : List Nat} (hs : Small R) {d d' : List Nat} (h : ∀ x, x ∈ d ↔ x ∈ d') (w : Nat) : canGo (rows R) d w = canGo (rows R) d' w := by
  rw [Bool.eq_iff_iff, go_iff hs, go_iff hs, h w]
  constructor
  · rintro ⟨h1, h2⟩; exact ⟨h1, fun u hu => (h u).1 (h2 u hu)⟩
  · rintro ⟨h1, h2⟩; exact ⟨h1, fun u hu => (h u).2 (h2 u hu)⟩
theorem cnt_congr {R : List Nat} (hs : Small R) : ∀ f (d d' : List Nat), (∀ x, x ∈ d ↔ x ∈ d') → cnt R f d = cnt R f d'
  | 0, _, _, _ => rfl
  | f + 1, d, d', h => by
    rw [cnt, cnt]
    have e : nexts R d = nexts R d' := List.filter_congr fun x _ => go_congr hs h x
    rw [e]
    congr 1
    exact List.map_congr_left fun a _ => cnt_congr hs f _ _ fun x => by simp [h x]
/-- d may be the front of a linear extension. -/
structure Dn (R d : List Nat) : Prop where
  nodup : d.Nodup
  lt : ∀ x ∈ d, x < R.length
  closed : ∀ w ∈ d, ∀ u, PO.lt R u w = true → u ∈ d
theorem Dn.nil (R : List Nat) : Dn R [] := ⟨List.nodup_nil, (fun x h => by cases h), (fun x h => by cases h)⟩
theorem Dn.len {R d : List Nat} (h : Dn R d) : d.length ≤ R.length := nodup_len _ _ h.nodup h.lt
theorem Dn.snoc {R d : List Nat} (hs : Small R) (h : Dn R d) {a : Nat} (ha : a < R.length) (hg : canGo (rows R) d a = true) : Dn R (d ++ [a]) := by
  obtain ⟨h1, h2⟩ := (go_iff hs _ _).1 hg
  refine ⟨snoc_nodup h.nodup h1, fun x hx => ?_, fun w hw u hu => ?_⟩
  · rcases List.mem_append.1 hx with hx | hx
    · exact h.lt x hx
    · rw [List.mem_singleton] at hx
      omega
  · rcases List.mem_append.1 hw with hw | hw
    · exact List.mem_append_left _ (h.closed w hw u hu)
    · rw [List.mem_singleton] at hw
      subst hw
      exact List.mem_append_left _ (h2 u hu)
/-- What is left are the next ones and what is above them. -/
theorem left_iff {R d : List Nat} (h : Cl R) (hd : Dn R d) {x : Nat} (hx : x < R.length) : x ∉ d ↔ ∃ r, r < R.length ∧ canGo (rows R) d r = true ∧ (r = x ∨ lt R r x = true) := by
  constructor
  · suffices ∀ m x, anc (rows R) x < m → x < R.length → x ∉ d → ∃ r, r < R.length ∧ canGo (rows R) d r = true ∧ (r = x ∨ lt R r x = true) from this _ x (Nat.lt_succ_self _) hx
    intro m
    induction m with
    | zero => intro x h; omega
    | succ m ih =>
      intro x hm hx hn
      rcases Classical.em (∃ u, lt R u x = true ∧ u ∉ d) with ⟨u, h1, h2⟩ | hc
      · have := anc_less h.acyc (h.up.2 h1)
        obtain ⟨r, k1, k2, k3⟩ := ih u (by omega) (lt_from h1) h2
        refine ⟨r, k1, k2, .inr ?_⟩
        rcases k3 with rfl | k3
        · exact h1
        · exact h.tr _ _ _ k3 h1
      · refine ⟨x, hx, (go_iff h.small _ _).2 ⟨hn, fun u hu => ?_⟩, .inl rfl⟩
        exact Classical.byContradiction fun k => hc ⟨u, hu, k⟩
  · rintro ⟨r, _, h2, h3⟩ hm
    have h4 := ((go_iff h.small _ _).1 h2).1
    rcases h3 with rfl | h3
    · exact h4 hm
    · exact h4 (hd.closed x hm r h3)
theorem same_left {R d d' : List Nat} (h : Cl R) (hd : Dn R d) (hd' : Dn R d') (hn : ∀ x, x < R.length → canGo (rows R) d x = canGo (rows R) d' x) (x : Nat) : x ∈ d ↔ x ∈ d' := by
  have key : x < R.length → (x ∉ d ↔ x ∉ d') := fun hx => by
    rw [left_iff h hd hx, left_iff h hd' hx]
    constructor
    · rintro ⟨r, h1, h2, h3⟩; exact ⟨r, h1, by rw [← hn r h1]; exact h2, h3⟩
    · rintro ⟨r, h1, h2, h3⟩; exact ⟨r, h1, by rw [hn r h1]; exact h2, h3⟩
  constructor
  · intro hx
    exact Classical.byContradiction fun k => ((key (hd.lt x hx)).2 k) hx
  · intro hx
    exact Classical.byContradiction fun k => ((key (hd'.lt x hx)).1 k) hx
/-- How many extensions there are hangs on what may come next. -/
theorem cnt_ready {R d d' : List Nat} (h : Cl R) (hd : Dn R d) (hd' : Dn R d') (hn : ∀ x, x < R.length → canGo (rows R) d x = canGo (rows R) d' x) : d.length = d'.length ∧ ∀ f, cnt R f d = cnt R f d' := by
  have hm := same_left h hd hd' hn
  exact ⟨Nat.le_antisymm (sub_len _ _ hd.nodup fun x hx => (hm x).1 hx) (sub_len _ _ hd'.nodup fun x hx => (hm x).2 hx), fun f => cnt_congr h.small f _ _ hm⟩
/-- While something is left, something may come next. -/
theorem next_some {R d : List Nat} (h : Cl R) (hd : Dn R d) (hl : d.length < R.length) : ∃ r, r < R.length ∧ canGo (rows R) d r = true := by
  have : ∃ x, x < R.length ∧ x ∉ d := by
    apply Classical.byContradiction
    intro hc
    have := sub_len (List.range R.length) d List.nodup_range fun x hx => Classical.byContradiction fun k => hc ⟨x, List.mem_range.1 hx, k⟩
    rw [List.length_range] at this
    omega
  obtain ⟨x, hx, hn⟩ := this
  obtain ⟨r, h1, h2, _⟩ := (left_iff h hd hx).1 hn
  exact ⟨r, h1, h2⟩
theorem cnt_pos {R : List Nat} (h : Cl R) : ∀ f d, Dn R d → d.length + f = R.length → 1 ≤ cnt R f d
  | 0, _, _, _ => Nat.le_refl _
  | f + 1, d, hd, hl => by
    obtain ⟨r, h1, h2⟩ := next_some h hd (by omega)
    have h3 := cnt_pos h f (d ++ [r]) (hd.snoc h.small h1 h2) (by rw [List.length_append, List.length_singleton]; omega)
    rw [cnt]
    have hm : cnt R f (d ++ [r]) ∈ (nexts R d).map fun a => cnt R f (d ++ [a]) := List.mem_map.2 ⟨r, List.mem_filter.2 ⟨List.mem_range.2 h1, h2⟩, rfl⟩
    generalize ((nexts R d).map fun a => cnt R f (d ++ [a])) = l at hm ⊢
    have : ∀ l : List Nat, cnt R f (d ++ [r]) ∈ l → cnt R f (d ++ [r]) ≤ l.sum := by
      intro l
      induction l with
      | nil => intro h; cases h
      | cons a t ih =>
        intro h
        rw [List.sum_cons]
        rcases List.mem_cons.1 h with e | h
        · omega
        · have := ih h; omega
    have := this l hm
    omega
/-- Each of them is a linear extension; the first is the least. -/
theorem allE_lin {R : List Nat} (h : Cl R) : ∀ f d, Dn R d → d.length + f = R.length → (∀ i x : Nat, d[i]? = some x → ∀ k y : Nat, k < i → d[k]? = some y → lt R x y = false) → ∀ l ∈ allE R f d, isLin R l = true
  | 0, d, hd, hl, ho, l, hm => by
    rw [allE, List.mem_singleton] at hm
    subst hm
    rw [isLin_iff]
    refine ⟨by omega, fun i x hx => ⟨hd.lt x (List.mem_of_getElem? hx), fun k y hk hy => ⟨?_, ho i x hx k y hk hy⟩⟩⟩
    rintro rfl
    obtain ⟨hi, ei⟩ := List.getElem?_eq_some_iff.1 hx
    obtain ⟨hk2, ek⟩ := List.getElem?_eq_some_iff.1 hy
    exact (List.pairwise_iff_getElem.1 hd.nodup k i hk2 hi hk) (ek.trans ei.symm)
  | f + 1, d, hd, hl, ho, l, hm => by
    rw [allE, List.mem_flatMap] at hm
    obtain ⟨a, ha, hm⟩ := hm
    obtain ⟨ha1, ha2⟩ := List.mem_filter.1 ha
    have ha1 := List.mem_range.1 ha1
    refine allE_lin h f (d ++ [a]) (hd.snoc h.small ha1 ha2) (by rw [List.length_append, List.length_singleton]; omega) (fun i x hx k y hk hy => ?_) l hm
    have hil := (List.getElem?_eq_some_iff.1 hx).1
    rw [List.length_append, List.length_singleton] at hil
    rw [List.getElem?_append_left (by omega)] at hy
    rcases Nat.lt_or_ge i d.length with h1 | h1
    · rw [List.getElem?_append_left h1] at hx
      exact ho i x hx k y hk hy
    · have : i = d.length := by omega
      subst this
      rw [List.getElem?_append_right (Nat.le_refl _), Nat.sub_self] at hx
      injection hx with hx
      subst hx
      cases hc : lt R a y with
      | false => rfl
      | true => exact absurd (hd.closed y (List.mem_of_getElem? hy) a hc) ((go_iff h.small _ _).1 ha2).1
theorem allE_first {R : List Nat} (h : Cl R) : ∀ f d, Dn R d → d.length + f = R.length → (allE R f d)[0]? = some (kahn (rows R) f d)
  | 0, d, _, _ => rfl
  | f + 1, d, hd, hl => by
    obtain ⟨r, h1, h2⟩ := next_some h hd (by omega)
    rw [allE, kahn]
    have hk : kStep (rows R) d = (nexts R d)[0]? := by
      unfold kStep nexts
      rw [rows_len, ← List.head?_filter, List.head?_eq_getElem?]
    cases hn : nexts R d with
    | nil =>
      have : r ∈ nexts R d := List.mem_filter.2 ⟨List.mem_range.2 h1, h2⟩
      rw [hn] at this
      cases this
    | cons a t =>
      rw [hn] at hk
      rw [show kStep (rows R) d = some a from hk]
      dsimp only
      have ha : a ∈ nexts R d := by rw [hn]; simp
      obtain ⟨ha1, ha2⟩ := List.mem_filter.1 ha
      have ih := allE_first h f (d ++ [a]) (hd.snoc h.small (List.mem_range.1 ha1) ha2) (by rw [List.length_append, List.length_singleton]; omega)
      rw [List.flatMap_cons]
      have hlt := (List.getElem?_eq_some_iff.1 ih).1
      rw [List.getElem?_append_left hlt]
      exact ih
/-- The same order out of the given pairs and out of their closure. -/
theorem topo_closed {nx : List (List Nat)} {R : List Nat} (hs : Small R) (hl : nx.length = R.length) (hR : ∀ a b, lt R a b = true ↔ Up nx a b) : topoL nx = topoL (rows R) := by
  have hgo : ∀ d, (∀ w ∈ d, ∀ u, w ∈ nb nx u → u ∈ d) → ∀ w, canGo nx d w = canGo (rows R) d w := by
    intro d hd w
    rw [Bool.eq_iff_iff, go_iff hs, canGo_iff]
    constructor
    · rintro ⟨h1, h2⟩
      refine ⟨h1, fun u hu => ?_⟩
      have hu := (hR u w).1 hu
      rcases hu.last with h | ⟨c, h3, h4⟩
      · exact h2 u (nb_from h) h
      · exact h3.back (P := (· ∈ d)) (h2 c (nb_from h4) h4) fun x y hy hxy => hd y hy x hxy
    · rintro ⟨h1, h2⟩
      exact ⟨h1, fun u _ hu => h2 u ((hR u w).2 (.one hu))⟩
  have hk : ∀ f d, (∀ w ∈ d, ∀ u, w ∈ nb nx u → u ∈ d) → kahn nx f d = kahn (rows R) f d := by
    intro f
    induction f with
    | zero => intro d _; rfl
    | succ f ih =>
      intro d hd
      have hst : kStep nx d = kStep (rows R) d := by
        unfold kStep
        rw [rows_len, hl]
        congr 1
        funext w
        exact hgo d hd w
      rw [kahn, kahn, ← hst]
      cases hs : kStep nx d with
      | none => rfl
      | some v =>
        dsimp only
        refine ih _ fun w hw u hu => ?_
        unfold kStep at hs
        have hv := ((canGo_iff _ _ _).1 (List.find?_some hs)).2
        rcases List.mem_append.1 hw with hw | hw
        · exact List.mem_append_left _ (hd w hw u hu)
        · rw [List.mem_singleton] at hw
          subst hw
          exact List.mem_append_left _ (hv u (nb_from hu) hu)
  unfold topoL
  rw [rows_len, hl]
  exact hk _ _ fun w h => by cases h
/-- An exchange of neighbours keeps a linear extension just if they are not ordered. -/
theorem isLin_swap {R row : List Nat} (h : isLin R row = true) {k x y : Nat} (hx : row[k]? = some x) (hy : row[k + 1]? = some y) : isLin R (row.take k ++ [y, x] ++ row.drop (k + 2)) = !lt R x y := by
  obtain ⟨h1, h2⟩ := (isLin_iff R row).1 h
  have hk1 := (List.getElem?_eq_some_iff.1 hy).1
  have hget : ∀ i : Nat, (row.take k ++ [y, x] ++ row.drop (k + 2))[i]? = if i = k then some y else if i = k + 1 then some x else row[i]? := by
    intro i
    have hl : (row.take k).length = k := by rw [List.length_take]; omega
    rcases Nat.lt_or_ge i k with c | c
    · rw [if_neg (by omega), if_neg (by omega), List.append_assoc, List.getElem?_append_left (by omega), List.getElem?_take_of_lt c]
    · rcases Nat.lt_or_ge i (k + 2) with c2 | c2
      · rw [List.getElem?_append_left (by simp; omega), List.getElem?_append_right (by omega), hl]
        by_cases e : i = k
        · subst e; simp
        · have : i = k + 1 := by omega
          subst this
          rw [if_neg e, if_pos rfl, show k + 1 - k = 1 by omega]
          rfl
      · rw [List.getElem?_append_right (by simp; omega), if_neg (by omega), if_neg (by omega), List.getElem?_drop]
        congr 1
        simp
        omega
  have hxy := (h2 (k + 1) y hy).2 k x (by omega) hx
  rw [Bool.eq_iff_iff, isLin_iff]
  constructor
  · rintro ⟨_, h4⟩
    have := ((h4 (k + 1) x (by rw [hget, if_neg (by omega), if_pos rfl])).2 k y (by omega) (by rw [hget, if_pos rfl])).2
    simp [this]
  · intro hc
    have hc : lt R x y = false := by simpa using hc
    refine ⟨by simp only [List.length_append, List.length_take, List.length_drop, List.length_cons, List.length_nil]; omega, fun i z hz => ?_⟩
    rw [hget] at hz
    have hbelow : ∀ (i : Nat) (z : Nat), i ≠ k → i ≠ k + 1 → row[i]? = some z → ∀ j w : Nat, j < i → (row.take k ++ [y, x] ++ row.drop (k + 2))[j]? = some w → w ≠ z ∧ lt R z w = false := by
      intro i z n1 n2 hz j w hj hw
      rw [hget] at hw
      have h3 := (h2 i z hz).2
      split at hw
      · rename_i e
        injection hw with hw
        subst hw
        exact h3 (k + 1) y (by omega) hy
      · split at hw
        · rename_i e
          injection hw with hw
          subst hw
          exact h3 k x (by omega) hx
        · exact h3 j w hj hw
    split at hz
    · rename_i e
      injection hz with hz
      subst hz e
      refine ⟨(h2 _ _ hy).1, fun j w hj hw => ?_⟩
      rw [hget, if_neg (by omega), if_neg (by omega)] at hw
      exact (h2 _ _ hy).2 j w (by omega) hw
    · split at hz
      · rename_i e1 e
        injection hz with hz
        subst hz e
        refine ⟨(h2 _ _ hx).1, fun j w hj hw => ?_⟩
        rw [hget] at hw
        split at hw
        · injection hw with hw
          subst hw
          exact ⟨fun e => hxy.1 e.symm, hc⟩
        · rw [if_neg (by omega)] at hw
          exact (h2 _ _ hx).2 j w (by omega) hw
      · exact ⟨(h2 i z hz).1, fun j w hj hw => hbelow i z ‹_› ‹_› hz j w hj hw⟩
end Go.Proofs.YtlomhoohmcnniaaDoor.PO

namespace Go.Proofs.YtlomhoohmcnniaaDoor.PO
open Go.Proofs.YtlomhoohmcnniaaDoor

def upd (F : Nat → Int) (x : Nat) (c : Int) : Nat → Int := fun y => if y = x then c else F y
theorem clear_bit (m a x : Nat) : (m ^^^ (m &&& 2 ^ a)).testBit x = (m.testBit x && !decide (x = a)) := by
  rw [Nat.testBit_xor, Nat.testBit_and, Nat.testBit_two_pow]
  by_cases h : x = a
  · subst h; cases m.testBit x <;> simp
  · have h' : ¬ a = x := fun e => h e.symm
    cases m.testBit x <;> simp [h, h']
theorem add_bit (m a x : Nat) : (m ||| 2 ^ a).testBit x = (m.testBit x || decide (x = a)) := by
  rw [Nat.testBit_or, Nat.testBit_two_pow]
  by_cases h : x = a
  · subst h; simp
  · have h' : ¬ a = x := fun e => h e.symm
    simp [h, h']
theorem clear_lt {m a n : Nat} (h : m < 2 ^ n) : m ^^^ (m &&& 2 ^ a) < 2 ^ n := Nat.xor_lt_two_pow h (Nat.lt_of_le_of_lt Nat.and_le_left h)
theorem pow_lt {a n : Nat} (h : a < n) : 2 ^ a < 2 ^ n := Nat.pow_lt_pow_right (by omega) h
theorem add_lt {m a n : Nat} (h : m < 2 ^ n) (ha : a < n) : m ||| 2 ^ a < 2 ^ n := Nat.or_lt_two_pow h (pow_lt ha)

/-- What the frontier holds when d is the list. -/
structure FSt (nx : List (List Nat)) (d : List Nat) (F : Nat → Int) (m : Nat) : Prop where
  wait : ∀ x, x < nx.length → F x = (kWait nx d x : Int)
  bit : ∀ x, x < nx.length → m.testBit x = canGo nx d x
  lt : m < 2 ^ nx.length
/-- .. while a is taken, of whose successors those of pre are done. -/
structure FMid (nx : List (List Nat)) (d : List Nat) (a : Nat) (pre : List Nat) (F : Nat → Int) (m : Nat) : Prop where
  wait : ∀ x, x < nx.length → F x = ((if x ∈ pre then kWait nx (d ++ [a]) x else kWait nx d x : Nat) : Int)
  bit : ∀ x, x < nx.length → m.testBit x = ((!decide (x = a) && canGo nx d x) || (decide (x ∈ pre) && decide (kWait nx (d ++ [a]) x = 0)))
  lt : m < 2 ^ nx.length
/-- .. while a is put back. -/
structure FBack (nx : List (List Nat)) (d : List Nat) (a : Nat) (pre : List Nat) (F : Nat → Int) (m : Nat) : Prop where
  wait : ∀ x, x < nx.length → F x = ((if x ∈ pre then kWait nx d x else kWait nx (d ++ [a]) x : Nat) : Int)
  bit : ∀ x, x < nx.length → m.testBit x = (canGo nx (d ++ [a]) x && !decide (x ∈ pre))
  lt : m < 2 ^ nx.length
section
variable {nx : List (List Nat)} {d pre : List Nat} {a x m : Nat} {F : Nat → Int}
theorem FSt.start (h : FSt nx d F m) (a : Nat) : FMid nx d a [] F (m ^^^ (m &&& 2 ^ a)) := by
  refine ⟨fun x hx => by rw [if_neg (by simp)]; exact h.wait x hx, fun x hx => ?_, clear_lt h.lt⟩
  rw [clear_bit, h.bit x hx, Bool.and_comm]
  simp
theorem FMid.count (h : FMid nx d a pre F m) (ha : canGo nx d a = true) (han : a < nx.length) (hx : x ∈ nb nx a) (hxn : x < nx.length) (hp : x ∉ pre) : F x = (kWait nx (d ++ [a]) x : Int) + 1 := by
  have h1 := h.wait x hxn
  rw [if_neg hp, wait_snoc nx d a x han ((canGo_iff _ _ _).1 ha).1, if_pos hx] at h1
  omega
theorem FMid.step (h : FMid nx d a pre F m) (hxn : x < nx.length) : FMid nx d a (pre ++ [x]) (upd F x (kWait nx (d ++ [a]) x)) (if kWait nx (d ++ [a]) x = 0 then m ||| 2 ^ x else m) := by
  refine ⟨fun y hy => ?_, fun y hy => ?_, ?_⟩
  · unfold upd
    by_cases e : y = x
    · subst e; simp
    · rw [if_neg e, h.wait y hy]
      simp [e]
  · have hb := h.bit y hy
    by_cases hz : kWait nx (d ++ [a]) x = 0
    · rw [if_pos hz, add_bit, hb]
      by_cases e : y = x
      · subst e; simp [hz]
      · simp [e]
    · rw [if_neg hz, hb]
      by_cases e : y = x
      · subst e; simp [hz]
      · simp [e]
  · split
    · exact add_lt h.lt hxn
    · exact h.lt
theorem FMid.done (h : FMid nx d a (nb nx a) F m) (ha : canGo nx d a = true) (han : a < nx.length) (hcl : ∀ w ∈ d, ∀ u, u < nx.length → w ∈ nb nx u → u ∈ d) : FSt nx (d ++ [a]) F m := by
  obtain ⟨h1, h2⟩ := (canGo_iff _ _ _).1 ha
  refine ⟨fun x hx => ?_, fun x hx => ?_, h.lt⟩
  · rw [h.wait x hx]
    split
    · rfl
    · rename_i hn
      have := wait_snoc nx d a x han h1
      rw [if_neg hn] at this
      omega
  · rw [h.bit x hx, Bool.eq_iff_iff, canGo_iff]
    simp only [Bool.or_eq_true, Bool.and_eq_true, Bool.not_eq_true', decide_eq_false_iff_not, decide_eq_true_eq, canGo_iff, wait_zero, List.mem_append, List.mem_singleton, not_or]
    constructor
    · rintro (⟨h3, h4, h5⟩ | ⟨h3, h4⟩)
      · exact ⟨⟨h4, h3⟩, fun u hu hxu => .inl (h5 u hu hxu)⟩
      · refine ⟨⟨fun hd => h1 (hcl x hd a han h3), fun e => ?_⟩, h4⟩
        subst e
        exact h1 (h2 x han h3)
    · rintro ⟨⟨h3, h4⟩, h5⟩
      by_cases hxa : x ∈ nb nx a
      · exact .inr ⟨hxa, h5⟩
      · refine .inl ⟨h4, h3, fun u hu hxu => ?_⟩
        rcases h5 u hu hxu with h6 | h6
        · exact h6
        · subst h6
          exact absurd hxu hxa
theorem FSt.back (h : FSt nx (d ++ [a]) F m) : FBack nx d a [] F m :=
  ⟨fun x hx => by rw [if_neg (by simp)]; exact h.wait x hx, fun x hx => by rw [h.bit x hx]; simp, h.lt⟩
theorem FBack.count (h : FBack nx d a pre F m) (ha : canGo nx d a = true) (han : a < nx.length) (hx : x ∈ nb nx a) (hxn : x < nx.length) (hp : x ∉ pre) : F x + 1 = (kWait nx d x : Int) := by
  have h1 := h.wait x hxn
  rw [if_neg hp] at h1
  have h2 := wait_snoc nx d a x han ((canGo_iff _ _ _).1 ha).1
  rw [if_pos hx] at h2
  omega
theorem FBack.step (h : FBack nx d a pre F m) (hxn : x < nx.length) : FBack nx d a (pre ++ [x]) (upd F x (kWait nx d x)) (m ^^^ (m &&& 2 ^ x)) := by
  refine ⟨fun y hy => ?_, fun y hy => ?_, clear_lt h.lt⟩
  · unfold upd
    by_cases e : y = x
    · subst e; simp
    · rw [if_neg e, h.wait y hy]
      simp [e]
  · rw [clear_bit, h.bit y hy]
    by_cases e : y = x
    · subst e; simp
    · simp [e]
theorem FBack.done (h : FBack nx d a (nb nx a) F m) (ha : canGo nx d a = true) (han : a < nx.length) : FSt nx d F (m ||| 2 ^ a) := by
  obtain ⟨h1, h2⟩ := (canGo_iff _ _ _).1 ha
  refine ⟨fun x hx => ?_, fun x hx => ?_, add_lt h.lt han⟩
  · rw [h.wait x hx]
    split
    · rfl
    · rename_i hn
      have := wait_snoc nx d a x han h1
      rw [if_neg hn] at this
      omega
  · rw [add_bit, h.bit x hx]
    by_cases e : x = a
    · subst e
      rw [ha]
      simp
    · rw [decide_eq_false e, Bool.or_false, Bool.eq_iff_iff]
      simp only [Bool.and_eq_true, Bool.not_eq_true', decide_eq_false_iff_not, canGo_iff, List.mem_append, List.mem_singleton, not_or]
      constructor
      · rintro ⟨⟨⟨h3, h4⟩, h5⟩, h6⟩
        refine ⟨h3, fun u hu hxu => ?_⟩
        rcases h5 u hu hxu with h7 | h7
        · exact h7
        · subst h7
          exact absurd hxu h6
      · rintro ⟨h3, h4⟩
        exact ⟨⟨⟨h3, e⟩, fun u hu hxu => .inl (h4 u hu hxu)⟩, fun h5 => h1 (h4 a han h5)⟩
theorem FSt.ready (h : FSt nx d F m) (h64 : nx.length ≤ 64) : Ready nx d (els m) := by
  refine ⟨?_, fun x => ?_⟩
  · have := els_sorted m
    exact this.imp fun h => Nat.ne_of_lt h
  · rw [els_mem]
    constructor
    · rintro ⟨_, h2⟩
      have := bit_lt h.lt h2
      exact ⟨this, by rw [← h.bit x this]; exact h2⟩
    · rintro ⟨h1, h2⟩
      exact ⟨by omega, by rw [h.bit x h1]; exact h2⟩
/-- The count at the start, member by member. -/
theorem fst_nil (hF : ∀ x, x < nx.length → F x = (((List.range nx.length).filter fun u => decide (x ∈ nb nx u)).length : Int)) (hb : ∀ x, x < nx.length → m.testBit x = decide (((List.range nx.length).filter fun u => decide (x ∈ nb nx u)).length = 0)) (hm : m < 2 ^ nx.length) : FSt nx [] F m := by
  have hw : ∀ x, kWait nx [] x = ((List.range nx.length).filter fun u => decide (x ∈ nb nx u)).length := fun x => by
    unfold kWait
    congr 1
    apply List.filter_congr
    intro u _
    simp
  refine ⟨fun x hx => by rw [hF x hx, hw], fun x hx => ?_, hm⟩
  rw [hb x hx, ← hw, Bool.eq_iff_iff, decide_eq_true_iff, wait_zero, canGo_iff]
  simp
end
/-! ### the steps as the program makes them -/
abbrev FS := (Nat → Int) × Nat
def stT (s : FS) (x : Nat) : FS := (upd s.1 x (s.1 x - 1), if s.1 x - 1 = 0 then s.2 ||| 2 ^ x else s.2)
def stB (s : FS) (x : Nat) : FS := (upd s.1 x (s.1 x + 1), s.2 ^^^ (s.2 &&& 2 ^ x))
def stN (F : Nat → Int) (x : Nat) : Nat → Int := upd F x (F x + 1)
theorem foldl_snoc {α β : Type} (f : β → α → β) (s : β) (l : List α) (x : α) : (l ++ [x]).foldl f s = f (l.foldl f s) x := by rw [List.foldl_append]; rfl
theorem upd_bd {F : Nat → Int} {x : Nat} {c B : Int} (hF : ∀ y, -B ≤ F y ∧ F y ≤ B) (h1 : -(B + 1) ≤ c) (h2 : c ≤ B + 1) : ∀ y, -(B + 1) ≤ upd F x c y ∧ upd F x c y ≤ B + 1 := by
  intro y
  have := hF y
  unfold upd
  split <;> omega
/-- A sorted list's places are told apart. -/
theorem pre_new {l : List Nat} {k x : Nat} (hp : l.Pairwise (· < ·)) (hx : l[k]? = some x) : x ∉ l.take k ∧ l.take (k + 1) = l.take k ++ [x] := ⟨(take_at hx hp).1, by rw [List.take_add_one, hx]; rfl⟩
theorem fst_take {nx : List (List Nat)} {d : List Nat} {a m : Nat} {F : Nat → Int} (hg : Good nx) (h : FSt nx d F m) (ha : canGo nx d a = true) (han : a < nx.length) (hcl : ∀ w ∈ d, ∀ u, u < nx.length → w ∈ nb nx u → u ∈ d) :
    FSt nx (d ++ [a]) ((nb nx a).foldl stT (F, m ^^^ (m &&& 2 ^ a))).1 ((nb nx a).foldl stT (F, m ^^^ (m &&& 2 ^ a))).2 := by
  obtain ⟨hp, hl⟩ := good_row hg han
  refine FMid.done ?_ ha han hcl
  suffices ∀ k, k ≤ (nb nx a).length → FMid nx d a ((nb nx a).take k) (((nb nx a).take k).foldl stT (F, m ^^^ (m &&& 2 ^ a))).1 (((nb nx a).take k).foldl stT (F, m ^^^ (m &&& 2 ^ a))).2 by
    have := this _ (Nat.le_refl _)
    rwa [List.take_length] at this
  intro k
  induction k with
  | zero => exact fun _ => h.start a
  | succ k ih =>
    intro hk
    have ih := ih (by omega)
    have hx : (nb nx a)[k]? = some (nb nx a)[k] := List.getElem?_eq_getElem (by omega)
    obtain ⟨h1, h2⟩ := pre_new hp hx
    have hm := List.mem_of_getElem? hx
    obtain ⟨x, hxe⟩ : ∃ x, (nb nx a)[k] = x := ⟨_, rfl⟩
    rw [hxe] at hx h1 h2 hm
    rw [h2, foldl_snoc]
    obtain ⟨s, hs⟩ : ∃ s, ((nb nx a).take k).foldl stT (F, m ^^^ (m &&& 2 ^ a)) = s := ⟨_, rfl⟩
    rw [hs] at ih ⊢
    have hc := ih.count ha han hm (hl x hm) h1
    have e1 : s.1 x - 1 = (kWait nx (d ++ [a]) x : Int) := by omega
    have h3 := ih.step (hl x hm)
    unfold stT
    rw [e1]
    dsimp only
    by_cases hz : kWait nx (d ++ [a]) x = 0
    · rw [if_pos hz] at h3
      rw [if_pos (by omega)]
      exact h3
    · rw [if_neg hz] at h3
      rw [if_neg (by omega)]
      exact h3
theorem fst_back {nx : List (List Nat)} {d : List Nat} {a m : Nat} {F : Nat → Int} (hg : Good nx) (h : FSt nx (d ++ [a]) F m) (ha : canGo nx d a = true) (han : a < nx.length) :
    FSt nx d ((nb nx a).foldl stB (F, m)).1 (((nb nx a).foldl stB (F, m)).2 ||| 2 ^ a) := by
  obtain ⟨hp, hl⟩ := good_row hg han
  refine FBack.done ?_ ha han
  suffices ∀ k, k ≤ (nb nx a).length → FBack nx d a ((nb nx a).take k) (((nb nx a).take k).foldl stB (F, m)).1 (((nb nx a).take k).foldl stB (F, m)).2 by
    have := this _ (Nat.le_refl _)
    rwa [List.take_length] at this
  intro k
  induction k with
  | zero => exact fun _ => h.back
  | succ k ih =>
    intro hk
    have ih := ih (by omega)
    have hx : (nb nx a)[k]? = some (nb nx a)[k] := List.getElem?_eq_getElem (by omega)
    obtain ⟨h1, h2⟩ := pre_new hp hx
    have hm := List.mem_of_getElem? hx
    obtain ⟨x, hxe⟩ : ∃ x, (nb nx a)[k] = x := ⟨_, rfl⟩
    rw [hxe] at hx h1 h2 hm
    rw [h2, foldl_snoc]
    obtain ⟨s, hs⟩ : ∃ s, ((nb nx a).take k).foldl stB (F, m) = s := ⟨_, rfl⟩
    rw [hs] at ih ⊢
    have hc := ih.count ha han hm (hl x hm) h1
    have h3 := ih.step (hl x hm)
    unfold stB
    rw [hc]
    exact h3
/-- The counts of the first k rows. -/
def cntF (nx : List (List Nat)) : Nat → Nat → Int
  | 0 => fun _ => 0
  | k + 1 => (nb nx k).foldl stN (cntF nx k)
theorem stN_fold {l : List Nat} (hp : l.Pairwise (· < ·)) (F : Nat → Int) (y : Nat) : (l.foldl stN F) y = F y + if y ∈ l then 1 else 0 := by
  suffices ∀ k, k ≤ l.length → ((l.take k).foldl stN F) y = F y + if y ∈ l.take k then 1 else 0 by
    have := this _ (Nat.le_refl _)
    rwa [List.take_length] at this
  intro k
  induction k with
  | zero => intro _; simp
  | succ k ih =>
    intro hk
    have ih := ih (by omega)
    have hx : l[k]? = some l[k] := List.getElem?_eq_getElem (by omega)
    obtain ⟨h1, h2⟩ := pre_new hp hx
    obtain ⟨x, hxe⟩ : ∃ x, l[k] = x := ⟨_, rfl⟩
    rw [hxe] at h1 h2
    rw [h2, foldl_snoc]
    unfold stN
    simp only [upd]
    by_cases e : y = x
    · subst e
      rw [if_pos rfl, if_pos (by simp)]
      rw [if_neg h1] at ih
      rw [show ((l.take k).foldl (fun F x => upd F x (F x + 1)) F) y = F y + 0 from ih]
      omega
    · rw [if_neg e]
      have : (y ∈ l.take k ++ [x]) ↔ y ∈ l.take k := by simp [e]
      simp only [this]
      exact ih
theorem cntF_eq {nx : List (List Nat)} (hg : Good nx) (y : Nat) : ∀ k, k ≤ nx.length → cntF nx k y = (((List.range k).filter fun u => decide (y ∈ nb nx u)).length : Int)
  | 0, _ => rfl
  | k + 1, hk => by
    rw [cntF, stN_fold (good_row hg (by omega)).1, cntF_eq hg y k (by omega), List.range_succ, List.filter_append, List.length_append]
    by_cases h : y ∈ nb nx k
    · simp [h]
    · simp [h]
/-- The first k elements whose count is zero, as bits. -/
def rdyM (F : Nat → Int) : Nat → Nat
  | 0 => 0
  | k + 1 => if F k = 0 then rdyM F k ||| 2 ^ k else rdyM F k
theorem rdyM_lt (F : Nat → Int) {n : Nat} : ∀ k, k ≤ n → rdyM F k < 2 ^ n
  | 0, _ => Nat.two_pow_pos n
  | k + 1, h => by
    rw [rdyM]
    split
    · exact add_lt (rdyM_lt F k (by omega)) (by omega)
    · exact rdyM_lt F k (by omega)
theorem rdyM_bit (F : Nat → Int) (x : Nat) : ∀ k, (rdyM F k).testBit x = (decide (x < k) && decide (F x = 0))
  | 0 => by simp [rdyM]
  | k + 1 => by
    rw [rdyM]
    by_cases h : F k = 0
    · rw [if_pos h, add_bit, rdyM_bit F x k]
      by_cases e : x = k
      · subst e; simp [h]
      · have : (x < k + 1) ↔ x < k := by omega
        simp [e, this]
    · rw [if_neg h, rdyM_bit F x k]
      by_cases e : x = k
      · subst e; simp [h]
      · have : (x < k + 1) ↔ x < k := by omega
        simp [this]
theorem fst_new {nx : List (List Nat)} (hg : Good nx) : FSt nx [] (cntF nx nx.length) (rdyM (cntF nx nx.length) nx.length) := by
  refine fst_nil (fun x _ => cntF_eq hg x _ (Nat.le_refl _)) (fun x hx => ?_) (rdyM_lt _ _ (Nat.le_refl _))
  rw [rdyM_bit, cntF_eq hg x _ (Nat.le_refl _), decide_eq_true hx, Bool.true_and, decide_eq_decide]
  omega
/-- The first of a word's elements. -/
theorem els_first {m x : Nat} {t : List Nat} (h : els m = x :: t) : ∀ y ∈ els m, x ≤ y := by
  have := els_sorted m
  rw [h] at this ⊢
  intro y hy
  rcases List.mem_cons.1 hy with rfl | hy
  · exact Nat.le_refl _
  · exact Nat.le_of_lt (List.rel_of_pairwise_cons this hy)
theorem els_zero : els 0 = [] := by unfold els; simp
theorem els_pos {m : Nat} (h0 : m ≠ 0) (hm : m < 2 ^ 64) : els m ≠ [] := by
  intro e
  apply h0
  apply Nat.eq_of_testBit_eq
  intro i
  rw [Nat.zero_testBit]
  cases hb : m.testBit i with
  | false => rfl
  | true =>
    have : i ∈ els m := els_mem.2 ⟨bit_lt hm hb, hb⟩
    rw [e] at this
    cases this
/-- Taking a word's lowest bit away. -/
def low (m : Nat) : Nat := m &&& (m - 1)
def tz_ (x : Nat) : Nat := ((List.range 64).find? fun i => x.testBit i).getD 64
theorem low_bit {m t : Nat} (ht : m.testBit t = true) (hl : ∀ j, j < t → m.testBit j = false) (i : Nat) : (low m).testBit i = (m.testBit i && decide (t < i)) := by
  have hr : m % 2 ^ (t + 1) = 2 ^ t := by
    apply Nat.eq_of_testBit_eq
    intro j
    rw [Nat.testBit_mod_two_pow, Nat.testBit_two_pow]
    rcases Nat.lt_trichotomy j t with h | h | h
    · rw [hl j h, decide_eq_false (show ¬ t = j by omega), Bool.and_false]
    · subst h
      rw [ht]
      simp
    · rw [decide_eq_false (show ¬ j < t + 1 by omega), decide_eq_false (show ¬ t = j by omega), Bool.false_and]
  have hm := Nat.div_add_mod m (2 ^ (t + 1))
  rw [hr] at hm
  obtain ⟨k, hk⟩ : ∃ k, m / 2 ^ (t + 1) = k := ⟨_, rfl⟩
  rw [hk] at hm
  have hp : 0 < 2 ^ t := Nat.two_pow_pos t
  have hlt : 2 ^ t < 2 ^ (t + 1) := Nat.pow_lt_pow_right (by omega) (by omega)
  have hm1 : m - 1 = 2 ^ (t + 1) * k + (2 ^ t - 1) := by omega
  have e1 : m.testBit i = if i < t + 1 then (2 ^ t).testBit i else k.testBit (i - (t + 1)) := by
    rw [← hm]
    exact Nat.testBit_two_pow_mul_add k hlt i
  have e2 : (m - 1).testBit i = if i < t + 1 then (2 ^ t - 1).testBit i else k.testBit (i - (t + 1)) := by
    rw [hm1]
    exact Nat.testBit_two_pow_mul_add k (by omega) i
  unfold low
  rw [Nat.testBit_and, e2]
  rcases Nat.lt_trichotomy i t with h | h | h
  · rw [hl i h]
    simp
  · subst h
    rw [if_pos (by omega), Nat.testBit_two_pow_sub_one]
  · rw [e1, if_neg (by omega), if_neg (by omega), decide_eq_true h]
    simp
theorem els_low {m : Nat} (h0 : m ≠ 0) (hm : m < 16384) : els m = tz_ m :: els (low m) ∧ low m < m := by
  refine ⟨?_, by have : low m ≤ m - 1 := Nat.and_le_right; omega⟩
  cases hf : (List.range 64).find? fun i => m.testBit i with
  | none =>
    exfalso
    apply h0
    apply Nat.eq_of_testBit_eq
    intro i
    rw [Nat.zero_testBit]
    rcases Nat.lt_or_ge i 64 with h | h
    · have := List.find?_eq_none.1 hf i (List.mem_range.2 h)
      simpa using this
    · exact Nat.testBit_lt_two_pow (Nat.lt_of_lt_of_le hm (Nat.le_trans (show 16384 ≤ 2 ^ 64 by decide) (Nat.pow_le_pow_right (by omega) h)))
  | some t =>
    have hbt := List.find?_some hf
    have htz : tz_ m = t := by unfold tz_; rw [hf]; rfl
    have ht64 := List.mem_range.1 (List.mem_of_find?_eq_some hf)
    have hl : ∀ j, j < t → m.testBit j = false := by
      intro j hj
      have h2 := (List.find?_range_eq_some.1 hf).2.2 j hj
      simpa using h2
    have hlb := low_bit hbt hl
    have hs : List.range 64 = List.range t ++ t :: (List.range (63 - t)).map (t + 1 + ·) := by
      have e : (64 : Nat) = (t + 1) + (63 - t) := by omega
      rw [e, List.range_add, List.range_succ, List.append_assoc]
      rfl
    have hA : (List.range t).filter m.testBit = [] := List.filter_eq_nil_iff.2 fun x hx => by rw [hl x (List.mem_range.1 hx)]; simp
    have hB : (List.range t).filter (low m).testBit = [] := List.filter_eq_nil_iff.2 fun x hx => by rw [hlb, hl x (List.mem_range.1 hx)]; simp
    have hC : ((List.range (63 - t)).map (t + 1 + ·)).filter m.testBit = ((List.range (63 - t)).map (t + 1 + ·)).filter (low m).testBit := by
      apply List.filter_congr
      intro x hx
      obtain ⟨y, _, rfl⟩ := List.mem_map.1 hx
      rw [hlb, decide_eq_true (show t < t + 1 + y by omega), Bool.and_true]
    unfold els
    rw [htz, hs, List.filter_append, List.filter_append, hA, hB, List.nil_append, List.nil_append, List.filter_cons_of_pos hbt, List.filter_cons_of_neg (by rw [hlb]; simp), hC]
end Go.Proofs.YtlomhoohmcnniaaDoor.PO

namespace Go.Proofs.YtlomhoohmcnniaaDoor.PO
open Go.Proofs.YtlomhoohmcnniaaDoor

def rw_ (R : List Nat) (a : Nat) : Nat := R[a]?.getD 0
/-- Those of B are closed, the others as they came. -/
structure Clo (R0 : List Nat) (B : List Nat) (R : List Nat) : Prop where
  len : R.length = R0.length
  don : ∀ x ∈ B, ∀ c, lt R x c = true ↔ Up (rows R0) x c
  old : ∀ x, x ∉ B → R[x]? = R0[x]?
  small : ∀ m ∈ R, m < 2 ^ R0.length
theorem Clo.nil {R0 : List Nat} (hs : Small R0) : Clo R0 [] R0 := ⟨rfl, (fun x h => by cases h), fun _ _ => rfl, hs.2⟩
theorem rw_lt {R : List Nat} {n : Nat} (h : ∀ m ∈ R, m < 2 ^ n) (a : Nat) : rw_ R a < 2 ^ n := by
  unfold rw_
  cases e : R[a]? with
  | none => exact Nat.two_pow_pos n
  | some m => exact h m (List.mem_of_getElem? e)
theorem through_lt {R : Nat → Nat} {n : Nat} (hR : ∀ b, R b < 2 ^ n) (bs : List Nat) : through R bs < 2 ^ n := by
  unfold through
  suffices ∀ (bs : List Nat) (r : Nat), r < 2 ^ n → bs.foldl (fun r b => if r.testBit b then r else r ||| R b) r < 2 ^ n from this bs 0 (Nat.two_pow_pos n)
  intro bs
  induction bs with
  | nil => exact fun r h => h
  | cons b t ih =>
    intro r hr
    rw [List.foldl_cons]
    apply ih
    split
    · exact hr
    · exact Nat.or_lt_two_pow hr (hR b)
theorem els_nb {R : List Nat} (a : Nat) : els (rw_ R a) = nb (rows R) a := by
  unfold rw_ nb rows
  rw [List.getElem?_map]
  cases R[a]? with
  | none => exact els_zero
  | some m => rfl
theorem Clo.step {R0 A B R L : List Nat} {a : Nat} (h : Clo R0 B R) (hs : Small R0) (hf : Fore (rows R0) L) (hd : L.Nodup) (hw : ∀ x, x < R0.length → x ∈ L) (ha : a < R0.length) (e : L = A ++ a :: B) :
    Clo R0 (a :: B) (R.set a (rw_ R a ||| through (rw_ R) (els (rw_ R a)))) := by
  have haB : a ∉ B := by
    rw [e, List.nodup_append] at hd
    exact (List.nodup_cons.1 hd.2.1).1
  have hRa : rw_ R a = rw_ R0 a := by unfold rw_; rw [h.old a haB]
  have hnb : ∀ b ∈ nb (rows R0) a, b ∈ B := by
    intro b hb
    have hbn : b < R0.length := by have := nb_to (rows_good hs) hb; rwa [rows_len] at this
    have hbL := hw b hbn
    rw [e] at hbL
    have haA : a ∉ A := by
      rw [e, List.nodup_append] at hd
      exact fun hm => hd.2.2 a hm a (by simp) rfl
    rcases List.mem_append.1 hbL with hm | hm
    · obtain ⟨A1, B1, rfl⟩ := List.append_of_mem hm
      have h1 := hf A1 b (B1 ++ a :: B) (by rw [e]; simp) a hb
      exact absurd (List.mem_append_left _ h1) haA
    · rcases List.mem_cons.1 hm with e2 | hm
      · subst e2
        exact absurd (hf A b B e b hb) haA
      · exact hm
  have hth : ∀ c, (through (rw_ R) (els (rw_ R a))).testBit c = true ↔ ∃ b ∈ nb (rows R0) a, Up (rows R0) b c := by
    intro c
    rw [hRa, els_nb]
    exact through_bit _ (fun b hb c => h.don b (hnb b hb) c) c
  have hal : a < R.length := by rw [h.len]; exact ha
  refine ⟨by rw [List.length_set]; exact h.len, fun x hx c => ?_, fun x hx => ?_, fun m hm => ?_⟩
  · by_cases ex : x = a
    · subst ex
      unfold lt
      rw [List.getElem?_set_self hal, Option.getD_some, Nat.testBit_or, Bool.or_eq_true, hth, Up.iff, hRa]
      unfold rw_
      rw [← nb_rows hs]
    · rcases List.mem_cons.1 hx with e2 | hx
      · exact absurd e2 ex
      · unfold lt
        rw [List.getElem?_set_ne (Ne.symm ex)]
        exact h.don x hx c
  · rw [List.mem_cons, not_or] at hx
    rw [List.getElem?_set_ne (Ne.symm hx.1)]
    exact h.old x hx.2
  · rcases List.mem_or_eq_of_mem_set hm with hm | rfl
    · exact h.small m hm
    · exact Nat.or_lt_two_pow (rw_lt h.small a) (through_lt (fun b => rw_lt h.small b) _)
theorem Clo.cl {R0 B R : List Nat} (h : Clo R0 B R) (hs : Small R0) (hB : ∀ x, x < R0.length → x ∈ B) (hc : ¬ Cyc (rows R0)) : Cl R ∧ ∀ a b, lt R a b = true ↔ Up (rows R0) a b := by
  have hs2 : Small R := ⟨by rw [h.len]; exact hs.1, fun m hm => by rw [h.len]; exact h.small m hm⟩
  have key : ∀ a b, lt R a b = true ↔ Up (rows R0) a b := by
    intro a b
    rcases Nat.lt_or_ge a R0.length with h1 | h1
    · exact h.don a (hB a h1) b
    · constructor
      · intro h2
        have := lt_from h2
        rw [h.len] at this
        omega
      · intro h2
        have := h2.from
        rw [rows_len] at this
        omega
  refine ⟨⟨hs2, fun a => ?_, fun a b c h1 h2 => ?_⟩, key⟩
  · cases e : lt R a a with
    | false => rfl
    | true => exact absurd ⟨a, (key a a).1 e⟩ hc
  · exact (key a c).2 (((key a b).1 h1).trans ((key b c).1 h2))

/-! ### adding pairs -/
/-- The rows of some pairs. -/
def addP (R : List Nat) (p : Nat × Nat) : List Nat := R.set p.1 (rw_ R p.1 ||| 2 ^ p.2)
def rowsP (n : Nat) (E : List (Nat × Nat)) : List Nat := E.foldl addP (List.replicate n 0)
theorem rowsP_snoc (n : Nat) (E : List (Nat × Nat)) (p : Nat × Nat) : rowsP n (E ++ [p]) = addP (rowsP n E) p := by
  unfold rowsP
  rw [List.foldl_append]
  rfl
theorem addP_len (R : List Nat) (p : Nat × Nat) : (addP R p).length = R.length := by simp [addP]
theorem rowsP_len (n : Nat) (E : List (Nat × Nat)) : (rowsP n E).length = n := by
  unfold rowsP
  suffices ∀ (E : List (Nat × Nat)) (R : List Nat), (E.foldl addP R).length = R.length by rw [this]; simp
  intro E
  induction E with
  | nil => exact fun _ => rfl
  | cons p t ih => intro R; rw [List.foldl_cons, ih, addP_len]
theorem rowsP_small (n : Nat) (hn : n ≤ 64) (E : List (Nat × Nat)) (hE : ∀ p ∈ E, p.2 < n) : Small (rowsP n E) := by
  refine ⟨by rw [rowsP_len]; exact hn, ?_⟩
  rw [rowsP_len]
  unfold rowsP
  suffices ∀ (E : List (Nat × Nat)) (R : List Nat), (∀ p ∈ E, p.2 < n) → (∀ m ∈ R, m < 2 ^ n) → ∀ m ∈ E.foldl addP R, m < 2 ^ n from
    this E _ hE fun m hm => by rw [List.eq_of_mem_replicate hm]; exact Nat.two_pow_pos n
  intro E
  induction E with
  | nil => exact fun R _ h => h
  | cons p t ih =>
    intro R hE hR
    rw [List.foldl_cons]
    refine ih _ (fun q hq => hE q (List.mem_cons_of_mem _ hq)) fun m hm => ?_
    unfold addP at hm
    rcases List.mem_or_eq_of_mem_set hm with hm | rfl
    · exact hR m hm
    · exact add_lt (rw_lt hR _) (hE p (by simp))
theorem rowsP_lt (n : Nat) (E : List (Nat × Nat)) (hE : ∀ p ∈ E, p.1 < n) (a b : Nat) : lt (rowsP n E) a b = true ↔ (a, b) ∈ E := by
  suffices ∀ k, k ≤ E.length → ∀ a b, lt (rowsP n (E.take k)) a b = true ↔ (a, b) ∈ E.take k by
    have := this E.length (Nat.le_refl _) a b
    rwa [List.take_length] at this
  intro k
  induction k with
  | zero =>
    intro _ a b
    unfold rowsP lt
    simp only [List.take_zero, List.foldl_nil, List.getElem?_replicate]
    split <;> simp
  | succ k ih =>
    intro hk a b
    have hp : E[k]? = some E[k] := List.getElem?_eq_getElem (by omega)
    obtain ⟨⟨p1, p2⟩, hpe⟩ : ∃ p, E[k] = p := ⟨_, rfl⟩
    rw [hpe] at hp
    have hp1 := hE _ (List.mem_of_getElem? hp)
    rw [List.take_add_one, hp]
    simp only [Option.toList]
    rw [rowsP_snoc, List.mem_append, List.mem_singleton, ← ih (by omega)]
    unfold addP lt
    have hl : p1 < (rowsP n (E.take k)).length := by rw [rowsP_len]; exact hp1
    by_cases e : p1 = a
    · subst e
      rw [List.getElem?_set_self hl, Option.getD_some, add_bit, Bool.or_eq_true, decide_eq_true_iff]
      simp [rw_]
    · rw [List.getElem?_set_ne e]
      have : ¬ (a, b) = (p1, p2) := fun h => e (by injection h with h1 h2; exact h1.symm)
      simp [this]
theorem rowsP_nb (n : Nat) (hn : n ≤ 64) (E : List (Nat × Nat)) (hE : ∀ p ∈ E, p.1 < n ∧ p.2 < n) (a b : Nat) : b ∈ nb (rows (rowsP n E)) a ↔ (a, b) ∈ E := by
  rw [lt_nb (rowsP_small n hn E fun p hp => (hE p hp).2), rowsP_lt n E fun p hp => (hE p hp).1]
end Go.Proofs.YtlomhoohmcnniaaDoor.PO
