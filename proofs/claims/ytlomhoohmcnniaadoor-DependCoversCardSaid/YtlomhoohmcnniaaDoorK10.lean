/-
  Graphs as lists of lists of naturals; sorted lists that hold the same are one list; what slices.Sort and slices.Compact make. Plain mathematics; no function of the program.
  Binary heaps as lists of naturals: what one round of 'up' and of 'down' keeps; the root is the least. Plain mathematics; no function of the program.
  The least topological order as a function on lists: at each step the least vertex whose predecessors all stand in the order. Plain mathematics; no function of the program.
  Orders as functions on numbers: paths, closure, the closure of a matrix, covers, linear orders. Plain mathematics; no function of the program.
-/
import Derived.Lib.SlicesCompact

namespace Go.Proofs.YtlomhoohmcnniaaDoor
open Go

/-- Two strictly increasing lists that hold the same are one list. -/
theorem sorted_ext {α : Type} (lt : α → α → Prop) (irr : ∀ x, ¬ lt x x) (tr : ∀ x y z, lt x y → lt y z → lt x z) : ∀ (a b : List α), a.Pairwise lt → b.Pairwise lt → (∀ x, x ∈ a ↔ x ∈ b) → a = b := by
  intro a
  induction a with
  | nil =>
    intro b _ _ h
    cases b with
    | nil => rfl
    | cons y ys => exact absurd ((h y).2 (by simp)) (by simp)
  | cons x xs ih =>
    intro b ha hb h
    cases b with
    | nil => exact absurd ((h x).1 (by simp)) (by simp)
    | cons y ys =>
      rw [List.pairwise_cons] at ha hb
      have hxy : x = y := by
        rcases List.mem_cons.1 ((h x).1 (by simp)) with e | e
        · exact e
        · rcases List.mem_cons.1 ((h y).2 (by simp)) with e' | e'
          · exact e'.symm
          · exact absurd (tr _ _ _ (ha.1 y e') (hb.1 x e)) (irr _)
      subst hxy
      refine congrArg (x :: ·) (ih ys ha.2 hb.2 fun z => ?_)
      constructor
      · intro hz
        rcases List.mem_cons.1 ((h z).1 (by simp [hz])) with e | e
        · subst e; exact absurd (ha.1 z hz) (irr _)
        · exact e
      · intro hz
        rcases List.mem_cons.1 ((h z).2 (by simp [hz])) with e | e
        · subst e; exact absurd (hb.1 z hz) (irr _)
        · exact e
theorem sorted_ext_int (a b : List Int) (ha : a.Pairwise (· < ·)) (hb : b.Pairwise (· < ·)) (h : ∀ x, x ∈ a ↔ x ∈ b) : a = b :=
  sorted_ext (· < ·) (fun x => Int.lt_irrefl x) (fun _ _ _ => Int.lt_trans) a b ha hb h
theorem sorted_ext_nat (a b : List Nat) (ha : a.Pairwise (· < ·)) (hb : b.Pairwise (· < ·)) (h : ∀ x, x ∈ a ↔ x ∈ b) : a = b :=
  sorted_ext (· < ·) (fun x => Nat.lt_irrefl x) (fun _ _ _ => Nat.lt_trans) a b ha hb h
theorem range_sorted (n : Nat) : (List.range n).Pairwise (· < ·) := List.pairwise_lt_range

/-- Compact keeps what a list holds. -/
theorem compact_mem (d : Array Int) (m : Nat) (x : Int) : x ∈ Lib.compactUpTo d m ↔ ∃ i, i < m ∧ d[i]! = x := by
  induction m with
  | zero => simp [Lib.compactUpTo]
  | succ m ih =>
    rw [Lib.compactUpTo_succ, List.mem_append, ih]
    by_cases hk : Lib.keeps d m = true
    · rw [if_pos hk]
      constructor
      · rintro (⟨i, hi, e⟩ | h)
        · exact ⟨i, by omega, e⟩
        · exact ⟨m, by omega, (List.mem_singleton.1 h).symm⟩
      · rintro ⟨i, hi, e⟩
        by_cases him : i = m
        · subst him; exact .inr (List.mem_singleton.2 e.symm)
        · exact .inl ⟨i, by omega, e⟩
    · rw [if_neg hk]
      constructor
      · rintro (⟨i, hi, e⟩ | h)
        · exact ⟨i, by omega, e⟩
        · cases h
      · rintro ⟨i, hi, e⟩
        by_cases him : i = m
        · subst him
          unfold Lib.keeps at hk
          simp at hk
          exact .inl ⟨i - 1, by omega, by rw [← e, hk.2]⟩
        · exact .inl ⟨i, by omega, e⟩
theorem compact_sorted (d : Array Int) (hd : ∀ i j, i ≤ j → j < d.size → d[i]! ≤ d[j]!) (m : Nat) (hm : m ≤ d.size) : (Lib.compactUpTo d m).Pairwise (· < ·) := by
  induction m with
  | zero => simp [Lib.compactUpTo]
  | succ m ih =>
    rw [Lib.compactUpTo_succ, List.pairwise_append]
    refine ⟨ih (by omega), by split <;> simp, fun x hx y hy => ?_⟩
    by_cases hk : Lib.keeps d m = true
    · rw [if_pos hk] at hy
      have hy := List.mem_singleton.1 hy
      subst hy
      obtain ⟨i, hi, e⟩ := (compact_mem d m x).1 hx
      unfold Lib.keeps at hk
      simp at hk
      rcases hk with hk | hk
      · omega
      · have h1 := hd i (m - 1) (by omega) (by omega)
        have h2 := hd (m - 1) m (by omega) (by omega)
        omega
    · rw [if_neg hk] at hy
      cases hy
/-- What Sort and Compact make of a list: the strictly increasing list that holds the same. -/
theorem compact_sort (l s : List Int) (hs : s.Pairwise (· < ·)) (h : ∀ x, x ∈ s ↔ x ∈ l) : Lib.compact (l.mergeSort fun x y => decide (x ≤ y)) = s := by
  have hp : (l.mergeSort fun x y => decide (x ≤ y)).Pairwise (fun x y => x ≤ y) := by
    have := List.pairwise_mergeSort (le := fun x y : Int => decide (x ≤ y)) (by intro a b c h1 h2; simp at *; omega) (by intro a b; simp; omega) l
    exact this.imp (by intro a b hab; simpa using hab)
  have hm := List.mergeSort_perm l fun x y => decide (x ≤ y)
  obtain ⟨m, hml⟩ : ∃ m, (l.mergeSort fun x y => decide (x ≤ y)) = m := ⟨_, rfl⟩
  rw [hml] at hp hm ⊢
  refine sorted_ext_int _ _ (compact_sorted _ (fun i j hij hj => ?_) _ (by simp)) hs fun x => ?_
  · have hj' : j < m.length := by simpa using hj
    rw [getElem!_pos _ i (by simp; omega), getElem!_pos _ j (by simpa using hj')]
    simp only [List.getElem_toArray]
    rcases Nat.lt_or_ge i j with hlt | hge
    · exact List.pairwise_iff_getElem.1 hp i j (by omega) hj' hlt
    · have : i = j := by omega
      subst this
      exact Int.le_refl _
  · unfold Lib.compact
    rw [compact_mem, h, ← hm.mem_iff]
    constructor
    · rintro ⟨i, hi, e⟩
      rw [getElem!_pos _ i (by simpa using hi)] at e
      rw [← e]
      simp
    · intro hx
      obtain ⟨i, hi, e⟩ := List.mem_iff_getElem.1 hx
      exact ⟨i, hi, by rw [getElem!_pos _ i (by simpa using hi)]; simpa using e⟩

/-- The successors of v. -/
def nb (nx : List (List Nat)) (v : Nat) : List Nat := nx[v]?.getD []
def succRow (n : Nat) (E : List (Nat × Nat)) (v : Nat) : List Nat := (List.range n).filter fun w => decide ((v, w) ∈ E)
def succs (n : Nat) (E : List (Nat × Nat)) : List (List Nat) := (List.range n).map (succRow n E)
def predRow (nx : List (List Nat)) (w : Nat) : List Nat := (List.range nx.length).filter fun v => decide (w ∈ nb nx v)
def preds (nx : List (List Nat)) : List (List Nat) := (List.range nx.length).map (predRow nx)
/-- Each row is strictly increasing and names vertices. -/
def Good (nx : List (List Nat)) : Prop := ∀ l ∈ nx, l.Pairwise (· < ·) ∧ ∀ w ∈ l, w < nx.length
theorem filter_sorted {l : List Nat} (p : Nat → Bool) (h : l.Pairwise (· < ·)) : (l.filter p).Pairwise (· < ·) := h.filter p
theorem succs_len (n : Nat) (E : List (Nat × Nat)) : (succs n E).length = n := by simp [succs]
theorem preds_len (nx : List (List Nat)) : (preds nx).length = nx.length := by simp [preds]
theorem succs_at (n : Nat) (E : List (Nat × Nat)) {v : Nat} (h : v < n) : (succs n E)[v]? = some (succRow n E v) := by simp [succs, h]
theorem preds_at (nx : List (List Nat)) {v : Nat} (h : v < nx.length) : (preds nx)[v]? = some (predRow nx v) := by simp [preds, h]
theorem succs_good (n : Nat) (E : List (Nat × Nat)) : Good (succs n E) := by
  intro l hl
  obtain ⟨v, _, rfl⟩ := List.mem_map.1 hl
  refine ⟨filter_sorted _ (range_sorted n), fun w hw => ?_⟩
  rw [succs_len]
  exact List.mem_range.1 (List.mem_filter.1 hw).1
theorem preds_good (nx : List (List Nat)) : Good (preds nx) := by
  intro l hl
  obtain ⟨v, _, rfl⟩ := List.mem_map.1 hl
  refine ⟨filter_sorted _ (range_sorted _), fun w hw => ?_⟩
  rw [preds_len]
  exact List.mem_range.1 (List.mem_filter.1 hw).1
theorem nb_succs {n : Nat} {E : List (Nat × Nat)} (hE : ∀ e ∈ E, e.1 < n ∧ e.2 < n) (v w : Nat) : w ∈ nb (succs n E) v ↔ (v, w) ∈ E := by
  unfold nb
  by_cases hv : v < n
  · rw [succs_at n E hv]
    simp [succRow]
    intro h
    exact (hE _ h).2
  · rw [List.getElem?_eq_none (by rw [succs_len]; omega)]
    simp
    intro h
    exact hv (hE _ h).1
theorem nb_preds (nx : List (List Nat)) (hg : Good nx) (v w : Nat) : v ∈ nb (preds nx) w ↔ w ∈ nb nx v := by
  unfold nb
  by_cases hw : w < nx.length
  · rw [preds_at nx hw]
    simp only [predRow, Option.getD_some, List.mem_filter, List.mem_range, decide_eq_true_eq]
    unfold nb
    constructor
    · exact fun h => h.2
    · intro h
      refine ⟨?_, h⟩
      rcases Nat.lt_or_ge v nx.length with hv | hv
      · exact hv
      · rw [List.getElem?_eq_none hv] at h
        cases h
  · rw [List.getElem?_eq_none (by rw [preds_len]; omega)]
    simp
    rcases Nat.lt_or_ge v nx.length with hv | hv
    · rw [List.getElem?_eq_getElem hv]
      intro h
      exact hw ((hg _ (List.getElem_mem hv)).2 w (by simpa using h))
    · rw [List.getElem?_eq_none hv]
      simp
end Go.Proofs.YtlomhoohmcnniaaDoor

namespace Go.Proofs.YtlomhoohmcnniaaDoor

/-- What stands at place i. -/
def hAt (l : List Nat) (i : Nat) : Nat := l[i]?.getD 0
def swp (l : List Nat) (i j : Nat) : List Nat := (l.set i (hAt l j)).set j (hAt l i)
theorem swp_len (l : List Nat) (i j : Nat) : (swp l i j).length = l.length := by simp [swp]
theorem hAt_set (l : List Nat) (i k x : Nat) (h : i < l.length) : hAt (l.set i x) k = if i = k then x else hAt l k := by
  unfold hAt
  by_cases e : i = k
  · subst e
    rw [if_pos rfl, List.getElem?_set_self h]
    rfl
  · rw [if_neg e, List.getElem?_set_ne e]
theorem hAt_swp (l : List Nat) {i j : Nat} (k : Nat) (hi : i < l.length) (hj : j < l.length) : hAt (swp l i j) k = if j = k then hAt l i else if i = k then hAt l j else hAt l k := by
  unfold swp
  rw [hAt_set _ _ _ _ (by simpa using hj), hAt_set _ _ _ _ hi]
theorem hAt_get (l : List Nat) {i : Nat} (h : i < l.length) : l[i]? = some (hAt l i) := by
  unfold hAt
  rw [List.getElem?_eq_getElem h]
  rfl
theorem set_perm (l : List Nat) : ∀ (j : Nat) (x : Nat) (_ : j < l.length), (hAt l j :: l.set j x).Perm (x :: l) := by
  induction l with
  | nil => intro j x h; exact absurd h (by simp)
  | cons a tl ih =>
    intro j x h
    cases j with
    | zero => simpa [hAt] using List.Perm.swap x a tl
    | succ j =>
      have h1 : hAt (a :: tl) (j + 1) = hAt tl j := by simp [hAt]
      rw [h1, List.set_cons_succ]
      exact ((List.Perm.swap _ _ _).trans ((ih j x (by simpa using h)).cons a)).trans (List.Perm.swap _ _ _)
theorem swp_perm (l : List Nat) {i j : Nat} (hi : i < l.length) (hj : j < l.length) : (swp l i j).Perm l := by
  by_cases e : i = j
  · subst e
    unfold swp
    have : ∀ k : Nat, ((l.set i (hAt l i)).set i (hAt l i))[k]? = l[k]? := by
      intro k
      by_cases ek : i = k
      · subst ek
        rw [List.getElem?_set_self (by simpa using hi), hAt_get l hi]
      · rw [List.getElem?_set_ne ek, List.getElem?_set_ne ek]
    rw [List.ext_getElem? (l₂ := l) this]
  · unfold swp
    have h1 := set_perm (l.set i (hAt l j)) j (hAt l i) (by simpa using hj)
    rw [hAt_set _ _ _ _ hi, if_neg e] at h1
    have h2 := set_perm l i (hAt l j) hi
    have h3 := h1.trans h2
    exact (List.perm_cons (hAt l j)).1 h3

/-- The first n places of l are a heap. -/
def IsHeap (l : List Nat) (n : Nat) : Prop := ∀ k, 0 < k → k < n → hAt l ((k - 1) / 2) ≤ hAt l k
/-- A heap but for place j, which may be too small. -/
def UpTo (l : List Nat) (j : Nat) : Prop := (∀ k, 0 < k → k < l.length → k ≠ j → hAt l ((k - 1) / 2) ≤ hAt l k) ∧ (0 < j → ∀ k, 0 < k → k < l.length → (k - 1) / 2 = j → hAt l ((j - 1) / 2) ≤ hAt l k)
theorem up_start (l : List Nat) (v : Nat) (h : IsHeap l l.length) : UpTo (l ++ [v]) l.length := by
  have key : ∀ k, k < l.length → hAt (l ++ [v]) k = hAt l k := fun k hk => by
    unfold hAt
    rw [List.getElem?_append_left hk]
  refine ⟨fun k h0 hk hne => ?_, fun _ k h0 hk hp => ?_⟩
  · simp at hk
    rw [key k (by omega), key _ (by omega)]
    exact h k h0 (by omega)
  · simp at hk
    omega
theorem up_round {l : List Nat} {i j : Nat} (h : UpTo l j) (hp : (j - 1) / 2 = i) (h0 : 0 < j) (hj : j < l.length) (hlt : hAt l j < hAt l i) : UpTo (swp l i j) i := by
  have hi : i < l.length := by omega
  have hs := fun k => hAt_swp l k hi hj
  obtain ⟨h1, h2⟩ := h
  rw [hp] at h2
  refine ⟨fun k k0 hk hne => ?_, fun p0 k k0 hk hpk => ?_⟩
  · rw [swp_len] at hk
    rw [hs, hs]
    by_cases ekj : j = k
    · subst ekj
      rw [hp, if_pos rfl, if_neg (by omega), if_pos rfl]
      omega
    · rw [if_neg ekj, if_neg (show ¬ i = k from fun e => hne e.symm)]
      by_cases e1 : j = (k - 1) / 2
      · rw [if_pos e1]
        exact h2 h0 k k0 hk e1.symm
      · rw [if_neg e1]
        have h3 := h1 k k0 hk (fun e => ekj e.symm)
        by_cases e2 : i = (k - 1) / 2
        · rw [if_pos e2]
          rw [← e2] at h3
          omega
        · rw [if_neg e2]
          exact h3
  · rw [swp_len] at hk
    rw [hs, hs]
    have h4 := h1 i (by omega) (by omega) (by omega)
    rw [if_neg (show ¬ j = (i - 1) / 2 by omega), if_neg (show ¬ i = (i - 1) / 2 by omega)]
    by_cases ekj : j = k
    · rw [if_pos ekj]
      exact h4
    · rw [if_neg ekj, if_neg (show ¬ i = k by omega)]
      have h5 := h1 k k0 hk (fun e => ekj e.symm)
      rw [hpk] at h5
      exact Nat.le_trans h4 h5
theorem up_done {l : List Nat} {j : Nat} (h : UpTo l j) (hd : j = 0 ∨ hAt l ((j - 1) / 2) ≤ hAt l j) : IsHeap l l.length := by
  intro k k0 hk
  by_cases e : k = j
  · subst e
    rcases hd with hd | hd
    · omega
    · exact hd
  · exact h.1 k k0 hk e

/-- A heap of n places but for place i, which may be too great. -/
def DownTo (l : List Nat) (i n : Nat) : Prop := (∀ k, 0 < k → k < n → (k - 1) / 2 ≠ i → hAt l ((k - 1) / 2) ≤ hAt l k) ∧ (0 < i → ∀ k, 0 < k → k < n → (k - 1) / 2 = i → hAt l ((i - 1) / 2) ≤ hAt l k)
theorem down_start {l : List Nat} {n : Nat} (h : IsHeap l l.length) (hl : l.length = n + 1) : DownTo (swp l 0 n) 0 n := by
  refine ⟨fun k k0 hk hne => ?_, fun h => absurd h (by omega)⟩
  rw [hAt_swp l _ (by omega) (by omega), hAt_swp l _ (by omega) (by omega), if_neg (by omega), if_neg (by omega), if_neg (by omega), if_neg (by omega)]
  exact h k k0 (by omega)
/-- One round: j is the lesser child. -/
theorem down_round {l : List Nat} {i n j : Nat} (h : DownTo l i n) (hn : n ≤ l.length) (hj : j < n) (hji : j = 2 * i + 1 ∨ j = 2 * i + 2) (hlt : hAt l j < hAt l i)
    (hmin : ∀ k, k = 2 * i + 1 ∨ k = 2 * i + 2 → k < n → hAt l j ≤ hAt l k) : DownTo (swp l i j) j n := by
  have hs := fun k => hAt_swp l (i := i) (j := j) k (by omega) (by omega)
  obtain ⟨h1, h2⟩ := h
  refine ⟨fun k k0 hk hne => ?_, fun p0 k k0 hk hp => ?_⟩
  · rw [hs, hs, if_neg (fun e => hne e.symm)]
    by_cases e1 : j = k
    · subst e1
      rw [if_pos rfl, if_pos (by omega)]
      omega
    · rw [if_neg e1]
      by_cases e2 : i = (k - 1) / 2
      · rw [if_pos e2, if_neg (by omega)]
        exact hmin k (by omega) hk
      · rw [if_neg e2]
        have h3 := h1 k k0 hk (fun e => e2 e.symm)
        by_cases e3 : i = k
        · subst e3
          rw [if_pos rfl]
          exact h2 k0 j (by omega) hj (by omega)
        · rw [if_neg e3]
          exact h3
  · rw [hs, hs, if_neg (by omega), if_pos (by omega), if_neg (by omega), if_neg (by omega)]
    have h3 := h1 k k0 hk (by omega)
    rw [hp] at h3
    exact h3
theorem down_done {l : List Nat} {i n : Nat} (h : DownTo l i n) (hd : ∀ k, k = 2 * i + 1 ∨ k = 2 * i + 2 → k < n → hAt l i ≤ hAt l k) : IsHeap l n := by
  intro k k0 hk
  by_cases e : (k - 1) / 2 = i
  · rw [e]
    exact hd k (by omega) hk
  · exact h.1 k k0 hk e
/-- The root is the least. -/
theorem heap_root {l : List Nat} {n : Nat} (h : IsHeap l n) : ∀ k, k < n → hAt l 0 ≤ hAt l k := by
  intro k
  induction k using Nat.strongRecOn with
  | ind k ih =>
    intro hk
    rcases Nat.eq_zero_or_pos k with e | e
    · subst e; exact Nat.le_refl _
    · exact Nat.le_trans (ih ((k - 1) / 2) (by omega) (by omega)) (h k e hk)
theorem heap_least {l : List Nat} (h : IsHeap l l.length) : ∀ x ∈ l, hAt l 0 ≤ x := by
  intro x hx
  obtain ⟨i, hi, e⟩ := List.mem_iff_getElem.1 hx
  have := heap_root h i hi
  unfold hAt at this
  rw [List.getElem?_eq_getElem hi, e] at this
  exact this
theorem heap_take {l : List Nat} {n : Nat} (h : IsHeap l n) (hn : n ≤ l.length) : IsHeap (l.take n) (l.take n).length := by
  have hl : (l.take n).length = n := by rw [List.length_take]; omega
  have key : ∀ k, k < n → hAt (l.take n) k = hAt l k := fun k hk => by
    unfold hAt
    rw [List.getElem?_take_of_lt hk]
  rw [hl]
  intro k k0 hk
  rw [key k hk, key _ (by omega)]
  exact h k k0 hk
theorem last_take {l : List Nat} {n : Nat} (hl : l.length = n + 1) : l = l.take n ++ [hAt l n] := by
  have hd : l.drop n = [hAt l n] := by
    rw [List.drop_eq_getElem_cons (by omega), List.drop_of_length_le (by omega)]
    unfold hAt
    rw [List.getElem?_eq_getElem (by omega)]
    rfl
  rw [← hd, List.take_append_drop]
end Go.Proofs.YtlomhoohmcnniaaDoor

namespace Go.Proofs.YtlomhoohmcnniaaDoor

/-- All predecessors of w stand in d. -/
def predIn (nx : List (List Nat)) (d : List Nat) (w : Nat) : Bool := (List.range nx.length).all fun u => !decide (w ∈ nb nx u) || decide (u ∈ d)
theorem predIn_iff (nx : List (List Nat)) (d : List Nat) (w : Nat) : predIn nx d w = true ↔ ∀ u, u < nx.length → w ∈ nb nx u → u ∈ d := by
  unfold predIn
  simp only [List.all_eq_true, List.mem_range, Bool.or_eq_true, Bool.not_eq_true', decide_eq_false_iff_not, decide_eq_true_eq]
  constructor
  · intro h u hu hw
    rcases h u hu with h1 | h1
    · exact absurd hw h1
    · exact h1
  · intro h u hu
    by_cases hw : w ∈ nb nx u
    · exact .inr (h u hu hw)
    · exact .inl hw
/-- w may come next. -/
def canGo (nx : List (List Nat)) (d : List Nat) (w : Nat) : Bool := !decide (w ∈ d) && predIn nx d w
theorem canGo_iff (nx : List (List Nat)) (d : List Nat) (w : Nat) : canGo nx d w = true ↔ w ∉ d ∧ ∀ u, u < nx.length → w ∈ nb nx u → u ∈ d := by
  unfold canGo
  rw [Bool.and_eq_true, predIn_iff]
  simp
def kStep (nx : List (List Nat)) (d : List Nat) : Option Nat := (List.range nx.length).find? (canGo nx d)
def kahn (nx : List (List Nat)) : Nat → List Nat → List Nat
  | 0, d => d
  | f + 1, d => match kStep nx d with
    | none => d
    | some v => kahn nx f (d ++ [v])
def topoL (nx : List (List Nat)) : List Nat := kahn nx nx.length []
/-- How many predecessors of w do not stand in d. -/
def kWait (nx : List (List Nat)) (d : List Nat) (w : Nat) : Nat := ((List.range nx.length).filter fun u => decide (w ∈ nb nx u) && !decide (u ∈ d)).length

theorem nodup_len : ∀ (n : Nat) (l : List Nat), l.Nodup → (∀ x ∈ l, x < n) → l.length ≤ n
  | 0, l, _, h => by
    cases l with
    | nil => exact Nat.le_refl _
    | cons a tl => exact absurd (h a (by simp)) (by omega)
  | n + 1, l, hd, h => by
    by_cases hn : n ∈ l
    · have h1 := nodup_len n (l.erase n) (hd.erase n) (fun x hx => by
        have h2 := (List.Nodup.mem_erase_iff hd).1 hx
        have := h x h2.2
        omega)
      rw [List.length_erase_of_mem hn] at h1
      omega
    · have := nodup_len n l hd (fun x hx => by
        have := h x hx
        rcases Nat.lt_or_ge x n with h3 | h3
        · exact h3
        · obtain rfl : x = n := by omega
          exact absurd hx hn)
      omega
theorem wait_zero (nx : List (List Nat)) (d : List Nat) (w : Nat) : kWait nx d w = 0 ↔ ∀ u, u < nx.length → w ∈ nb nx u → u ∈ d := by
  unfold kWait
  rw [List.length_eq_zero_iff, List.filter_eq_nil_iff]
  constructor
  · intro h u hu hw
    have := h u (List.mem_range.2 hu)
    simp only [Bool.and_eq_true, decide_eq_true_eq, Bool.not_eq_true', decide_eq_false_iff_not, not_and] at this
    rcases Classical.em (u ∈ d) with h1 | h1
    · exact h1
    · exact absurd h1 (this hw)
  · intro h u hu
    simp only [Bool.and_eq_true, decide_eq_true_eq, Bool.not_eq_true', decide_eq_false_iff_not, not_and]
    intro hw
    exact fun hn => hn (h u (List.mem_range.1 hu) hw)
theorem filter_split (l : List Nat) (p : Nat → Bool) (v : Nat) (hd : l.Nodup) (hv : v ∈ l) (hp : p v = true) : (l.filter p).length = (l.filter fun u => p u && !decide (u = v)).length + 1 := by
  induction l with
  | nil => cases hv
  | cons a tl ih =>
    rw [List.nodup_cons] at hd
    by_cases e : a = v
    · subst e
      have h1 : tl.filter p = tl.filter fun u => p u && !decide (u = a) := by
        apply List.filter_congr
        intro u hu
        have : u ≠ a := fun e => hd.1 (e ▸ hu)
        simp [this]
      rw [List.filter_cons, if_pos hp, List.filter_cons, if_neg (by simp), h1]
      rfl
    · have hv' : v ∈ tl := by
        rcases List.mem_cons.1 hv with h | h
        · exact absurd h.symm e
        · exact h
      have := ih hd.2 hv'
      rw [List.filter_cons, List.filter_cons]
      by_cases hpa : p a = true
      · rw [if_pos hpa, if_pos (by simp [hpa, e])]
        simp only [List.length_cons]
        omega
      · rw [if_neg hpa, if_neg (by simp [hpa])]
        exact this
/-- The order grows by v. -/
theorem wait_snoc (nx : List (List Nat)) (d : List Nat) (v w : Nat) (hv : v < nx.length) (hd : v ∉ d) : kWait nx d w = kWait nx (d ++ [v]) w + if w ∈ nb nx v then 1 else 0 := by
  have hf : ∀ u, (decide (w ∈ nb nx u) && !decide (u ∈ d ++ [v])) = ((decide (w ∈ nb nx u) && !decide (u ∈ d)) && !decide (u = v)) := by
    intro u
    by_cases h1 : w ∈ nb nx u <;> by_cases h2 : u ∈ d <;> by_cases h3 : u = v <;> simp [h1, h2, h3]
  unfold kWait
  by_cases hw : w ∈ nb nx v
  · rw [if_pos hw, filter_split (List.range nx.length) _ v List.nodup_range (List.mem_range.2 hv) (by simp [hw, hd])]
    simp only [hf]
  · rw [if_neg hw, Nat.add_zero]
    congr 1
    apply List.filter_congr
    intro u _
    rw [hf]
    by_cases h3 : u = v
    · subst h3
      simp [hw]
    · simp [h3]

/-- What holds of the order between two rounds. -/
structure KOk (nx : List (List Nat)) (d : List Nat) : Prop where
  nodup : d.Nodup
  lt : ∀ x ∈ d, x < nx.length
  closed : ∀ w ∈ d, ∀ u, u < nx.length → w ∈ nb nx u → u ∈ d
  way : kahn nx (nx.length - d.length) d = topoL nx
theorem KOk.nil (nx : List (List Nat)) : KOk nx [] := ⟨List.nodup_nil, (fun x h => by cases h), (fun w h => by cases h), rfl⟩
theorem KOk.len {nx : List (List Nat)} {d : List Nat} (h : KOk nx d) : d.length ≤ nx.length := nodup_len _ _ h.nodup h.lt
/-- H holds just what may come next. -/
structure Ready (nx : List (List Nat)) (d : List Nat) (H : List Nat) : Prop where
  nodup : H.Nodup
  mem : ∀ x, x ∈ H ↔ x < nx.length ∧ canGo nx d x = true
theorem Ready.len {nx : List (List Nat)} {d H : List Nat} (h : Ready nx d H) : H.length ≤ nx.length := nodup_len _ _ h.nodup fun x hx => ((h.mem x).1 hx).1
theorem step_least {nx : List (List Nat)} {d H : List Nat} {v : Nat} (h : Ready nx d H) (hv : v ∈ H) (hl : ∀ x ∈ H, v ≤ x) : kStep nx d = some v := by
  obtain ⟨h1, h2⟩ := (h.mem v).1 hv
  unfold kStep
  rw [List.find?_eq_some_iff_getElem]
  refine ⟨h2, v, by simpa using h1, by simp, fun j hj => ?_⟩
  have hjn : j < nx.length := by omega
  simp only [List.getElem_range]
  cases hc : canGo nx d j with
  | false => rfl
  | true =>
    have := hl j ((h.mem j).2 ⟨hjn, hc⟩)
    omega
theorem step_none {nx : List (List Nat)} {d : List Nat} (h : Ready nx d []) : kStep nx d = none := by
  unfold kStep
  rw [List.find?_eq_none]
  intro x hx hc
  have := (h.mem x).2 ⟨List.mem_range.1 hx, hc⟩
  cases this
theorem KOk.step {nx : List (List Nat)} {d H : List Nat} {v : Nat} (h : KOk nx d) (hr : Ready nx d H) (hv : v ∈ H) (hl : ∀ x ∈ H, v ≤ x) : KOk nx (d ++ [v]) := by
  obtain ⟨h1, h2⟩ := (hr.mem v).1 hv
  obtain ⟨h3, h4⟩ := (canGo_iff _ _ _).1 h2
  have hk := h.lt
  have hl1 : (d ++ [v]).length ≤ nx.length := nodup_len _ _ (by
    rw [List.nodup_append]
    exact ⟨h.nodup, by simp, fun a ha b hb => by
      rw [List.mem_singleton] at hb
      subst hb
      exact fun e => h3 (e ▸ ha)⟩) (fun x hx => by
    rcases List.mem_append.1 hx with hx | hx
    · exact hk x hx
    · rw [List.mem_singleton] at hx
      omega)
  refine ⟨?_, ?_, ?_, ?_⟩
  · rw [List.nodup_append]
    exact ⟨h.nodup, by simp, fun a ha b hb => by
      rw [List.mem_singleton] at hb
      subst hb
      exact fun e => h3 (e ▸ ha)⟩
  · intro x hx
    rcases List.mem_append.1 hx with hx | hx
    · exact hk x hx
    · rw [List.mem_singleton] at hx
      omega
  · intro w hw u hu hn
    rcases List.mem_append.1 hw with hw | hw
    · exact List.mem_append_left _ (h.closed w hw u hu hn)
    · rw [List.mem_singleton] at hw
      subst hw
      exact List.mem_append_left _ (h4 u hu hn)
  · rw [← h.way]
    simp only [List.length_append, List.length_cons, List.length_nil] at hl1 ⊢
    rw [show nx.length - d.length = (nx.length - (d.length + 1)) + 1 by omega, kahn, step_least hr hv hl]
theorem KOk.done {nx : List (List Nat)} {d : List Nat} (h : KOk nx d) (hr : Ready nx d []) : topoL nx = d := by
  rw [← h.way]
  cases nx.length - d.length with
  | zero => rfl
  | succ f => rw [kahn, step_none hr]
/-- In the inner loop: the successors of v up to j are told. -/
structure Mid (nx : List (List Nat)) (d : List Nat) (v j : Nat) (H : List Nat) : Prop where
  nodup : H.Nodup
  mem : ∀ x, x ∈ H ↔ x < nx.length ∧ ((canGo nx d x = true ∧ x ≠ v) ∨ (x ∈ (nb nx v).take j ∧ canGo nx (d ++ [v]) x = true))
/-- What a waiting count is then. -/
def mWait (nx : List (List Nat)) (d : List Nat) (v j w : Nat) : Nat := kWait nx d w - if w ∈ (nb nx v).take j then 1 else 0
theorem Mid.start {nx : List (List Nat)} {d H H' : List Nat} {v : Nat} (hr : Ready nx d H) (hp : (v :: H').Perm H) : Mid nx d v 0 H' := by
  have hn : (v :: H').Nodup := hp.nodup_iff.2 hr.nodup
  rw [List.nodup_cons] at hn
  refine ⟨hn.2, fun x => ?_⟩
  have hm : x ∈ H ↔ x = v ∨ x ∈ H' := by rw [← hp.mem_iff, List.mem_cons]
  constructor
  · intro hx
    obtain ⟨h1, h2⟩ := (hr.mem x).1 (hm.2 (.inr hx))
    exact ⟨h1, .inl ⟨h2, fun e => hn.1 (e ▸ hx)⟩⟩
  · rintro ⟨h1, ⟨h2, h3⟩ | ⟨h2, _⟩⟩
    · rcases hm.1 ((hr.mem x).2 ⟨h1, h2⟩) with e | e
      · exact absurd e h3
      · exact e
    · rw [List.take_zero] at h2
      cases h2
theorem Mid.len {nx : List (List Nat)} {d H : List Nat} {v j : Nat} (h : Mid nx d v j H) : H.length ≤ nx.length := nodup_len _ _ h.nodup fun x hx => ((h.mem x).1 hx).1
theorem good_row {nx : List (List Nat)} (hg : Good nx) {v : Nat} (hv : v < nx.length) : (nb nx v).Pairwise (· < ·) ∧ ∀ w ∈ nb nx v, w < nx.length := by
  unfold nb
  rw [List.getElem?_eq_getElem hv]
  exact hg _ (List.getElem_mem hv)
theorem take_at {l : List Nat} {j w : Nat} (h : l[j]? = some w) (hp : l.Pairwise (· < ·)) : w ∉ l.take j ∧ ∀ x, x ∈ l.take (j + 1) ↔ x ∈ l.take j ∨ x = w := by
  obtain ⟨hj, e⟩ := List.getElem?_eq_some_iff.1 h
  constructor
  · intro hm
    obtain ⟨i, hi, e2⟩ := List.mem_iff_getElem.1 hm
    rw [List.length_take] at hi
    rw [List.getElem_take] at e2
    have := List.pairwise_iff_getElem.1 hp i j (by omega) hj (by omega)
    omega
  · intro x
    rw [List.take_add_one, h]
    simp
section
variable {nx : List (List Nat)} {d H H' : List Nat} {v j w : Nat}
/-- The count that is lessened, and what it tells. -/
theorem mid_count (hg : Good nx) (hv : v < nx.length) (hd : v ∉ d) (hw : (nb nx v)[j]? = some w) : mWait nx d v j w = kWait nx (d ++ [v]) w + 1 ∧ mWait nx d v (j + 1) w = kWait nx (d ++ [v]) w := by
  obtain ⟨h1, h2⟩ := take_at hw (good_row hg hv).1
  have hm : w ∈ nb nx v := List.mem_of_getElem? hw
  have h3 := wait_snoc nx d v w hv hd
  rw [if_pos hm] at h3
  unfold mWait
  rw [if_neg h1, if_pos ((h2 w).2 (.inr rfl))]
  omega
theorem mid_other (hg : Good nx) (hv : v < nx.length) (hw : (nb nx v)[j]? = some w) {x : Nat} (hx : x ≠ w) : mWait nx d v (j + 1) x = mWait nx d v j x := by
  obtain ⟨h1, h2⟩ := take_at hw (good_row hg hv).1
  unfold mWait
  by_cases hm : x ∈ (nb nx v).take j
  · rw [if_pos hm, if_pos ((h2 x).2 (.inl hm))]
  · rw [if_neg hm, if_neg (fun h => by
      rcases (h2 x).1 h with h | h
      · exact hm h
      · exact hx h)]
theorem mid_new (hk : KOk nx d) (hv : v < nx.length) (hc : canGo nx d v = true) (hw : (nb nx v)[j]? = some w) : w ∉ d ++ [v] ∧ ¬ canGo nx d w = true := by
  obtain ⟨h3, h4⟩ := (canGo_iff _ _ _).1 hc
  have hm : w ∈ nb nx v := List.mem_of_getElem? hw
  refine ⟨fun h => ?_, fun h => ?_⟩
  · rcases List.mem_append.1 h with h | h
    · exact h3 (hk.closed w h v hv hm)
    · rw [List.mem_singleton] at h
      subst h
      exact h3 (h4 w hv hm)
  · exact h3 (((canGo_iff _ _ _).1 h).2 v hv hm)
/-- The count came to zero: w is pushed. -/
theorem Mid.push (h : Mid nx d v j H) (hk : KOk nx d) (hv : v < nx.length) (hc : canGo nx d v = true) (hg : Good nx) (hw : (nb nx v)[j]? = some w) (hz : kWait nx (d ++ [v]) w = 0) (hp : H'.Perm (H ++ [w])) : Mid nx d v (j + 1) H' := by
  obtain ⟨h1, h2⟩ := take_at hw (good_row hg hv).1
  obtain ⟨h3, h4⟩ := mid_new hk hv hc hw
  have hm : w ∈ nb nx v := List.mem_of_getElem? hw
  have hwn := (good_row hg hv).2 w hm
  have hwH : w ∉ H := fun hh => by
    rcases ((h.mem w).1 hh).2 with ⟨h5, _⟩ | ⟨h5, _⟩
    · exact h4 h5
    · exact h1 h5
  refine ⟨hp.nodup_iff.2 ?_, fun x => ?_⟩
  · rw [List.nodup_append]
    exact ⟨h.nodup, by simp, fun a ha b hb => by
      rw [List.mem_singleton] at hb
      subst hb
      exact fun e => hwH (e ▸ ha)⟩
  · rw [hp.mem_iff, List.mem_append, h.mem, List.mem_singleton]
    constructor
    · rintro (⟨h5, h6 | ⟨h6, h7⟩⟩ | rfl)
      · exact ⟨h5, .inl h6⟩
      · exact ⟨h5, .inr ⟨(h2 x).2 (.inl h6), h7⟩⟩
      · exact ⟨hwn, .inr ⟨(h2 x).2 (.inr rfl), (canGo_iff _ _ _).2 ⟨h3, (wait_zero _ _ _).1 hz⟩⟩⟩
    · rintro ⟨h5, h6 | ⟨h6, h7⟩⟩
      · exact .inl ⟨h5, .inl h6⟩
      · rcases (h2 x).1 h6 with h8 | h8
        · exact .inl ⟨h5, .inr ⟨h8, h7⟩⟩
        · exact .inr h8
theorem Mid.skip (h : Mid nx d v j H) (hv : v < nx.length) (hg : Good nx) (hw : (nb nx v)[j]? = some w) (hz : kWait nx (d ++ [v]) w ≠ 0) : Mid nx d v (j + 1) H := by
  obtain ⟨h1, h2⟩ := take_at hw (good_row hg hv).1
  refine ⟨h.nodup, fun x => ?_⟩
  rw [h.mem]
  constructor
  · rintro ⟨h5, h6 | ⟨h6, h7⟩⟩
    · exact ⟨h5, .inl h6⟩
    · exact ⟨h5, .inr ⟨(h2 x).2 (.inl h6), h7⟩⟩
  · rintro ⟨h5, h6 | ⟨h6, h7⟩⟩
    · exact ⟨h5, .inl h6⟩
    · rcases (h2 x).1 h6 with h8 | h8
      · exact ⟨h5, .inr ⟨h8, h7⟩⟩
      · subst h8
        exact absurd ((wait_zero _ _ _).2 ((canGo_iff _ _ _).1 h7).2) hz
theorem Mid.all (h : Mid nx d v (nb nx v).length H) (hv : v < nx.length) (hd : v ∉ d) : Ready nx (d ++ [v]) H := by
  refine ⟨h.nodup, fun x => ?_⟩
  rw [h.mem, List.take_length]
  constructor
  · rintro ⟨h5, ⟨h6, h7⟩ | ⟨_, h7⟩⟩
    · obtain ⟨h8, h9⟩ := (canGo_iff _ _ _).1 h6
      refine ⟨h5, (canGo_iff _ _ _).2 ⟨fun hh => ?_, fun u hu hx => List.mem_append_left _ (h9 u hu hx)⟩⟩
      rcases List.mem_append.1 hh with hh | hh
      · exact h8 hh
      · rw [List.mem_singleton] at hh
        exact h7 hh
    · exact ⟨h5, h7⟩
  · rintro ⟨h5, h6⟩
    refine ⟨h5, ?_⟩
    by_cases hx : x ∈ nb nx v
    · exact .inr ⟨hx, h6⟩
    · obtain ⟨h8, h9⟩ := (canGo_iff _ _ _).1 h6
      refine .inl ⟨(canGo_iff _ _ _).2 ⟨fun hh => h8 (List.mem_append_left _ hh), fun u hu hxu => ?_⟩, fun e => h8 (by rw [e]; simp)⟩
      rcases List.mem_append.1 (h9 u hu hxu) with hh | hh
      · exact hh
      · rw [List.mem_singleton] at hh
        subst hh
        exact absurd hxu hx
theorem mid_end {x : Nat} (hv : v < nx.length) (hd : v ∉ d) : mWait nx d v (nb nx v).length x = kWait nx (d ++ [v]) x := by
  have := wait_snoc nx d v x hv hd
  unfold mWait
  rw [List.take_length]
  split <;> rename_i h
  · rw [if_pos h] at this
    omega
  · rw [if_neg h] at this
    omega
end
end Go.Proofs.YtlomhoohmcnniaaDoor

namespace Go.Proofs.YtlomhoohmcnniaaDoor.PO
open Go.Proofs.YtlomhoohmcnniaaDoor

/-- A path of at least one edge. -/
inductive Up (nx : List (List Nat)) : Nat → Nat → Prop
  | one {a b : Nat} : b ∈ nb nx a → Up nx a b
  | more {a b c : Nat} : b ∈ nb nx a → Up nx b c → Up nx a c
section
variable {nx : List (List Nat)} {a b c : Nat}
theorem Up.trans (h : Up nx a b) (k : Up nx b c) : Up nx a c := by
  induction h with
  | one e => exact .more e k
  | more e _ ih => exact .more e (ih k)
theorem nb_from {a b : Nat} (e : b ∈ nb nx a) : a < nx.length := by
  unfold nb at e
  rcases Nat.lt_or_ge a nx.length with h | h
  · exact h
  · rw [List.getElem?_eq_none h] at e
    cases e
theorem nb_to (hg : Good nx) {a b : Nat} (e : b ∈ nb nx a) : b < nx.length := (good_row hg (nb_from e)).2 b e
theorem Up.from (h : Up nx a b) : a < nx.length := by
  cases h with
  | one e => exact nb_from e
  | more e _ => exact nb_from e
theorem Up.to (hg : Good nx) (h : Up nx a b) : b < nx.length := by
  induction h with
  | one e => exact nb_to hg e
  | more _ _ ih => exact ih
/-- A path's last edge. -/
theorem Up.last (h : Up nx a b) : b ∈ nb nx a ∨ ∃ c, Up nx a c ∧ b ∈ nb nx c := by
  induction h with
  | one e => exact .inl e
  | more e _ ih =>
    rcases ih with h | ⟨c, h1, h2⟩
    · exact .inr ⟨_, .one e, h⟩
    · exact .inr ⟨c, .more e h1, h2⟩
theorem Up.iff : Up nx a b ↔ b ∈ nb nx a ∨ ∃ c, c ∈ nb nx a ∧ Up nx c b := by
  constructor
  · intro h
    cases h with
    | one e => exact .inl e
    | more e k => exact .inr ⟨_, e, k⟩
  · rintro (h | ⟨c, h1, h2⟩)
    · exact .one h
    · exact .more h1 h2
/-- What is closed under edges holds along a path. -/
theorem Up.along {P : Nat → Prop} (h : Up nx a b) (ha : P a) (hs : ∀ x y, P x → y ∈ nb nx x → P y) : P b := by
  induction h with
  | one e => exact hs _ _ ha e
  | more e _ ih => exact ih (hs _ _ ha e)
/-- What is closed against the edges holds at a path's start. -/
theorem Up.back {P : Nat → Prop} (h : Up nx a b) (hb : P b) (hs : ∀ x y, P y → y ∈ nb nx x → P x) : P a := by
  induction h with
  | one e => exact hs _ _ hb e
  | more e _ ih => exact hs _ _ (ih hb) e
end
def Cyc (nx : List (List Nat)) : Prop := ∃ a, Up nx a a

/-! ### the order -/
theorem split_app {α : Type} {d A B : List α} {v x : α} (e : d ++ [v] = A ++ x :: B) : (∃ B1, d = A ++ x :: B1 ∧ B = B1 ++ [v]) ∨ (A = d ∧ x = v ∧ B = []) := by
  rcases List.eq_nil_or_concat B with rfl | ⟨B1, y, rfl⟩
  · have h := List.append_inj' e rfl
    obtain ⟨h1, h2⟩ := h
    injection h2 with h2
    exact .inr ⟨h1.symm, h2.symm, rfl⟩
  · rw [List.concat_eq_append] at e ⊢
    have e2 : d ++ [v] = (A ++ x :: B1) ++ [y] := by rw [e]; simp
    obtain ⟨h1, h2⟩ := List.append_inj' e2 rfl
    injection h2 with h2
    exact .inl ⟨B1, h1, by rw [h2]⟩
/-- Each element stands behind its predecessors. -/
def Fore (nx : List (List Nat)) (d : List Nat) : Prop := ∀ A x B, d = A ++ x :: B → ∀ u, x ∈ nb nx u → u ∈ A
theorem fore_snoc {nx : List (List Nat)} {d : List Nat} {v : Nat} (h : Fore nx d) (hv : ∀ u, v ∈ nb nx u → u ∈ d) : Fore nx (d ++ [v]) := by
  intro A x B e u hu
  rcases split_app e with ⟨B1, h1, _⟩ | ⟨rfl, rfl, _⟩
  · exact h A x B1 h1 u hu
  · exact hv u hu
theorem snoc_nodup {d : List Nat} {v : Nat} (h : d.Nodup) (hv : v ∉ d) : (d ++ [v]).Nodup := by
  rw [List.nodup_append]
  exact ⟨h, by simp, fun a ha b hb => by
    rw [List.mem_singleton] at hb
    subst hb
    exact fun e => hv (e ▸ ha)⟩
theorem kahn_fore (nx : List (List Nat)) : ∀ f d, Fore nx d → d.Nodup → (∀ x ∈ d, x < nx.length) → Fore nx (kahn nx f d) ∧ (kahn nx f d).Nodup ∧ (∀ x ∈ kahn nx f d, x < nx.length) ∧ (d.length + f ≤ (kahn nx f d).length ∨ ∀ w, w < nx.length → w ∉ kahn nx f d → ∃ u, u ∉ kahn nx f d ∧ w ∈ nb nx u)
  | 0, d, h1, h2, h3 => ⟨h1, h2, h3, .inl (Nat.le_refl _)⟩
  | f + 1, d, h1, h2, h3 => by
    rw [kahn]
    cases hs : kStep nx d with
    | none =>
      refine ⟨h1, h2, h3, .inr fun w hw hd => ?_⟩
      unfold kStep at hs
      rw [List.find?_eq_none] at hs
      have h4 := hs w (List.mem_range.2 hw)
      rcases Classical.em (∃ u, u ∉ d ∧ w ∈ nb nx u) with h | h
      · exact h
      · refine absurd ((canGo_iff _ _ _).2 ⟨hd, fun u hu hn => ?_⟩) h4
        rcases Classical.em (u ∈ d) with k | k
        · exact k
        · exact absurd ⟨u, k, hn⟩ h
    | some v =>
      dsimp only
      unfold kStep at hs
      have hv := List.mem_range.1 (List.mem_of_find?_eq_some hs)
      obtain ⟨h4, h5⟩ := (canGo_iff _ _ _).1 (List.find?_some hs)
      have h6 := kahn_fore nx f (d ++ [v]) (fore_snoc h1 fun u hu => h5 u (nb_from hu) hu) (snoc_nodup h2 h4) (fun x hx => by
        rcases List.mem_append.1 hx with hx | hx
        · exact h3 x hx
        · rw [List.mem_singleton] at hx
          omega)
      refine ⟨h6.1, h6.2.1, h6.2.2.1, ?_⟩
      rcases h6.2.2.2 with h | h
      · rw [List.length_append, List.length_singleton] at h
        exact .inl (by omega)
      · exact .inr h
theorem topoL_fore (nx : List (List Nat)) : Fore nx (topoL nx) ∧ (topoL nx).Nodup ∧ (∀ x ∈ topoL nx, x < nx.length) ∧ (nx.length ≤ (topoL nx).length ∨ ∀ w, w < nx.length → w ∉ topoL nx → ∃ u, u ∉ topoL nx ∧ w ∈ nb nx u) := by
  have h := kahn_fore nx nx.length [] (fun A x B e => by simp at e) List.nodup_nil (fun x h => by cases h)
  rw [List.length_nil, Nat.zero_add] at h
  exact h
theorem Fore.mem {nx : List (List Nat)} {d : List Nat} (h : Fore nx d) {x u : Nat} (hx : x ∈ d) (hu : x ∈ nb nx u) : u ∈ d := by
  obtain ⟨A, B, rfl⟩ := List.append_of_mem hx
  exact List.mem_append_left _ (h A x B rfl u hu)
/-- Along a path the places rise. -/
theorem Fore.up {nx : List (List Nat)} {d : List Nat} (h : Fore nx d) {u x : Nat} (hu : Up nx u x) : ∀ A B, d = A ++ x :: B → u ∈ A := by
  induction hu with
  | one e => exact fun A B he => h A _ B he _ e
  | more e _ ih =>
    intro A B he
    have hm := ih A B he
    obtain ⟨A1, B1, rfl⟩ := List.append_of_mem hm
    exact List.mem_append_left _ (h A1 _ (B1 ++ _ :: B) (he.trans (by rw [List.append_assoc, List.cons_append])) _ e)
theorem fore_acyclic {nx : List (List Nat)} {d : List Nat} (h : Fore nx d) (hd : d.Nodup) {a : Nat} (ha : a ∈ d) : ¬ Up nx a a := by
  intro hu
  obtain ⟨A, B, rfl⟩ := List.append_of_mem ha
  have := h.up hu A B rfl
  rw [List.nodup_append] at hd
  exact hd.2.2 a this a (by simp) rfl
theorem whole_mem {n : Nat} {L : List Nat} (hn : L.length = n) (hd : L.Nodup) (hl : ∀ x ∈ L, x < n) {x : Nat} (hx : x < n) : x ∈ L := by
  apply Classical.byContradiction
  intro hc
  have := nodup_len n (x :: L) (List.nodup_cons.2 ⟨hc, hd⟩) (fun y hy => by
    rcases List.mem_cons.1 hy with rfl | h
    · exact hx
    · exact hl y h)
  rw [List.length_cons] at this
  omega
theorem acyclic_of_topo {nx : List (List Nat)} (hl : (topoL nx).length = nx.length) : ¬ Cyc nx := by
  rintro ⟨a, h⟩
  obtain ⟨h1, h2, h3, _⟩ := topoL_fore nx
  exact fore_acyclic h1 h2 (whole_mem hl h2 h3 h.from) h
theorem filter_less {l : List Nat} {p q : Nat → Bool} (h : ∀ x ∈ l, p x = true → q x = true) (hx : ∃ x ∈ l, q x = true ∧ p x = false) : (l.filter p).length < (l.filter q).length := by
  induction l with
  | nil =>
    obtain ⟨x, hx, _⟩ := hx
    cases hx
  | cons a t ih =>
    have hle : (t.filter p).length ≤ (t.filter q).length := by
      clear ih hx
      replace h := fun x hx => h x (List.mem_cons_of_mem a hx)
      induction t with
      | nil => exact Nat.le_refl _
      | cons b s ih2 =>
        have := ih2 fun x hx => h x (List.mem_cons_of_mem b hx)
        have hb := h b List.mem_cons_self
        rw [List.filter_cons, List.filter_cons]
        cases hp : p b with
        | true =>
          rw [hb hp]
          simp
          omega
        | false =>
          cases q b <;> simp <;> omega
    rw [List.filter_cons, List.filter_cons]
    have ha := h a List.mem_cons_self
    obtain ⟨x, hx, h1, h2⟩ := hx
    rcases List.mem_cons.1 hx with e | hx
    · subst e
      rw [h1, h2]
      simp
      omega
    · have := ih (fun x hx => h x (List.mem_cons_of_mem a hx)) ⟨x, hx, h1, h2⟩
      cases hp : p a with
      | true =>
        rw [ha hp]
        simp
        omega
      | false =>
        cases q a <;> simp <;> omega
theorem sub_len : ∀ (l m : List Nat), l.Nodup → (∀ x ∈ l, x ∈ m) → l.length ≤ m.length
  | [], _, _, _ => Nat.zero_le _
  | a :: t, m, hd, hs => by
    obtain ⟨A, B, rfl⟩ := List.append_of_mem (hs a List.mem_cons_self)
    obtain ⟨h1, h2⟩ := List.nodup_cons.1 hd
    have := sub_len t (A ++ B) h2 fun x hx => by
      rcases List.mem_append.1 (hs x (List.mem_cons_of_mem a hx)) with k | k
      · exact List.mem_append_left _ k
      · rcases List.mem_cons.1 k with e | k
        · exact absurd (e ▸ hx) h1
        · exact List.mem_append_right _ k
    simp only [List.length_append, List.length_cons] at this ⊢
    omega
/-- How many come before w. -/
noncomputable def anc (nx : List (List Nat)) (w : Nat) : Nat := ((List.range nx.length).filter fun u => @decide (Up nx u w) (Classical.propDecidable _)).length
theorem anc_less {nx : List (List Nat)} (hn : ¬ Cyc nx) {u w : Nat} (h : Up nx u w) : anc nx u < anc nx w := by
  unfold anc
  refine filter_less (fun x _ hx => ?_) ⟨u, List.mem_range.2 h.from, ?_, ?_⟩
  · have hx := @of_decide_eq_true _ (Classical.propDecidable _) hx
    exact @decide_eq_true _ (Classical.propDecidable _) (hx.trans h)
  · exact @decide_eq_true _ (Classical.propDecidable _) h
  · exact @decide_eq_false _ (Classical.propDecidable _) fun k => hn ⟨u, k⟩
theorem topo_of_acyclic {nx : List (List Nat)} (hn : ¬ Cyc nx) : (topoL nx).length = nx.length := by
  obtain ⟨h1, h2, h3, h4⟩ := topoL_fore nx
  have hle := nodup_len nx.length _ h2 h3
  rcases h4 with h4 | h4
  · omega
  · have hall : ∀ m w, anc nx w < m → w < nx.length → w ∈ topoL nx := by
      intro m
      induction m with
      | zero => intro w h; omega
      | succ m ih =>
        intro w hm hw
        rcases Classical.em (w ∈ topoL nx) with k | k
        · exact k
        · obtain ⟨u, hu, hnb⟩ := h4 w hw k
          have := anc_less hn (.one hnb)
          exact absurd (ih u (by omega) (nb_from hnb)) hu
    have hsub : ∀ x ∈ List.range nx.length, x ∈ topoL nx := fun x hx => hall (anc nx x + 1) x (by omega) (List.mem_range.1 hx)
    have hlen : (List.range nx.length).length ≤ (topoL nx).length := sub_len _ _ List.nodup_range hsub
    rw [List.length_range] at hlen
    omega
theorem topo_iff (nx : List (List Nat)) : (topoL nx).length = nx.length ↔ ¬ Cyc nx := ⟨acyclic_of_topo, topo_of_acyclic⟩

/-! ### the closure of a matrix -/
def wStep (c : Nat) (M : Nat → Nat → Bool) : Nat → Nat → Bool := fun x y => M x y || (M x c && M c y)
def wMid (c a b : Nat) (M : Nat → Nat → Bool) : Nat → Nat → Bool := fun x y => if x < a ∨ (x = a ∧ y < b) then wStep c M x y else M x y
def wAll (M : Nat → Nat → Bool) : Nat → Nat → Nat → Bool
  | 0 => M
  | c + 1 => wStep c (wAll M c)
theorem wStep_col (c : Nat) (M : Nat → Nat → Bool) (x : Nat) : wStep c M x c = M x c := by unfold wStep; cases M x c <;> simp
theorem wStep_row (c : Nat) (M : Nat → Nat → Bool) (y : Nat) : wStep c M c y = M c y := by unfold wStep; cases M c y <;> simp
theorem wMid_col (c a b : Nat) (M : Nat → Nat → Bool) (x : Nat) : wMid c a b M x c = M x c := by unfold wMid; rw [wStep_col, ite_self]
theorem wMid_row (c a b : Nat) (M : Nat → Nat → Bool) (y : Nat) : wMid c a b M c y = M c y := by unfold wMid; rw [wStep_row, ite_self]
theorem wMid_at (c a b : Nat) (M : Nat → Nat → Bool) : wMid c a b M a b = M a b := by unfold wMid; rw [if_neg (by omega)]
theorem wMid_next (c a b : Nat) (M : Nat → Nat → Bool) (x y : Nat) : wMid c a (b + 1) M x y = if x = a ∧ y = b then (M a b || (M a c && M c b)) else wMid c a b M x y := by
  unfold wMid
  by_cases h : x = a ∧ y = b
  · obtain ⟨rfl, rfl⟩ := h
    rw [if_pos (by omega), if_pos (by simp)]
    rfl
  · rw [if_neg h]
    by_cases h2 : x < a ∨ (x = a ∧ y < b)
    · rw [if_pos (by omega), if_pos h2]
    · rw [if_neg (by omega), if_neg h2]
theorem wMid_start (c : Nat) (M : Nat → Nat → Bool) : wMid c 0 0 M = M := by
  funext x y
  unfold wMid
  rw [if_neg (by omega)]
theorem wMid_line {n c a : Nat} {M : Nat → Nat → Bool} {x y : Nat} (hy : y < n) : wMid c a n M x y = wMid c (a + 1) 0 M x y := by
  unfold wMid
  by_cases h : x < a ∨ (x = a ∧ y < n)
  · rw [if_pos h, if_pos (by omega)]
  · rw [if_neg h, if_neg (by omega)]
theorem wMid_end {n c : Nat} {M : Nat → Nat → Bool} {x y : Nat} (hx : x < n) : wMid c n 0 M x y = wStep c M x y := by
  unfold wMid
  rw [if_pos (by omega)]
theorem wAll_mono (M : Nat → Nat → Bool) (x y : Nat) (h : M x y = true) : ∀ c, wAll M c x y = true
  | 0 => h
  | c + 1 => by
    show (wAll M c x y || _) = true
    rw [wAll_mono M x y h c]
    rfl
theorem wAll_trans (M : Nat → Nat → Bool) : ∀ c k x y, k < c → wAll M c x k = true → wAll M c k y = true → wAll M c x y = true
  | 0, k, _, _, h, _, _ => absurd h (by omega)
  | c + 1, k, x, y, hk, h1, h2 => by
    have h1 : (wAll M c x k || (wAll M c x c && wAll M c c k)) = true := h1
    have h2 : (wAll M c k y || (wAll M c k c && wAll M c c y)) = true := h2
    show (wAll M c x y || (wAll M c x c && wAll M c c y)) = true
    rcases Nat.lt_or_ge k c with hlt | hge
    · have it := wAll_trans M c k
      simp only [Bool.or_eq_true, Bool.and_eq_true] at h1 h2 ⊢
      rcases h1 with h1 | ⟨h1, h1'⟩ <;> rcases h2 with h2 | ⟨h2, h2'⟩
      · exact .inl (it x y hlt h1 h2)
      · exact .inr ⟨it x c hlt h1 h2, h2'⟩
      · exact .inr ⟨h1, it c y hlt h1' h2⟩
      · exact .inr ⟨h1, h2'⟩
    · obtain rfl : k = c := by omega
      simp only [Bool.or_eq_true, Bool.and_eq_true] at h1 h2 ⊢
      rcases h1 with h1 | ⟨h1, _⟩ <;> rcases h2 with h2 | ⟨_, h2⟩ <;> exact .inr ⟨h1, h2⟩
theorem wAll_up {nx : List (List Nat)} (hg : Good nx) {M : Nat → Nat → Bool} (hM : ∀ x y, M x y = true ↔ y ∈ nb nx x) (x y : Nat) : wAll M nx.length x y = true ↔ Up nx x y := by
  constructor
  · suffices ∀ c x y, wAll M c x y = true → Up nx x y from this _ x y
    intro c
    induction c with
    | zero => exact fun x y h => .one ((hM x y).1 h)
    | succ c ih =>
      intro x y h
      have h : (wAll M c x y || (wAll M c x c && wAll M c c y)) = true := h
      simp only [Bool.or_eq_true, Bool.and_eq_true] at h
      rcases h with h | ⟨h1, h2⟩
      · exact ih x y h
      · exact (ih x c h1).trans (ih c y h2)
  · intro h
    induction h with
    | one e => exact wAll_mono M _ _ ((hM _ _).2 e) _
    | more e _ ih => exact wAll_trans M _ _ _ _ (nb_to hg e) (wAll_mono M _ _ ((hM _ _).2 e) _) ih

/-! ### sets as words -/
/-- The elements of a word's set. -/
def els (m : Nat) : List Nat := (List.range 64).filter m.testBit
theorem els_mem {m x : Nat} : x ∈ els m ↔ x < 64 ∧ m.testBit x = true := by unfold els; rw [List.mem_filter, List.mem_range]
theorem els_sorted (m : Nat) : (els m).Pairwise (· < ·) := List.Pairwise.filter _ (range_sorted 64)
theorem bit_lt {m n x : Nat} (hm : m < 2 ^ n) (h : m.testBit x = true) : x < n := by
  apply Classical.byContradiction
  intro hx
  have : m < 2 ^ x := Nat.lt_of_lt_of_le hm (Nat.pow_le_pow_right (by omega) (by omega))
  rw [Nat.testBit_lt_two_pow this] at h
  cases h
theorem els_lt {m n x : Nat} (hm : m < 2 ^ n) (h : x ∈ els m) : x < n := bit_lt hm (els_mem.1 h).2
/-- The rows of an order, as lists. -/
def rows (R : List Nat) : List (List Nat) := R.map els
theorem rows_len (R : List Nat) : (rows R).length = R.length := by simp [rows]
def Small (R : List Nat) : Prop := R.length ≤ 64 ∧ ∀ m ∈ R, m < 2 ^ R.length
theorem nb_rows {R : List Nat} (hs : Small R) (a b : Nat) : b ∈ nb (rows R) a ↔ (R[a]?.getD 0).testBit b = true := by
  unfold nb rows
  rw [List.getElem?_map]
  cases h : R[a]? with
  | none => simp
  | some m =>
    have hm := hs.2 m (List.mem_of_getElem? h)
    simp only [Option.map_some, Option.getD_some]
    rw [els_mem]
    constructor
    · exact fun h => h.2
    · exact fun h => ⟨by have := bit_lt hm h; have := hs.1; omega, h⟩
theorem rows_good {R : List Nat} (hs : Small R) : Good (rows R) := by
  intro l hl
  unfold rows at hl
  obtain ⟨m, hm, rfl⟩ := List.mem_map.1 hl
  exact ⟨els_sorted m, fun w hw => by rw [rows_len]; exact els_lt (hs.2 m hm) hw⟩

/-- One step of the closure: what is reached through bs. -/
def through (R : Nat → Nat) (bs : List Nat) : Nat := bs.foldl (fun r b => if r.testBit b then r else r ||| R b) 0
theorem through_snoc (R : Nat → Nat) (bs : List Nat) (b : Nat) : through R (bs ++ [b]) = if (through R bs).testBit b then through R bs else through R bs ||| R b := by
  unfold through
  rw [List.foldl_append]
  rfl
theorem through_bit {nx : List (List Nat)} {R : Nat → Nat} (bs : List Nat) (hR : ∀ b ∈ bs, ∀ c, (R b).testBit c = true ↔ Up nx b c) (c : Nat) : (through R bs).testBit c = true ↔ ∃ b ∈ bs, Up nx b c := by
  suffices ∀ k, k ≤ bs.length → ∀ c, (through R (bs.take k)).testBit c = true ↔ ∃ b ∈ bs.take k, Up nx b c by
    have := this bs.length (Nat.le_refl _) c
    rwa [List.take_length] at this
  intro k
  induction k with
  | zero => intro _ c; simp [through]
  | succ k ih =>
    intro hk c
    have ih := ih (by omega)
    obtain ⟨b, hb⟩ : ∃ b, bs[k]? = some b := ⟨bs[k], List.getElem?_eq_getElem hk⟩
    have hRb := hR b (List.mem_of_getElem? hb)
    rw [List.take_add_one, hb]
    simp only [Option.toList]
    rw [through_snoc]
    have hsplit : (∃ x ∈ bs.take k ++ [b], Up nx x c) ↔ (∃ x ∈ bs.take k, Up nx x c) ∨ Up nx b c := by
      constructor
      · rintro ⟨x, hx, h⟩
        rcases List.mem_append.1 hx with hx | hx
        · exact .inl ⟨x, hx, h⟩
        · rw [List.mem_singleton] at hx
          exact .inr (hx ▸ h)
      · rintro (⟨x, hx, h⟩ | h)
        · exact ⟨x, List.mem_append_left _ hx, h⟩
        · exact ⟨b, by simp, h⟩
    rw [hsplit]
    by_cases hbit : (through R (bs.take k)).testBit b = true
    · rw [if_pos hbit, ih c]
      constructor
      · exact .inl
      · rintro (h | h)
        · exact h
        · obtain ⟨x, hx, h2⟩ := (ih b).1 hbit
          exact ⟨x, hx, h2.trans h⟩
    · rw [if_neg hbit, Nat.testBit_or, Bool.or_eq_true, ih c, hRb c]
end Go.Proofs.YtlomhoohmcnniaaDoor.PO
