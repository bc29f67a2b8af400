/-
  Sets of envelopes as sorted lists: what adding, finding, removing, copying do. Plain mathematics; no function of the program.
-/
import Derived.Test.YtepbppckhfiplaaNmO
namespace Go.Proofs.Ytepbppckhfiplaa.NW
open NM

/-- The numbers of an envelope: its name, receiver, kind and two arguments. -/
structure En where
  m : Ms
  o : Int
  k : Int
  a : Int
  b : Int
deriving DecidableEq
def z0 : En := ⟨m0, 0, 0, 0, 0⟩
def ltM (x y : Ms) : Prop := lexL (msL x) (msL y) < 0
instance (x y : Ms) : Decidable (ltM x y) := inferInstanceAs (Decidable (_ < _))
theorem ltM_irr (x : Ms) : ¬ ltM x x := by unfold ltM; rw [lexL_self]; decide
theorem ltM_trans {x y z : Ms} (h : ltM x y) (k : ltM y z) : ltM x z := lexL_lt h (Int.le_of_lt k)
theorem ltM_or {x y : Ms} (h : x ≠ y) : ltM x y ∨ ltM y x := by
  unfold ltM
  have h1 := lexL_swap (msL x) (msL y)
  rcases lexL_vals (msL x) (msL y) with h2 | h2 | h2
  · omega
  · exact absurd (msL_inj.1 (lexL_zero h2)) h
  · omega
theorem ltM_asym {x y : Ms} (h : ltM x y) : ¬ ltM y x := fun k => ltM_irr _ (ltM_trans h k)
/-- A set: names strictly increase. -/
def Srt (l : List En) : Prop := l.Pairwise fun x y => ltM x.m y.m
theorem Srt.cons {x : En} {l : List En} (h : Srt (x :: l)) : (∀ y ∈ l, ltM x.m y.m) ∧ Srt l := List.pairwise_cons.1 h
theorem Srt.one {l : List En} (h : Srt l) : ∀ {x y : En}, x ∈ l → y ∈ l → x.m = y.m → x = y := by
  induction l with
  | nil => intro x y hx; cases hx
  | cons a t ih =>
    intro x y hx hy e
    obtain ⟨h1, h2⟩ := h.cons
    rcases List.mem_cons.1 hx with p1 | p1 <;> rcases List.mem_cons.1 hy with q1 | q1
    · rw [p1, q1]
    · have := h1 y q1
      rw [← p1, e] at this
      exact absurd this (ltM_irr _)
    · have := h1 x p1
      rw [← q1, e] at this
      exact absurd this (ltM_irr _)
    · exact ih h2 p1 q1 e
/-- Two sets with the same envelopes are equal. -/
theorem Srt.ext : ∀ {l r : List En}, Srt l → Srt r → (∀ x, x ∈ l ↔ x ∈ r) → l = r
  | [], [], _, _, _ => rfl
  | [], y :: r, _, _, h => absurd ((h y).2 (by simp)) (by simp)
  | x :: l, [], _, _, h => absurd ((h x).1 (by simp)) (by simp)
  | x :: l, y :: r, hl, hr, h => by
    obtain ⟨a1, a2⟩ := hl.cons
    obtain ⟨b1, b2⟩ := hr.cons
    have hxy : x = y := by
      rcases List.mem_cons.1 ((h x).1 (by simp)) with e | hx
      · exact e
      · rcases List.mem_cons.1 ((h y).2 (by simp)) with e | hy
        · exact e.symm
        · exact absurd (b1 x hx) (ltM_asym (a1 y hy))
    subst hxy
    rw [Srt.ext a2 b2 fun z => ?_]
    have hz := h z
    simp only [List.mem_cons] at hz
    constructor
    · intro k
      rcases hz.1 (.inr k) with rfl | k2
      · exact absurd (a1 z k) (ltM_irr _)
      · exact k2
    · intro k
      rcases hz.2 (.inr k) with rfl | k2
      · exact absurd (b1 z k) (ltM_irr _)
      · exact k2
/-- Where an envelope with this name is, or would be. -/
def lo (l : List En) (m : Ms) : Nat := (l.takeWhile fun x => decide (ltM x.m m)).length
theorem lo_le : ∀ (l : List En) (m : Ms), lo l m ≤ l.length
  | [], _ => by simp [lo]
  | x :: t, m => by
    have := lo_le t m
    unfold lo at this ⊢
    rw [List.takeWhile_cons]
    split <;> simp <;> omega
theorem lo_cons (x : En) (t : List En) (m : Ms) : lo (x :: t) m = if ltM x.m m then lo t m + 1 else 0 := by
  unfold lo
  rw [List.takeWhile_cons]
  by_cases h : ltM x.m m <;> simp [h]
theorem lo_lt : ∀ {l : List En} {m : Ms} {j : Nat} {x : En}, j < lo l m → l[j]? = some x → ltM x.m m
  | [], m, j, x, h, _ => by simp [lo] at h
  | y :: t, m, j, x, h, hx => by
    rw [lo_cons] at h
    split at h
    · rename_i hy
      cases j with
      | zero => simp at hx; subst hx; exact hy
      | succ j => exact lo_lt (l := t) (m := m) (j := j) (by omega) (by simpa using hx)
    · omega
theorem lo_ge : ∀ {l : List En} {m : Ms} {j : Nat} {x : En}, Srt l → lo l m ≤ j → l[j]? = some x → ¬ ltM x.m m
  | [], m, j, x, _, _, hx => by simp at hx
  | y :: t, m, j, x, hs, h, hx => by
    obtain ⟨h1, h2⟩ := hs.cons
    rw [lo_cons] at h
    split at h
    · cases j with
      | zero => omega
      | succ j => exact lo_ge (l := t) (m := m) (j := j) h2 (by omega) (by simpa using hx)
    · rename_i hy
      cases j with
      | zero => simp at hx; subst hx; exact hy
      | succ j =>
        intro hc
        exact hy (ltM_trans (h1 x (List.mem_of_getElem? (by simpa using hx))) hc)
theorem lo_stop : ∀ {l : List En} {m : Ms} {x : En}, l[lo l m]? = some x → ¬ ltM x.m m
  | [], m, x, hx => by simp at hx
  | y :: t, m, x, hx => by
    rw [lo_cons] at hx
    split at hx
    · exact lo_stop (l := t) (by simpa using hx)
    · rename_i h
      simp at hx
      subst hx
      exact h
def has (l : List En) (m : Ms) : Bool := l.any fun x => decide (x.m = m)
theorem has_iff {l : List En} {m : Ms} : has l m = true ↔ ∃ x ∈ l, x.m = m := by simp [has]
theorem has_not {l : List En} {m : Ms} : has l m = false ↔ ∀ x ∈ l, x.m ≠ m := by simp [has]
/-- In a set, the envelope with a name stands where it would be. -/
theorem has_at {l : List En} {m : Ms} {x : En} (h : Srt l) (hx : l[lo l m]? = some x) : has l m = decide (x.m = m) := by
  by_cases e : x.m = m
  · rw [decide_eq_true e]
    exact has_iff.2 ⟨x, List.mem_of_getElem? hx, e⟩
  · rw [decide_eq_false e]
    refine has_not.2 fun y hy hm => ?_
    obtain ⟨j, hj⟩ := List.getElem?_of_mem hy
    rcases Nat.lt_or_ge j (lo l m) with hl | hl
    · have := lo_lt hl hj
      rw [hm] at this
      exact ltM_irr m this
    · have h1 := lo_stop hx
      rcases ltM_or e with h2 | h2
      · exact h1 h2
      · have hjl := (List.getElem?_eq_some_iff.1 hj).1
        rcases Nat.lt_or_ge (lo l m) j with h3 | h3
        · obtain ⟨q1, q2⟩ := List.getElem?_eq_some_iff.1 hx
          obtain ⟨q3, q4⟩ := List.getElem?_eq_some_iff.1 hj
          have h4 : ltM x.m y.m := by
            have := List.pairwise_iff_getElem.1 h (lo l m) j q1 q3 h3
            rwa [q2, q4] at this
          rw [hm] at h4
          exact h1 h4
        · obtain rfl : j = lo l m := by omega
          rw [hx] at hj
          injection hj with hj
          exact e (hj ▸ hm)
theorem has_end {l : List En} {m : Ms} (hx : l.length ≤ lo l m) : has l m = false := by
  refine has_not.2 fun y hy hm => ?_
  obtain ⟨j, hj⟩ := List.getElem?_of_mem hy
  have hjl := (List.getElem?_eq_some_iff.1 hj).1
  have := lo_lt (m := m) (by omega) hj
  rw [hm] at this
  exact ltM_irr m this
def put (l : List En) (e : En) : List En := l.take (lo l e.m) ++ e :: l.drop (lo l e.m)
theorem put_len (l : List En) (e : En) : (put l e).length = l.length + 1 := by
  have := lo_le l e.m
  simp [put]
  omega
theorem mem_put {l : List En} {e x : En} : x ∈ put l e ↔ x = e ∨ x ∈ l := by
  conv => rhs; rw [← List.take_append_drop (lo l e.m) l]
  simp only [put, List.mem_append, List.mem_cons]
  constructor
  · rintro (h | h | h)
    · exact .inr (.inl h)
    · exact .inl h
    · exact .inr (.inr h)
  · rintro (h | h | h)
    · exact .inr (.inl h)
    · exact .inl h
    · exact .inr (.inr h)
theorem srt_put {l : List En} {e : En} (h : Srt l) (hn : has l e.m = false) : Srt (put l e) := by
  unfold put Srt
  rw [List.pairwise_append]
  refine ⟨h.sublist (List.take_sublist _ _), List.pairwise_cons.2 ⟨fun y hy => ?_, h.sublist (List.drop_sublist _ _)⟩, fun x hx y hy => ?_⟩
  · obtain ⟨j, hj⟩ := List.getElem?_of_mem hy
    rw [List.getElem?_drop] at hj
    have h1 := lo_ge h (Nat.le_add_right _ _) hj
    have h2 := has_not.1 hn y (List.mem_of_getElem? hj)
    rcases ltM_or h2 with h3 | h3
    · exact absurd h3 h1
    · exact h3
  · obtain ⟨i, hi⟩ := List.getElem?_of_mem hx
    rw [List.getElem?_take] at hi
    split at hi
    · rename_i hil
      have h1 := lo_lt hil hi
      rcases List.mem_cons.1 hy with rfl | hy
      · exact h1
      · obtain ⟨j, hj⟩ := List.getElem?_of_mem hy
        rw [List.getElem?_drop] at hj
        have h2 := lo_ge h (Nat.le_add_right _ _) hj
        have h3 := has_not.1 hn y (List.mem_of_getElem? hj)
        rcases ltM_or h3 with h4 | h4
        · exact absurd h4 h2
        · exact ltM_trans h1 h4
    · cases hi
def find (l : List En) (m : Ms) : Option En := l.find? fun x => decide (x.m = m)
theorem find_some {l : List En} {m : Ms} {x : En} (h : Srt l) : find l m = some x ↔ x ∈ l ∧ x.m = m := by
  constructor
  · intro e
    exact ⟨List.mem_of_find?_eq_some e, by simpa using List.find?_some e⟩
  · rintro ⟨h1, h2⟩
    cases e : find l m with
    | none => exact absurd h2 (by simpa using List.find?_eq_none.1 e x h1)
    | some y =>
      have e1 := List.mem_of_find?_eq_some e
      have e2 : y.m = m := by simpa using List.find?_some e
      rw [h.one e1 h1 (e2.trans h2.symm)]
theorem find_has (l : List En) (m : Ms) : (find l m).isSome = has l m := by
  unfold find has
  induction l with
  | nil => rfl
  | cons x t ih =>
    rw [List.find?_cons, List.any_cons, ← ih]
    cases decide (x.m = m) <;> simp
theorem find_none {l : List En} {m : Ms} (h : has l m = false) : find l m = none := by
  have := find_has l m
  rw [h] at this
  simpa using this
theorem find_ex {l : List En} {m : Ms} (h : has l m = true) : ∃ x, find l m = some x := by
  have := find_has l m
  rw [h] at this
  exact Option.isSome_iff_exists.1 this
theorem find_at {l : List En} {m : Ms} {x : En} (h : Srt l) (hx : l[lo l m]? = some x) (hm : x.m = m) : find l m = some x := (find_some h).2 ⟨List.mem_of_getElem? hx, hm⟩
def rem (l : List En) (m : Ms) : List En := l.filter fun x => !decide (x.m = m)
theorem mem_rem {l : List En} {m : Ms} {x : En} : x ∈ rem l m ↔ x ∈ l ∧ x.m ≠ m := by simp [rem]
theorem srt_rem {l : List En} {m : Ms} (h : Srt l) : Srt (rem l m) := h.sublist List.filter_sublist
theorem rem_none {l : List En} {m : Ms} (h : has l m = false) : rem l m = l := by
  unfold rem
  rw [List.filter_eq_self]
  intro x hx
  simpa using has_not.1 h x hx
theorem has_rem (l : List En) (m : Ms) : has (rem l m) m = false := has_not.2 fun _ hx => (mem_rem.1 hx).2
theorem rem_comm (l : List En) (m m' : Ms) : rem (rem l m) m' = rem (rem l m') m := by
  unfold rem
  rw [List.filter_filter, List.filter_filter]
  congr 1
  funext x
  exact Bool.and_comm _ _
/-- What the program leaves out is what has the name. -/
theorem rem_prog {l : List En} {m : Ms} {g : En} (h : Srt l) (hg : find l m = some g) : (l.filter fun x => !decide (x = g)) = rem l m := by
  obtain ⟨h1, h2⟩ := (find_some h).1 hg
  unfold rem
  refine List.filter_congr fun x hx => ?_
  by_cases e : x = g
  · subst e
    simp [h2]
  · have : ¬ x.m = m := fun e2 => e (h.one hx h1 (e2.trans h2.symm))
    simp [e, this]
def toL (l : List En) (n : Int) : List Ms := (l.filter fun x => decide (x.o = n)).map (·.m)

/-! ### The laws -/
theorem undo_find {l : List En} {m : Ms} {x : En} (h : Srt l) (hx : find l m = some x) : put (rem l m) x = l := by
  obtain ⟨h1, h2⟩ := (find_some h).1 hx
  refine Srt.ext (srt_put (srt_rem h) (h2 ▸ has_rem l m)) h fun y => ?_
  rw [mem_put, mem_rem]
  constructor
  · rintro (rfl | ⟨h3, _⟩)
    · exact h1
    · exact h3
  · intro h3
    by_cases e : y.m = m
    · exact .inl (h.one h3 h1 (e.trans h2.symm))
    · exact .inr ⟨h3, e⟩
theorem rem_len {l : List En} {m : Ms} {x : En} (h : Srt l) (hx : find l m = some x) : (rem l m).length + 1 = l.length := by
  have := put_len (rem l m) x
  rw [undo_find h hx] at this
  exact this.symm
theorem undo_put {l : List En} {e : En} (h : Srt l) (hn : has l e.m = false) : rem (put l e) e.m = l := by
  refine Srt.ext (srt_rem (srt_put h hn)) h fun y => ?_
  rw [mem_rem, mem_put]
  constructor
  · rintro ⟨rfl | h1, h2⟩
    · exact absurd rfl h2
    · exact h1
  · intro h1
    exact ⟨.inr h1, has_not.1 hn y h1⟩
theorem find_put {l : List En} {e : En} (h : Srt l) (hn : has l e.m = false) : find (put l e) e.m = some e := (find_some (srt_put h hn)).2 ⟨mem_put.2 (.inl rfl), rfl⟩
theorem find_put_other {l : List En} {e x : En} {m : Ms} (h : Srt l) (hn : has l e.m = false) (hx : find l m = some x) : find (put l e) m = some x := by
  obtain ⟨h1, h2⟩ := (find_some h).1 hx
  exact (find_some (srt_put h hn)).2 ⟨mem_put.2 (.inr h1), h2⟩
theorem has_put {l : List En} {a : En} {m : Ms} : has (put l a) m = (decide (a.m = m) || has l m) := by
  rw [Bool.eq_iff_iff, has_iff, Bool.or_eq_true, has_iff, decide_eq_true_eq]
  constructor
  · rintro ⟨x, h1, h2⟩
    rcases mem_put.1 h1 with rfl | h1
    · exact .inl h2
    · exact .inr ⟨x, h1, h2⟩
  · rintro (h | ⟨x, h1, h2⟩)
    · exact ⟨a, mem_put.2 (.inl rfl), h⟩
    · exact ⟨x, mem_put.2 (.inr h1), h2⟩
theorem has_rem_other {l : List En} {m m' : Ms} (h : m' ≠ m) : has (rem l m) m' = has l m' := by
  rw [Bool.eq_iff_iff, has_iff, has_iff]
  constructor
  · rintro ⟨x, h1, h2⟩
    exact ⟨x, (mem_rem.1 h1).1, h2⟩
  · rintro ⟨x, h1, h2⟩
    exact ⟨x, mem_rem.2 ⟨h1, h2 ▸ h⟩, h2⟩
theorem put_comm {l : List En} {a b : En} (h : Srt l) (ha : has l a.m = false) (hb : has l b.m = false) (hab : a.m ≠ b.m) : put (put l a) b = put (put l b) a := by
  refine Srt.ext (srt_put (srt_put h ha) (by rw [has_put, hb]; simp [hab])) (srt_put (srt_put h hb) (by rw [has_put, ha]; simp; exact fun e => hab e.symm)) fun x => ?_
  simp only [mem_put]
  constructor
  · rintro (h | h | h)
    · exact .inr (.inl h)
    · exact .inl h
    · exact .inr (.inr h)
  · rintro (h | h | h)
    · exact .inr (.inl h)
    · exact .inl h
    · exact .inr (.inr h)
theorem put_rem {l : List En} {a : En} {m : Ms} (h : Srt l) (ha : has l a.m = false) (hm : a.m ≠ m) : put (rem l m) a = rem (put l a) m := by
  refine Srt.ext (srt_put (srt_rem h) (by rw [has_rem_other hm, ha])) (srt_rem (srt_put h ha)) fun x => ?_
  simp only [mem_put, mem_rem]
  constructor
  · rintro (rfl | ⟨h1, h2⟩)
    · exact ⟨.inl rfl, hm⟩
    · exact ⟨.inr h1, h2⟩
  · rintro ⟨rfl | h1, h2⟩
    · exact .inl rfl
    · exact .inr ⟨h1, h2⟩

/-! ### The generator -/
def msOf (n : Int) : Ms := ⟨n % 3, n / 3 % 2, n / 6 % 2, n / 12 % 2, n / 24 % 3⟩
def enOf (n : Int) : En := ⟨msOf n, n / 72 % 4, n / 288 % 3, n % 17, n % 19⟩
def adds (s : List En) (e : En) : List En := if has s e.m then s else put s e
def setK : Nat → List Int → List En → List En
  | 0, _, s => s
  | _ + 1, [], s => s
  | k + 1, n :: l, s => setK k l (adds s (enOf (arI n 100000)))
def setL (l : List Int) : List En := (l.take 12).foldl (fun s n => adds s (enOf (arI n 100000))) []
theorem adds_srt {s : List En} {e : En} (h : Srt s) : Srt (adds s e) := by
  unfold adds
  split
  · exact h
  · rename_i hn
    exact srt_put h (by simpa using hn)
theorem adds_len (s : List En) (e : En) : (adds s e).length ≤ s.length + 1 := by
  unfold adds
  split
  · omega
  · rw [put_len]; omega
theorem fold_srt : ∀ (l : List Int) {s : List En}, Srt s → Srt (l.foldl (fun s n => adds s (enOf (arI n 100000))) s)
  | [], _, h => h
  | _ :: l, _, h => fold_srt l (adds_srt h)
theorem fold_len : ∀ (l : List Int) (s : List En), (l.foldl (fun s n => adds s (enOf (arI n 100000))) s).length ≤ s.length + l.length
  | [], s => by simp
  | n :: l, s => by
    have h1 := fold_len l (adds s (enOf (arI n 100000)))
    have h2 := adds_len s (enOf (arI n 100000))
    rw [List.foldl_cons, List.length_cons]
    omega
theorem setL_srt (l : List Int) : Srt (setL l) := fold_srt _ List.Pairwise.nil
theorem setL_len (l : List Int) : (setL l).length ≤ 12 := by
  have h1 := fold_len (l.take 12) []
  have h2 := List.length_take_le 12 l
  simp only [List.length_nil] at h1
  exact Nat.le_trans h1 (by omega)
theorem fold_in : ∀ (l : List Int) (s : List En) (x : En), x ∈ l.foldl (fun s n => adds s (enOf (arI n 100000))) s → x ∈ s ∨ ∃ n, x = enOf (arI n 100000)
  | [], s, x, h => .inl h
  | n :: l, s, x, h => by
    rcases fold_in l _ x h with h1 | h1
    · have h1 : x ∈ adds s (enOf (arI n 100000)) := h1
      unfold adds at h1
      split at h1
      · exact .inl h1
      · rcases mem_put.1 h1 with h2 | h2
        · exact .inr ⟨n, h2⟩
        · exact .inl h2
    · exact .inr h1
theorem setL_in {l : List Int} {x : En} (h : x ∈ setL l) : ∃ n, x = enOf (arI n 100000) := (fold_in _ _ _ h).resolve_left (by simp)
theorem setL_to {l : List Int} {x : En} (h : x ∈ setL l) : 0 ≤ x.o ∧ x.o < 4 := by
  obtain ⟨n, rfl⟩ := setL_in h
  exact ⟨Int.emod_nonneg _ (by omega), Int.emod_lt_of_pos _ (by omega)⟩
theorem setL_more {l : List Int} {k : Nat} {n : Int} (h : l[k]? = some n) : (l.take (k + 1)).foldl (fun s n => adds s (enOf (arI n 100000))) [] = adds ((l.take k).foldl (fun s n => adds s (enOf (arI n 100000))) []) (enOf (arI n 100000)) := by
  rw [List.take_add_one, h]
  simp
end Go.Proofs.Ytepbppckhfiplaa.NW
