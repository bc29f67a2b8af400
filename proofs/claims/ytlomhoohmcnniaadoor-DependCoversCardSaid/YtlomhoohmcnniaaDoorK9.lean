/-
  append onto an own row, of a slice that is nil or whose cells are known: as an arm of the walk. No function of the program.
  Rows of structs in memory, whatever the struct: slices that start at their block, sources for append, own rows. No function of the program.
-/
import Derived.Test.YtlomhoohmcnniaaDoorK8
import Derived.Laws.AppendOwn
import Derived.Laws.AppendOwnNone

namespace Go.Proofs.YtlomhoohmcnniaaDoor.RgX
open Go Go.RowKit Go.Proofs Go.Proofs.YtlomhoohmcnniaaDoor

/-- What is appended: nothing that is nil, or cells that are there. -/
def Src (w : World) (A : Option Addr) (m c : Nat) (news : List Value) : Prop := (A = none ∧ m = 0 ∧ c = 0 ∧ news = []) ∨ ∃ ad, A = some ad ∧ ∀ j u, news[j]? = some u → w.cell? (ad.add j) = some u
theorem wp_append_any {P : Program} {o : Oper} {a : Act} {w : World} {K : Act → World → Prop} {Q : Exit → Act → World → Prop} (s x : Operand) (t : TypeId)
    (ho : o.op = .call { callee := .builtin .append, args := #[s, x], argTypes := #[t, t] })
    (base : Nat) (e : TypeId) (i : TypeInfo) (z : Value) (size bytes : Nat) (ht : P.underlying t = some (.slice e)) (hi : P.info? e = some i) (hz : i.zero = some z)
    (hsize : i.size = size) (hby : i.bytes = bytes) (hzs : z.cells.size = size) (hsz : 0 < size)
    (v : Value) (n : Nat) (xs : List Value) (hs : a.eval s = v) (hown : w.ownsRow base e size v n xs)
    (A : Option Addr) (m c : Nat) (news : List Value) (hx : a.eval x = .slice A m c) (hl : news.length = m * size) (hsrc : Src w A m c news) (h1 : ∀ u ∈ news, u.oneCell' = true)
    (h63 : n + m ≤ maxLen) (hbytes : (n + m) * bytes ≤ 140737488355328) (hbase : base ≤ w.heap.size)
    (h : ∀ B c' w', w'.ownsRow base e size (.slice B (n + m) c') (n + m) (xs ++ news) → w.grownBy w' v.ownBlock → K (a.put o.dst (.slice B (n + m) c')) w') : o.wp P a w K Q := by
  have sl : ∀ {w' : World} {v' : Value} {k : Nat} {ys : List Value}, w'.ownsRow base e size v' k ys → ∃ B c', v' = .slice B k c' := fun {w' v' k ys} h => by
    rcases h.2 with ⟨rfl, rfl⟩ | ⟨g, cap, cur, rfl, _⟩
    · exact ⟨none, 0, rfl⟩
    · exact ⟨_, cap, rfl⟩
  rcases hsrc with ⟨rfl, rfl, rfl, rfl⟩ | ⟨ad, rfl, hc⟩
  · obtain ⟨B, c', rfl⟩ := sl hown
    have hrun := run_append_owned_none (P := P) (w := w) base t o.type e i size ht hi (.slice B n c') n xs hown
    unfold Oper.wp
    simp only [execOp, ho, resolve, invoke, builtin, Sem.run_bind, Sem.run_pure, Result.andThen_ok, List.map_toArray, List.map_cons, List.map_nil, hs, hx, hrun]
    exact h B c' w (by rw [List.append_nil]; exact hown) ⟨rfl, rfl, rfl, Nat.le_refl _, fun _ _ _ => rfl⟩
  · refine wp_append_own w s x t ho base e i z size bytes ht hi hz hsize hby hzs hsz v n xs hs hown ad m c news hx hl hc h1 h63 hbytes hbase fun v' w' h2 h3 _ => ?_
    obtain ⟨B, c', rfl⟩ := sl h2
    exact h B c' w' h2 h3
theorem wpList_append_any {P : Program} {ops : Array Oper} {rest : List Oper} {o : Oper} {a : Act} {w : World} {Q : Exit → Act → World → Prop} (hgd : o.guard = none) (s x : Operand) (t : TypeId)
    (ho : o.op = .call { callee := .builtin .append, args := #[s, x], argTypes := #[t, t] })
    (base : Nat) (e : TypeId) (i : TypeInfo) (z : Value) (size bytes : Nat) (ht : P.underlying t = some (.slice e)) (hi : P.info? e = some i) (hz : i.zero = some z)
    (hsize : i.size = size) (hby : i.bytes = bytes) (hzs : z.cells.size = size) (hsz : 0 < size)
    (v : Value) (n : Nat) (xs : List Value) (hs : a.eval s = v) (hown : w.ownsRow base e size v n xs)
    (A : Option Addr) (m c : Nat) (news : List Value) (hx : a.eval x = .slice A m c) (hl : news.length = m * size) (hsrc : Src w A m c news) (h1 : ∀ u ∈ news, u.oneCell' = true)
    (h63 : n + m ≤ maxLen) (hbytes : (n + m) * bytes ≤ 140737488355328) (hbase : base ≤ w.heap.size)
    (h : ∀ B c' w', w'.ownsRow base e size (.slice B (n + m) c') (n + m) (xs ++ news) → w.grownBy w' v.ownBlock → wpList P ops Q rest (a.put o.dst (.slice B (n + m) c')) w') : wpList P ops Q (o :: rest) a w :=
  wpList_plain hgd fun _ hK => wp_append_any s x t ho base e i z size bytes ht hi hz hsize hby hzs hsz v n xs hs hown A m c news hx hl hsrc h1 h63 hbytes hbase fun B c' w' h2 h3 => hK _ _ (h B c' w' h2 h3)
end Go.Proofs.YtlomhoohmcnniaaDoor.RgX

namespace Go.Proofs.YtlomhoohmcnniaaDoor.RS
open Go Go.RowKit Go.Proofs Go.Proofs.YtlomhoohmcnniaaDoor

/-- How a struct lies in memory: k cells. -/
structure Enc (α : Type) where
  f : α → List Value
  k : Nat
  len : ∀ x, (f x).length = k
  one : ∀ x, ∀ u ∈ f x, u.oneCell' = true
section
variable {α : Type} {E : Enc α}
def flat (E : Enc α) (l : List α) : List Value := l.flatMap E.f
theorem flat_nil : flat E [] = [] := rfl
theorem flat_append (l r : List α) : flat E (l ++ r) = flat E l ++ flat E r := List.flatMap_append ..
theorem flat_one_ (x : α) : flat E [x] = E.f x := by simp [flat]
theorem flat_len (l : List α) : (flat E l).length = l.length * E.k := by
  induction l with
  | nil => simp [flat]
  | cons x t ih =>
    show (E.f x ++ flat E t).length = _
    rw [List.length_append, ih, List.length_cons, E.len, Nat.succ_mul]
    omega
theorem flat_ones (l : List α) : ∀ u ∈ flat E l, u.oneCell' = true := by
  intro u hu
  obtain ⟨x, _, h⟩ := List.mem_flatMap.1 hu
  exact E.one x u h
theorem flat_at : ∀ {l : List α} {j o : Nat} {x : α}, l[j]? = some x → o < E.k → (flat E l)[j * E.k + o]? = (E.f x)[o]?
  | [], j, o, x, h, _ => by simp at h
  | y :: t, 0, o, x, h, ho => by
    simp only [List.getElem?_cons_zero, Option.some.injEq] at h
    subst h
    show (E.f y ++ flat E t)[0 * E.k + o]? = _
    rw [Nat.zero_mul, Nat.zero_add, List.getElem?_append_left (by rw [E.len]; exact ho)]
  | y :: t, j + 1, o, x, h, ho => by
    show (E.f y ++ flat E t)[(j + 1) * E.k + o]? = _
    have e : (j + 1) * E.k + o - (E.f y).length = j * E.k + o := by rw [E.len, Nat.succ_mul]; omega
    rw [List.getElem?_append_right (by rw [E.len, Nat.succ_mul]; omega), e]
    exact flat_at (by simpa using h) ho
theorem flat_get : ∀ {l : List α} {i : Nat} {u : Value}, (flat E l)[i]? = some u → ∃ j o x, i = j * E.k + o ∧ o < E.k ∧ l[j]? = some x ∧ (E.f x)[o]? = some u
  | [], i, u, h => by simp [flat] at h
  | x :: t, i, u, h => by
    have h' : (E.f x ++ flat E t)[i]? = some u := h
    by_cases hi : i < E.k
    · rw [List.getElem?_append_left (by rw [E.len]; exact hi)] at h'
      exact ⟨0, i, x, by omega, hi, rfl, h'⟩
    · rw [List.getElem?_append_right (by rw [E.len]; omega), E.len] at h'
      obtain ⟨j, o, y, h1, h2, h3, h4⟩ := flat_get (l := t) h'
      exact ⟨j + 1, o, y, by rw [Nat.succ_mul]; omega, h2, by simpa using h3, h4⟩
/-- The cells of element j of the row in block g. -/
def At (E : Enc α) (w : World) (g j : Nat) (x : α) : Prop := ∀ o u, (E.f x)[o]? = some u → w.cell? ⟨g, j * E.k + o, none⟩ = some u
theorem At.keep {w w' : World} {g j B : Nat} {x : α} (h : At E w g j x) (hg : g < B) (hb : Below B w w') : At E w' g j x := fun o u hu => (hb.cell hg).trans (h o u hu)
/-- A slice that starts at its block, or nil. -/
def Sl (E : Enc α) (w : World) (A : Option Addr) (n c : Nat) (l : List α) : Prop :=
  l.length = n ∧ n ≤ c ∧ c ≤ maxLen ∧ ((A = none ∧ c = 0) ∨ ∃ g, A = some ⟨g, 0, none⟩ ∧ g < w.heap.size ∧ ∀ j x, l[j]? = some x → At E w g j x)
section
variable {w w' : World} {A : Option Addr} {n c : Nat} {l : List α}
theorem Sl.len (h : Sl E w A n c l) : l.length = n := h.1
theorem Sl.le (h : Sl E w A n c l) : n ≤ c := h.2.1
theorem Sl.cap (h : Sl E w A n c l) : c ≤ maxLen := h.2.2.1
theorem Sl.nil (E : Enc α) (w : World) : Sl E w none 0 0 [] := ⟨rfl, Nat.le_refl _, by simp [maxLen], .inl ⟨rfl, rfl⟩⟩
theorem Sl.keep (h : Sl E w A n c l) (hb : Below w.heap.size w w') : Sl E w' A n c l := by
  obtain ⟨h1, h2, h3, h4⟩ := h
  refine ⟨h1, h2, h3, ?_⟩
  rcases h4 with h4 | ⟨g, e, hg, hx⟩
  · exact .inl h4
  · exact .inr ⟨g, e, Nat.lt_of_lt_of_le hg hb.size, fun j x hj => (hx j x hj).keep hg hb⟩
theorem Sl.get (h : Sl E w A n c l) {j : Nat} {x : α} (hj : l[j]? = some x) : ∃ g, A = some ⟨g, 0, none⟩ ∧ g < w.heap.size ∧ At E w g j x := by
  obtain ⟨h1, h2, h3, h4⟩ := h
  have hl := (List.getElem?_eq_some_iff.1 hj).1
  rcases h4 with ⟨_, h4⟩ | ⟨g, e, hg, hx⟩
  · omega
  · exact ⟨g, e, hg, hx j x hj⟩
/-- What lies in blocks from lo on, where one block below has turned. -/
theorem Sl.keepLow {g lo : Nat} (h : Sl E w A n c l) (hb : Below g w w') (hlo : ∀ b, A = some b → lo ≤ b.block) (hg : g < lo) (ho : ∀ b, b ≠ g → w'.heap[b]? = w.heap[b]?) : Sl E w' A n c l := by
  obtain ⟨h1, h2, h3, h4⟩ := h
  refine ⟨h1, h2, h3, ?_⟩
  rcases h4 with h4 | ⟨q, e, hq, hx⟩
  · exact .inl h4
  · have := hlo _ e
    refine .inr ⟨q, e, Nat.lt_of_lt_of_le hq hb.size, fun j x hj o u hu => ?_⟩
    have h5 := hx j x hj o u hu
    unfold World.cell? at h5 ⊢
    simp only at h5 ⊢
    rw [ho q (by show q ≠ g; have : lo ≤ q := this; omega)]
    exact h5
/-- The first m elements, for append. -/
theorem Sl.front (h : Sl E w A n c l) (m : Nat) (hm : m ≤ n) : RgX.Src w A m c (flat E (l.take m)) := by
  obtain ⟨h1, h2, h3, h4⟩ := h
  rcases h4 with ⟨rfl, rfl⟩ | ⟨g, e, hg, hx⟩
  · obtain rfl : m = 0 := by omega
    exact .inl ⟨rfl, rfl, rfl, rfl⟩
  · refine .inr ⟨_, e, fun j u hu => ?_⟩
    obtain ⟨q, o, x, rfl, _, h5, h6⟩ := flat_get hu
    rw [List.getElem?_take] at h5
    split at h5
    · rw [Addr.add_lit, Nat.zero_add]
      exact hx q x h5 o u h6
    · cases h5
theorem Sl.src (h : Sl E w A n c l) : RgX.Src w A n c (flat E l) := by
  have := h.front n (Nat.le_refl _)
  rwa [List.take_of_length_le (by rw [h.len]; exact Nat.le_refl _)] at this
/-- The elements from m on, for append. -/
theorem Sl.back (h : Sl E w A n c l) (m : Nat) (hm : m ≤ n) {A' : Option Addr} (hA : ∀ g, A = some ⟨g, 0, none⟩ → (c = m ∧ A' = A) ∨ A' = some ⟨g, m * E.k, none⟩) (hN : A = none → A' = none) : RgX.Src w A' (n - m) (c - m) (flat E (l.drop m)) := by
  obtain ⟨h1, h2, h3, h4⟩ := h
  rcases h4 with ⟨rfl, rfl⟩ | ⟨g, e, hg, hx⟩
  · refine .inl ⟨hN rfl, by omega, by omega, ?_⟩
    rw [List.drop_eq_nil_of_le (by omega)]
    rfl
  · rcases hA g e with ⟨hc, e2⟩ | e2
    · refine .inr ⟨_, e2.trans e, fun j u hu => ?_⟩
      rw [List.drop_eq_nil_of_le (by omega)] at hu
      simp [flat] at hu
    · refine .inr ⟨_, e2, fun j u hu => ?_⟩
      obtain ⟨q, o, x, rfl, _, h5, h6⟩ := flat_get hu
      rw [List.getElem?_drop] at h5
      have := hx (m + q) x h5 o u h6
      rw [Addr.add_lit, show m * E.k + (q * E.k + o) = (m + q) * E.k + o by rw [Nat.add_mul]; omega]
      exact this
theorem Sl.back_if {g : Nat} (h : Sl E w (some ⟨g, 0, none⟩) n c l) (m : Nat) (hm : m ≤ n) : RgX.Src w (if c = m then some ⟨g, 0, none⟩ else some ⟨g, m * E.k, none⟩) (n - m) (c - m) (flat E (l.drop m)) :=
  h.back m hm (fun g' e => by
    injection e with e
    injection e with e
    subst e
    by_cases hc : c = m
    · rw [if_pos hc]
      exact .inl ⟨hc, rfl⟩
    · rw [if_neg hc]
      exact .inr rfl) (fun e => by cases e)
/-- What a row that the call owns is. -/
theorem Sl.of_own {base : Nat} {t : TypeId} (h : w.ownsRow base t E.k (.slice A n c) n (flat E l)) (hl : l.length = n) : Sl E w A n c l := by
  rcases h.2 with ⟨e1, e2⟩ | ⟨g, cap, cur, e1, hb, hg, h1, h2, h3, h4⟩
  · injection e1 with ea eb ec
    exact ⟨hl, by omega, by rw [ec]; simp [maxLen], .inl ⟨ea, ec⟩⟩
  · injection e1 with ea eb ec
    subst ea
    subst ec
    refine ⟨hl, h1, h2, .inr ⟨g, rfl, (Array.getElem?_eq_some_iff.1 hg).1, fun j x hj o u hu => ?_⟩⟩
    have ho : o < E.k := by rw [← E.len x]; exact (List.getElem?_eq_some_iff.1 hu).1
    have := h.cells (g := g) rfl (j * E.k + o) u (by rw [flat_at hj ho]; exact hu)
    rw [Addr.add_lit, Nat.zero_add] at this
    exact this
end
end
end Go.Proofs.YtlomhoohmcnniaaDoor.RS
