/-
  The numbers of events and questions, their orders, what the generators make. Plain mathematics; no function of the program.
  The orders of names: facts of the lexicographic order. Plain mathematics; no function of the program.
  Tapes as lists: the answer to a question, the normal form, and its laws. No function of the program.
-/

namespace Go.Proofs.Ytiokiecnglmbnaa.NM

/-- The numbers of a message: node, handler and count of the cause; index and copy. -/
structure Ms where
  c : Int
  h : Int
  t : Int
  i : Int
  p : Int
deriving DecidableEq
/-- The numbers of an event. -/
structure Ev where
  k : Int
  n : Int
  a : Int
  m : Ms
deriving DecidableEq
/-- The numbers of a question. -/
structure Qu where
  c : Int
  h : Int
  t : Int
  k : Int
  i : Int
deriving DecidableEq
def m0 : Ms := ⟨0, 0, 0, 0, 0⟩
def e0 : Ev := ⟨0, 0, 0, m0⟩
def q0 : Qu := ⟨0, 0, 0, 0, 0⟩

/-! ### Orders -/
def cmpI (a b : Int) : Int := if a < b then -1 else if b < a then 1 else 0
def orI (x y : Int) : Int := if x = 0 then y else x
def lexL : List Int → List Int → Int
  | [], [] => 0
  | [], _ :: _ => -1
  | _ :: _, [] => 1
  | a :: l, b :: r => orI (cmpI a b) (lexL l r)
def msL (m : Ms) : List Int := [m.c, m.h, m.t, m.i, m.p]
def evL (e : Ev) : List Int := [e.k, e.n, e.a] ++ msL e.m
def quL (q : Qu) : List Int := [q.c, q.h, q.t, q.k, q.i]

def argK (k : Int) : Bool := k == 1 || k == 2 || k == 4
def msgK (k : Int) : Bool := k == 3 || k == 5 || k == 6
def arI (n m : Int) : Int := (if n < 0 then -(n + 1) else n) % m
theorem arI_in (n m : Int) (hm : 0 < m) : 0 ≤ arI n m ∧ arI n m < m := ⟨Int.emod_nonneg _ (by omega), Int.emod_lt_of_pos _ hm⟩
def smallK (k : Int) : Int := if k % 40 = 39 then 2147483647 - k / 40 % 2 else k / 40 % 4
def smallN (n : Int) : Int := smallK (arI n 1000000)
def evK (k m : Int) : Ev := ⟨1 + k % 7, k / 7 % 12, if argK (1 + k % 7) then smallN m else 0,
  if msgK (1 + k % 7) then ⟨arI m 1000000000 % 12, arI m 1000000000 / 12 % 40, smallN (arI m 1000000000 / 480), smallN (k / 84), smallN (k / 336)⟩ else m0⟩
def evOf (n m : Int) : Ev := evK (arI n 1000000000) m
def quK (k m : Int) : Qu := ⟨arI m 1000000000 % 12, if 1 + k % 3 = 3 then 40 else arI m 1000000000 / 12 % 40, smallN (arI m 1000000000 / 480), 1 + k % 3, smallN (k / 3)⟩
def quOf (n m : Int) : Qu := quK (arI n 1000000000) m
end Go.Proofs.Ytiokiecnglmbnaa.NM

namespace Go.Proofs.Ytiokiecnglmbnaa.NM

theorem cmpI_vals (a b : Int) : cmpI a b = -1 ∨ cmpI a b = 0 ∨ cmpI a b = 1 := by
  unfold cmpI
  repeat' split
  all_goals omega
theorem cmpI_zero {a b : Int} : cmpI a b = 0 ↔ a = b := by
  unfold cmpI
  repeat' split
  all_goals omega
theorem cmpI_self (a : Int) : cmpI a a = 0 := cmpI_zero.2 rfl
theorem cmpI_swap (a b : Int) : cmpI b a = -cmpI a b := by
  unfold cmpI
  repeat' split
  all_goals omega
theorem lexL_vals : ∀ (a b : List Int), lexL a b = -1 ∨ lexL a b = 0 ∨ lexL a b = 1
  | [], [] => .inr (.inl rfl)
  | [], _ :: _ => .inl rfl
  | _ :: _, [] => .inr (.inr rfl)
  | a :: l, b :: r => by
    rw [lexL]
    unfold orI
    split
    · exact lexL_vals l r
    · exact cmpI_vals a b
theorem lexL_self : ∀ a : List Int, lexL a a = 0
  | [] => rfl
  | a :: l => by rw [lexL, cmpI_self, orI, if_pos rfl, lexL_self l]
theorem lexL_zero : ∀ {a b : List Int}, lexL a b = 0 → a = b
  | [], [], _ => rfl
  | [], _ :: _, h => by simp [lexL] at h
  | _ :: _, [], h => by simp [lexL] at h
  | a :: l, b :: r, h => by
    rw [lexL, orI] at h
    split at h
    · rename_i hc
      rw [cmpI_zero.1 hc, lexL_zero h]
    · rename_i hc
      exact absurd h hc
theorem lexL_swap : ∀ (a b : List Int), lexL b a = -lexL a b
  | [], [] => rfl
  | [], _ :: _ => rfl
  | _ :: _, [] => rfl
  | a :: l, b :: r => by
    rw [lexL, lexL, orI, orI, cmpI_swap a b, lexL_swap l r]
    split <;> split <;> omega
theorem lexL_trans : ∀ {a b c : List Int}, lexL a b ≤ 0 → lexL b c ≤ 0 → lexL a c ≤ 0
  | [], _, [], _, _ => Int.le_refl _
  | [], _, _ :: _, _, _ => by simp [lexL]
  | _ :: _, [], _, h, _ => by simp [lexL] at h
  | _ :: _, _ :: _, [], _, h => by simp [lexL] at h
  | x :: l, y :: r, z :: s, h1, h2 => by
    rw [lexL, orI] at h1 h2 ⊢
    have ih := @lexL_trans l r s
    unfold cmpI at h1 h2 ⊢
    repeat' split at h1
    all_goals (repeat' split at h2)
    all_goals (repeat' split)
    all_goals first | omega | exact ih h1 h2
theorem lexL_lt {a b c : List Int} (h1 : lexL a b < 0) (h2 : lexL b c ≤ 0) : lexL a c < 0 := by
  have h3 := lexL_trans (Int.le_of_lt h1) h2
  rcases lexL_vals a c with h | h | h
  · omega
  · have := lexL_zero h
    subst this
    have := lexL_swap b a
    omega
  · omega
theorem orI_vals {x y : Int} (hx : x = -1 ∨ x = 0 ∨ x = 1) (hy : y = -1 ∨ y = 0 ∨ y = 1) : orI x y = -1 ∨ orI x y = 0 ∨ orI x y = 1 := by
  unfold orI
  split
  · exact hy
  · exact hx
theorem orI_assoc (x y z : Int) : orI (orI x y) z = orI x (orI y z) := by
  unfold orI
  repeat' split
  all_goals first | rfl | omega | contradiction
theorem lexL_append : ∀ (a b c d : List Int), a.length = b.length → lexL (a ++ c) (b ++ d) = orI (lexL a b) (lexL c d)
  | [], [], c, d, _ => rfl
  | [], _ :: _, _, _, h => by simp at h
  | _ :: _, [], _, _, h => by simp at h
  | x :: a, y :: b, c, d, h => by
    rw [List.cons_append, List.cons_append, lexL, lexL, lexL_append a b c d (by simpa using h), orI_assoc]
theorem evL_inj {x y : Ev} : evL x = evL y ↔ x = y := by
  obtain ⟨k, n, a, c, h, t, i, p⟩ := x
  obtain ⟨k', n', a', c', h', t', i', p'⟩ := y
  simp [evL, msL]
theorem msL_inj {x y : Ms} : msL x = msL y ↔ x = y := by
  obtain ⟨c, h, t, i, p⟩ := x
  obtain ⟨c', h', t', i', p'⟩ := y
  simp [msL]
theorem quL_inj {x y : Qu} : quL x = quL y ↔ x = y := by
  obtain ⟨c, h, t, i, p⟩ := x
  obtain ⟨c', h', t', i', p'⟩ := y
  simp [quL]

/-! ### Steps -/
def askL (x : Qu × Int) : List Int := quL x.1 ++ [x.2]
def asksL (l : List (Qu × Int)) : List Int := l.flatMap askL
def stepL (e : Ev) (l : List (Qu × Int)) : List Int := evL e ++ asksL l
def cmpAsk (x y : Qu × Int) : Int := orI (lexL (quL x.1) (quL y.1)) (cmpI x.2 y.2)
/-- As the program compares the lists of questions: element by element, then their lengths. -/
def cmpAsks : List (Qu × Int) → List (Qu × Int) → Int
  | x :: l, y :: r => orI (cmpAsk x y) (cmpAsks l r)
  | l, r => cmpI l.length r.length
theorem cmpAsk_eq (x y : Qu × Int) : cmpAsk x y = lexL (askL x) (askL y) := by
  unfold cmpAsk askL
  rw [lexL_append (quL x.1) (quL y.1) _ _ rfl]
  congr 1
  rw [lexL, lexL, orI]
  split
  · exact ‹_›
  · rfl
theorem cmpAsks_eq : ∀ (l r : List (Qu × Int)), cmpAsks l r = lexL (asksL l) (asksL r)
  | [], [] => rfl
  | [], y :: r => by
    show cmpI _ _ = -1
    unfold cmpI
    rw [if_pos (by simp only [List.length_cons, List.length_nil]; omega)]
  | x :: l, [] => by
    show cmpI _ _ = 1
    unfold cmpI
    rw [if_neg (by simp only [List.length_cons, List.length_nil]; omega), if_pos (by simp only [List.length_cons, List.length_nil]; omega)]
  | x :: l, y :: r => by
    rw [cmpAsks, cmpAsks_eq l r, cmpAsk_eq]
    show _ = lexL (askL x ++ asksL l) (askL y ++ asksL r)
    rw [lexL_append (askL x) (askL y) _ _ rfl]
theorem step_eq (e f : Ev) (l r : List (Qu × Int)) : orI (lexL (evL e) (evL f)) (cmpAsks l r) = lexL (stepL e l) (stepL f r) := by
  unfold stepL
  rw [lexL_append (evL e) (evL f) _ _ rfl, cmpAsks_eq]
end Go.Proofs.Ytiokiecnglmbnaa.NM

namespace Go.Proofs.Ytiokiecnglmbnaa.TP
open Go Go.Proofs.Ytiokiecnglmbnaa.NM

abbrev An := Qu × Int
/-- The answer to a question: of several the last one counts; none, or a negative one, is 0. -/
def getA (l : List An) (q : Qu) : Int := l.foldl (fun n a => if a.1 = q then max 0 a.2 else n) 0
theorem getA_nil (q : Qu) : getA [] q = 0 := rfl
theorem getA_snoc (l : List An) (a : An) (q : Qu) : getA (l ++ [a]) q = if a.1 = q then max 0 a.2 else getA l q := by
  unfold getA
  rw [List.foldl_append]
  rfl
theorem snoc_ind {p : List An → Prop} (h0 : p []) (h1 : ∀ l a, p l → p (l ++ [a])) (l : List An) : p l := by
  have : ∀ m : List An, p m.reverse := by
    intro m
    induction m with
    | nil => exact h0
    | cons a m ih =>
      rw [List.reverse_cons]
      exact h1 _ _ ih
  have h := this l.reverse
  rwa [List.reverse_reverse] at h
theorem getA_nn (l : List An) (q : Qu) : 0 ≤ getA l q := by
  induction l using snoc_ind with
  | h0 => exact Int.le_refl _
  | h1 l a ih =>
    rw [getA_snoc]
    split
    · omega
    · exact ih
theorem getA_key {l : List An} {q : Qu} (h : 0 < getA l q) : ∃ a ∈ l, a.1 = q := by
  induction l using snoc_ind with
  | h0 => cases h
  | h1 l a ih =>
    rw [getA_snoc] at h
    split at h
    · exact ⟨a, by simp, ‹_›⟩
    · obtain ⟨b, hb, e⟩ := ih h
      exact ⟨b, by simp [hb], e⟩
/-- The order of questions. -/
def ltQ (a b : Qu) : Prop := lexL (quL a) (quL b) < 0
instance (a b : Qu) : Decidable (ltQ a b) := inferInstanceAs (Decidable (_ < _))
theorem ltQ_irr (a : Qu) : ¬ ltQ a a := by
  unfold ltQ
  rw [lexL_self]
  omega
theorem ltQ_trans {a b c : Qu} (h1 : ltQ a b) (h2 : ltQ b c) : ltQ a c := lexL_lt h1 (Int.le_of_lt h2)
theorem ltQ_asym {a b : Qu} (h : ltQ a b) : ¬ ltQ b a := fun h2 => ltQ_irr a (ltQ_trans h h2)
theorem ltQ_tot {a b : Qu} (h1 : ¬ ltQ a b) (h2 : a ≠ b) : ltQ b a := by
  unfold ltQ at *
  have h3 := lexL_swap (quL a) (quL b)
  rcases lexL_vals (quL a) (quL b) with h | h | h
  · omega
  · exact absurd (quL_inj.1 (lexL_zero h)) h2
  · omega
def Srt (l : List An) : Prop := l.Pairwise fun x y => ltQ x.1 y.1
def putA : List An → An → List An
  | [], a => [a]
  | x :: l, a => if ltQ x.1 a.1 then x :: putA l a else if x.1 = a.1 then x :: l else a :: x :: l
theorem mem_put : ∀ {l : List An} {a x : An}, Srt l → (x ∈ putA l a ↔ x ∈ l ∨ (x = a ∧ ∀ y ∈ l, y.1 ≠ a.1))
  | [], a, x, _ => by simp [putA]
  | z :: l, a, x, h => by
    obtain ⟨h1, h2⟩ := List.pairwise_cons.1 h
    unfold putA
    split
    · rename_i hlt
      rw [List.mem_cons, mem_put (l := l) h2, List.mem_cons]
      constructor
      · rintro (h | h | ⟨h, h3⟩)
        · exact .inl (.inl h)
        · exact .inl (.inr h)
        · refine .inr ⟨h, fun y hy => ?_⟩
          rcases List.mem_cons.1 hy with rfl | hy
          · exact fun e => ltQ_irr _ (e ▸ hlt)
          · exact h3 y hy
      · rintro ((h | h) | ⟨h, h3⟩)
        · exact .inl h
        · exact .inr (.inl h)
        · exact .inr (.inr ⟨h, fun y hy => h3 y (List.mem_cons_of_mem _ hy)⟩)
    · split
      · rename_i hn he
        constructor
        · exact fun h => .inl h
        · rintro (h | ⟨_, h3⟩)
          · exact h
          · exact absurd he (h3 z (List.mem_cons_self ..))
      · rename_i hn he
        rw [List.mem_cons]
        constructor
        · rintro (h | h)
          · refine .inr ⟨h, fun y hy => ?_⟩
            rcases List.mem_cons.1 hy with rfl | hy
            · exact he
            · exact fun e => ltQ_asym (ltQ_tot hn he) (e ▸ h1 y hy)
          · exact .inl h
        · rintro (h | ⟨h, _⟩)
          · exact .inr h
          · exact .inl h
theorem put_srt : ∀ {l : List An} {a : An}, Srt l → Srt (putA l a)
  | [], a, _ => by simp [putA, Srt]
  | z :: l, a, h => by
    obtain ⟨h1, h2⟩ := List.pairwise_cons.1 h
    unfold putA
    split
    · rename_i hlt
      refine List.pairwise_cons.2 ⟨fun y hy => ?_, put_srt h2⟩
      rcases (mem_put h2).1 hy with h | ⟨rfl, _⟩
      · exact h1 y h
      · exact hlt
    · split
      · exact h
      · rename_i hn he
        have hl := ltQ_tot hn he
        refine List.pairwise_cons.2 ⟨fun y hy => ?_, h⟩
        rcases List.mem_cons.1 hy with rfl | hy
        · exact hl
        · exact ltQ_trans hl (h1 y hy)
/-- Sorted lists with the same members are equal. -/
theorem srt_ext : ∀ {l r : List An}, Srt l → Srt r → (∀ x, x ∈ l ↔ x ∈ r) → l = r
  | [], [], _, _, _ => rfl
  | [], y :: r, _, _, h => absurd ((h y).2 (List.mem_cons_self ..)) (by simp)
  | x :: l, [], _, _, h => absurd ((h x).1 (List.mem_cons_self ..)) (by simp)
  | x :: l, y :: r, hl, hr, h => by
    obtain ⟨a1, a2⟩ := List.pairwise_cons.1 hl
    obtain ⟨b1, b2⟩ := List.pairwise_cons.1 hr
    have e : x = y := by
      rcases List.mem_cons.1 ((h x).1 (List.mem_cons_self ..)) with e | hx
      · exact e
      · rcases List.mem_cons.1 ((h y).2 (List.mem_cons_self ..)) with e | hy
        · exact e.symm
        · exact absurd (b1 x hx) (ltQ_asym (a1 y hy))
    subst e
    rw [srt_ext a2 b2 fun z => ?_]
    constructor
    · intro hz
      rcases List.mem_cons.1 ((h z).1 (List.mem_cons_of_mem _ hz)) with rfl | hz'
      · exact absurd (a1 _ hz) (ltQ_irr _)
      · exact hz'
    · intro hz
      rcases List.mem_cons.1 ((h z).2 (List.mem_cons_of_mem _ hz)) with rfl | hz'
      · exact absurd (b1 _ hz) (ltQ_irr _)
      · exact hz'
/-- The answers of the normal form, as the reference makes them: over the answers of l, with the answers of t. -/
def normO (t : List An) (out : List An) (l : List An) : List An := l.foldl (fun out a => if 0 < getA t a.1 then putA out (a.1, getA t a.1) else out) out
def normA (t : List An) : List An := normO t [] t
theorem normO_snoc (t out l : List An) (a : An) : normO t out (l ++ [a]) = if 0 < getA t a.1 then putA (normO t out l) (a.1, getA t a.1) else normO t out l := by
  unfold normO
  rw [List.foldl_append]
  rfl
theorem normO_ok (t l : List An) : Srt (normO t [] l) ∧ ∀ x : An, x ∈ normO t [] l ↔ (x.2 = getA t x.1 ∧ 0 < x.2 ∧ ∃ a ∈ l, a.1 = x.1) := by
  induction l using snoc_ind with
  | h0 => exact ⟨List.Pairwise.nil, fun x => by simp [normO]⟩
  | h1 l a ih =>
    obtain ⟨i1, i2⟩ := ih
    rw [normO_snoc]
    split
    · rename_i hp
      refine ⟨put_srt i1, fun x => ?_⟩
      rw [mem_put i1, i2]
      constructor
      · rintro (⟨h1, h2, b, hb, e⟩ | ⟨rfl, h⟩)
        · exact ⟨h1, h2, b, by simp [hb], e⟩
        · exact ⟨rfl, hp, a, by simp, rfl⟩
      · rintro ⟨h1, h2, b, hb, e⟩
        by_cases hx : ∃ c ∈ l, c.1 = x.1
        · exact .inl ⟨h1, h2, hx⟩
        · rcases List.mem_append.1 hb with hb | hb
          · exact absurd ⟨b, hb, e⟩ hx
          · simp only [List.mem_singleton] at hb
            subst hb
            refine .inr ⟨Prod.ext e.symm (by rw [h1, e]), fun y hy e2 => hx ?_⟩
            obtain ⟨_, _, c, hc, e3⟩ := (i2 y).1 hy
            exact ⟨c, hc, e3.trans (e2.trans e)⟩
    · rename_i hp
      refine ⟨i1, fun x => ?_⟩
      rw [i2]
      constructor
      · rintro ⟨h1, h2, b, hb, e⟩
        exact ⟨h1, h2, b, by simp [hb], e⟩
      · rintro ⟨h1, h2, b, hb, e⟩
        rcases List.mem_append.1 hb with hb | hb
        · exact ⟨h1, h2, b, hb, e⟩
        · simp only [List.mem_singleton] at hb
          subst hb
          rw [e, ← h1] at hp
          exact absurd h2 hp
theorem norm_srt (t : List An) : Srt (normA t) := (normO_ok t t).1
theorem mem_norm {t : List An} {x : An} : x ∈ normA t ↔ x.2 = getA t x.1 ∧ 0 < x.2 := by
  unfold normA
  rw [(normO_ok t t).2]
  constructor
  · exact fun h => ⟨h.1, h.2.1⟩
  · exact fun h => ⟨h.1, h.2, getA_key (by rw [← h.1]; exact h.2)⟩
theorem srt_get : ∀ {l : List An}, Srt l → (∀ x ∈ l, 0 < x.2) → ∀ {x : An}, x ∈ l → getA l x.1 = x.2 := by
  intro l
  induction l using snoc_ind with
  | h0 => exact fun _ _ x hx => absurd hx (by simp)
  | h1 l a ih =>
    intro hs hp x hx
    obtain ⟨h1, _, h3⟩ := List.pairwise_append.1 hs
    rw [getA_snoc]
    rcases List.mem_append.1 hx with h | h
    · rw [if_neg (fun e => ltQ_irr x.1 (by have := h3 x h a (by simp); rw [e] at this; exact this))]
      exact ih h1 (fun y hy => hp y (by simp [hy])) h
    · simp only [List.mem_singleton] at h
      subst h
      have := hp x (by simp)
      rw [if_pos rfl]
      omega
theorem get_norm (t : List An) (q : Qu) : getA (normA t) q = getA t q := by
  have hp : ∀ x ∈ normA t, 0 < x.2 := fun x hx => (mem_norm.1 hx).2
  have h0 := getA_nn (normA t) q
  have h1 := getA_nn t q
  by_cases h : 0 < getA t q
  · have hm : (q, getA t q) ∈ normA t := mem_norm.2 ⟨rfl, h⟩
    exact srt_get (norm_srt t) hp hm
  · by_cases h2 : 0 < getA (normA t) q
    · obtain ⟨a, ha, e⟩ := getA_key h2
      have h3 := mem_norm.1 ha
      rw [e] at h3
      omega
    · omega
/-- Two tapes have the same normal answers just if they answer all questions alike. -/
theorem norm_eq {t u : List An} : normA t = normA u ↔ ∀ q, getA t q = getA u q := by
  constructor
  · intro h q
    rw [← get_norm t, ← get_norm u, h]
  · intro h
    refine srt_ext (norm_srt t) (norm_srt u) fun x => ?_
    rw [mem_norm, mem_norm, h]
theorem norm_norm (t : List An) : normA (normA t) = normA t := norm_eq.2 (get_norm t)
/-- A sorted list of positive answers is its own normal form. -/
theorem norm_self {l : List An} (h : Srt l) (hp : ∀ x ∈ l, 0 < x.2) : normA l = l := by
  refine srt_ext (norm_srt l) h fun x => ?_
  rw [mem_norm]
  constructor
  · rintro ⟨h1, h2⟩
    obtain ⟨a, ha, e⟩ := getA_key (l := l) (q := x.1) (by rw [← h1]; exact h2)
    have h3 := srt_get h hp ha
    have : a = x := Prod.ext e (by rw [← h3, h1, e])
    exact this ▸ ha
  · exact fun hx => ⟨(srt_get h hp hx).symm, hp x hx⟩
/-- The normal form has no more answers. -/
theorem put_len : ∀ (l : List An) (a : An), (putA l a).length ≤ l.length + 1
  | [], a => by simp [putA]
  | x :: l, a => by
    unfold putA
    split
    · have := put_len l a
      simp only [List.length_cons]
      omega
    · split <;> simp
theorem norm_len (t : List An) : (normA t).length ≤ t.length := by
  have : ∀ l : List An, (normO t [] l).length ≤ l.length := by
    intro l
    induction l using snoc_ind with
    | h0 => simp [normO]
    | h1 l a ih =>
      rw [normO_snoc, List.length_append, List.length_singleton]
      split
      · have := put_len (normO t [] l) (a.1, getA t a.1)
        omega
      · omega
  exact this t
def withA (t : List An) (q : Qu) (n : Int) : List An := normA (t ++ [(q, n)])
theorem get_with (t : List An) (q r : Qu) (n : Int) : getA (withA t q n) r = if q = r then max 0 n else getA t r := by
  unfold withA
  rw [get_norm, getA_snoc]
theorem with_norm (t : List An) (q : Qu) (n : Int) : withA (normA t) q n = withA t q n := by
  refine norm_eq.2 fun r => ?_
  rw [getA_snoc, getA_snoc, get_norm]
theorem with_comm (t : List An) {q r : Qu} (h : q ≠ r) (n m : Int) : withA (withA t q n) r m = withA (withA t r m) q n := by
  refine norm_eq.2 fun x => ?_
  rw [getA_snoc, getA_snoc, get_with, get_with]
  by_cases h1 : q = x
  · have h2 : ¬ r = x := fun e => h (h1.trans e.symm)
    simp [h1, h2]
  · simp [h1]
theorem with_get (t : List An) (q : Qu) (n : Int) : normA (withA (withA t q n) q (getA t q)) = normA t := by
  refine norm_eq.2 fun r => ?_
  have h0 := getA_nn t q
  rw [get_with, get_with]
  split
  · rename_i e
    subst e
    omega
  · rfl
end Go.Proofs.Ytiokiecnglmbnaa.TP
