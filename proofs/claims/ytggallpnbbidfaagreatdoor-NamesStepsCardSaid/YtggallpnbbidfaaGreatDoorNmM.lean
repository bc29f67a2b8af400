/-
  The names of events and questions, as pure functions: their orders, their texts, what is parsed. Plain mathematics; no function of the program.
-/
import Derived.Lib.ItoaNum
import Derived.Lib.AtoiAllCases
import Derived.Lib.CutLaws
import Derived.Lib.Replace
import Derived.Lib.Join
namespace Go.Proofs.YtggallpnbbidfaaGreatDoor.NM
open Go.Lib

abbrev Bs := List UInt8
def bs (t : Bs) : ByteArray := ⟨t.toArray⟩
/-- The numbers of a message: node, handler and count of the cause; index and copy. -/
structure Ms where
  c : Int
  h : Int
  t : Int
  i : Int
  p : Int
deriving DecidableEq
/-- The numbers of an event. -/
structure Ev where
  k : Int
  n : Int
  a : Int
  m : Ms
deriving DecidableEq
/-- The numbers of a question. -/
structure Qu where
  c : Int
  h : Int
  t : Int
  k : Int
  i : Int
deriving DecidableEq
def m0 : Ms := ⟨0, 0, 0, 0, 0⟩
def e0 : Ev := ⟨0, 0, 0, m0⟩
def q0 : Qu := ⟨0, 0, 0, 0, 0⟩

/-! ### Orders -/
def cmpI (a b : Int) : Int := if a < b then -1 else if b < a then 1 else 0
def orI (x y : Int) : Int := if x = 0 then y else x
def lexL : List Int → List Int → Int
  | [], [] => 0
  | [], _ :: _ => -1
  | _ :: _, [] => 1
  | a :: l, b :: r => orI (cmpI a b) (lexL l r)
def msL (m : Ms) : List Int := [m.c, m.h, m.t, m.i, m.p]
def evL (e : Ev) : List Int := [e.k, e.n, e.a] ++ msL e.m
def quL (q : Qu) : List Int := [q.c, q.h, q.t, q.k, q.i]

/-! ### Texts -/
def wStart : Bs := [115, 116, 97, 114, 116]
def wInvoke : Bs := [105, 110, 118, 111, 107, 101]
def wDeliver : Bs := [100, 101, 108, 105, 118, 101, 114]
def wTimer : Bs := [116, 105, 109, 101, 114]
def wDrop : Bs := [100, 114, 111, 112]
def wDup : Bs := [100, 117, 112]
def wCrash : Bs := [99, 114, 97, 115, 104]
def wDraw : Bs := [100, 114, 97, 119]
def wTick : Bs := [116, 105, 99, 107]
def wKeep : Bs := [107, 101, 101, 112]
def word (k : Int) : Bs := if k = 1 then wStart else if k = 2 then wInvoke else if k = 3 then wDeliver else if k = 4 then wTimer else if k = 5 then wDrop else if k = 6 then wDup else if k = 7 then wCrash else []
def argK (k : Int) : Bool := k == 1 || k == 2 || k == 4
def msgK (k : Int) : Bool := k == 3 || k == 5 || k == 6
def qword (k : Int) : Bs := if k = 1 then wDraw else if k = 2 then wTick else if k = 3 then wKeep else []
/-- What is written of an event, where the kind is k. -/
def written (k : Int) (e : Ev) : Ev := ⟨e.k, e.n, if argK k then e.a else 0, if msgK k then e.m else m0⟩
def upTo (n m : Int) : Bool := decide (0 ≤ n) && decide (n ≤ m)
def big : Int := 2147483647
def okC (c h t last : Int) : Bool := upTo c 11 && (upTo h last && upTo t big)
def okM (m : Ms) : Bool := okC m.c m.h m.t 39 && (upTo m.i big && upTo m.p big)
def fits (e : Ev) : Bool := decide (word e.k ≠ []) && (decide (e = written e.k e) && (upTo e.n 11 && (upTo e.a big && okM e.m)))
def dots (l : List Int) : Bs := join (l.map itoa) [46]
def words (l : List Bs) : Bs := join l [32]
def evT (e : Ev) : Bs := if fits e then (if argK e.k then words [word e.k, dots [e.n], dots [e.a]] else if msgK e.k then words [word e.k, dots [e.n], dots (msL e.m)] else words [word e.k, dots [e.n]]) else []
def okQ (q : Qu) : Bool := decide (qword q.k ≠ []) && (okC q.c q.h q.t 40 && upTo q.i big)
def quT (q : Qu) : Bs := if okQ q then words [qword q.k, dots [q.c, q.h, q.t], dots [q.i]] else []

/-! ### Parsing -/
def atoiN (l : Bs) : Int := match atoiAll l with
  | .ok v => v
  | .«syntax» => 0
  | .range => atoiSat l
def nums : Nat → Bs → List Int
  | 0, _ => []
  | k + 1, r => atoiN (cut r [46]).1 :: nums k (cut r [46]).2.1
def rest (s : Bs) : Bs := replaceAll (cut s [32]).2.1 [32] [46]
def six (s : Bs) : List Int := nums 6 (rest s)
def gi (l : List Int) (j : Nat) : Int := (l[j]?).getD 0
def kindOf (w : Bs) : Option Int := [1, 2, 3, 4, 5, 6, 7].find? fun k => word k == w
def qkindOf (w : Bs) : Option Int := [1, 2, 3].find? fun k => qword k == w
def guessE (s : Bs) : Ev := match kindOf (cut s [32]).1 with
  | some k => written k ⟨k, gi (six s) 0, gi (six s) 1, ⟨gi (six s) 1, gi (six s) 2, gi (six s) 3, gi (six s) 4, gi (six s) 5⟩⟩
  | none => e0
def guessQ (s : Bs) : Qu := match qkindOf (cut s [32]).1 with
  | some k => ⟨gi (six s) 0, gi (six s) 1, gi (six s) 2, k, gi (six s) 3⟩
  | none => q0
/-- Is the string a text of an event (a question)? -/
def okE (s : Bs) : Bool := decide (s ≠ []) && decide (evT (guessE s) = s)
def okQs (s : Bs) : Bool := decide (s ≠ []) && decide (quT (guessQ s) = s)
def parseE (s : Bs) : Ev := if okE s then guessE s else e0
def parseQ (s : Bs) : Qu := if okQs s then guessQ s else q0

/-! ### Facts of the library's functions -/
theorem index_cons_eq (c : UInt8) (l : Bs) : index (c :: l) [c] = 0 := by
  have h : [c].isPrefixOf (c :: l) = true := by simp [List.isPrefixOf]
  rw [index, if_pos h]
theorem index_cons_ne {b c : UInt8} (l : Bs) (h : b ≠ c) : index (b :: l) [c] = if index l [c] = -1 then -1 else index l [c] + 1 := by
  have h1 : ¬ [c].isPrefixOf (b :: l) = true := by
    simp only [List.isPrefixOf, Bool.and_true, beq_iff_eq]
    exact fun e => h e.symm
  rw [index, if_neg h1]
  simp only [beq_iff_eq]
theorem index_append {c : UInt8} (x r : Bs) (h : ∀ b ∈ x, b ≠ c) : index (x ++ c :: r) [c] = x.length := by
  induction x with
  | nil => exact index_cons_eq c r
  | cons b t ih =>
    rw [List.cons_append, index_cons_ne _ (h b (by simp)), ih fun y hy => h y (by simp [hy]), if_neg (by omega), List.length_cons]
    omega
theorem index_no {c : UInt8} (x : Bs) (h : ∀ b ∈ x, b ≠ c) : index x [c] = -1 := by
  induction x with
  | nil => rfl
  | cons b t ih => rw [index_cons_ne _ (h b (by simp)), ih fun y hy => h y (by simp [hy]), if_pos rfl]
theorem cut_append {c : UInt8} (x r : Bs) (h : ∀ b ∈ x, b ≠ c) : cut (x ++ c :: r) [c] = (x, r, true) := by
  unfold cut
  rw [index_append x r h, if_pos (by omega)]
  simp
theorem cut_no {c : UInt8} (x : Bs) (h : ∀ b ∈ x, b ≠ c) : cut x [c] = (x, [], false) := by
  unfold cut
  rw [index_no x h, if_neg (by omega)]
theorem replaceK_no {c d : UInt8} (x : Bs) (h : ∀ b ∈ x, b ≠ c) (k : Nat) : replaceK [c] [d] k x = x := by
  cases k with
  | zero => rfl
  | succ k => rw [replaceK, index_no x h, if_pos (by decide)]
theorem replaceK_step {c d : UInt8} (x r : Bs) (h : ∀ b ∈ x, b ≠ c) (k : Nat) : replaceK [c] [d] (k + 1) (x ++ c :: r) = x ++ d :: replaceK [c] [d] k r := by
  rw [replaceK_hit _ _ _ _ x.length (index_append x r h)]
  simp
theorem replaceAll_no {c d : UInt8} (x : Bs) (h : ∀ b ∈ x, b ≠ c) : replaceAll x [c] [d] = x := by
  unfold replaceAll replace
  split
  · rfl
  · exact replaceK_no x h _
theorem replaceAll_one {c d : UInt8} (hcd : c ≠ d) (x r : Bs) (h : ∀ b ∈ x, b ≠ c) (h2 : ∀ b ∈ r, b ≠ c) : replaceAll (x ++ c :: r) [c] [d] = x ++ d :: r := by
  have hc : count (x ++ c :: r) [c] = 1 := by
    rw [count_one, List.count_append, List.count_cons_self, List.count_eq_zero.2 (fun hm => h c hm rfl), List.count_eq_zero.2 (fun hm => h2 c hm rfl)]
  have hb : ([c] == [d]) = false := by simp [hcd]
  have hn : replaceNum (x ++ c :: r) [c] (-1) = 0 + 1 := by
    unfold replaceNum
    rw [hc, if_pos (.inl (by omega))]
  unfold replaceAll replace
  rw [hb, if_neg (by simp), hn, replaceK_step x r h, replaceK_no r h2]

/-! ### Numbers -/
theorem dec_digit (n : Nat) : ∀ b ∈ decDigits n, 48 ≤ b.toNat ∧ b.toNat ≤ 57 := by
  induction n using Nat.strongRecOn with
  | ind n ih =>
    intro b hb
    rw [decDigits] at hb
    split at hb
    · simp only [List.mem_singleton] at hb
      subst hb
      rw [UInt8.toNat_ofNat']
      omega
    · rcases List.mem_append.1 hb with hb | hb
      · exact ih (n / 10) (by omega) b hb
      · simp only [List.mem_singleton] at hb
        subst hb
        rw [UInt8.toNat_ofNat']
        omega
theorem dec_ne (n : Nat) : decDigits n ≠ [] := by
  rw [decDigits]
  split <;> simp
theorem parse_append (l : Bs) (d : Nat) (hd : d < 10) : ∀ (acc u : Nat), parseUint10 acc l = .ok u → u * 10 + d < 18446744073709551616 → parseUint10 acc (l ++ [UInt8.ofNat (48 + d)]) = .ok (u * 10 + d) := by
  induction l with
  | nil =>
    intro acc u h hb
    simp only [parseUint10] at h
    injection h with h
    subst h
    have h1 : (UInt8.ofNat (48 + d)).toNat = 48 + d := by rw [UInt8.toNat_ofNat']; omega
    rw [List.nil_append, parseUint10, h1, if_pos (by omega), if_neg (by omega), if_neg (by omega), parseUint10]
    congr 1
    omega
  | cons c r ih =>
    intro acc u h hb
    rw [List.cons_append, parseUint10]
    rw [parseUint10] at h
    split at h
    · split at h
      · cases h
      · split at h
        · cases h
        · rw [if_pos ‹_›, if_neg ‹_›, if_neg ‹_›]
          exact ih _ u h hb
    · cases h
theorem parse_dec (n : Nat) (h : n < 18446744073709551616) : parseUint10 0 (decDigits n) = .ok n := by
  induction n using Nat.strongRecOn with
  | ind n ih =>
    rw [decDigits]
    split
    · have h1 : (UInt8.ofNat (48 + n)).toNat = 48 + n := by rw [UInt8.toNat_ofNat']; omega
      rw [parseUint10, h1, if_pos (by omega), if_neg (by omega), if_neg (by omega), parseUint10]
      congr 1
      omega
    · rw [parse_append _ (n % 10) (by omega) 0 (n / 10) (ih (n / 10) (by omega) (by omega)) (by omega)]
      congr 1
      omega
theorem atoi_dec (n : Nat) (h : n < 9223372036854775808) : atoiAll (decDigits n) = .ok (n : Int) := by
  obtain ⟨c, r, hcr⟩ := List.exists_cons_of_ne_nil (dec_ne n)
  have hd := dec_digit n c (by rw [hcr]; simp)
  rw [hcr, atoiAll_plain c r (by omega) (by omega), ← hcr]
  unfold parseMag
  rw [if_neg (dec_ne n), parse_dec n (by omega)]
  simp only [signless]
  rw [if_neg (by omega)]
theorem atoiN_itoa (n : Int) (h0 : 0 ≤ n) (h : n ≤ big) : atoiN (itoa n) = n := by
  unfold big at h
  unfold itoa
  rw [if_neg (by omega)]
  unfold atoiN
  rw [atoi_dec n.toNat (by omega)]
  show (n.toNat : Int) = n
  omega
theorem atoiN_nil : atoiN [] = 0 := rfl
def Nn (n : Int) : Prop := 0 ≤ n ∧ n ≤ big
theorem itoa_digit {n : Int} (h : 0 ≤ n) : ∀ b ∈ itoa n, 48 ≤ b.toNat ∧ b.toNat ≤ 57 := by
  unfold itoa
  rw [if_neg (by omega)]
  exact dec_digit _
theorem itoa_no {n : Int} (h : 0 ≤ n) {c : UInt8} (hc : c.toNat < 48) : ∀ b ∈ itoa n, b ≠ c := fun b hb e => by
  have := itoa_digit h b hb
  subst e
  omega
theorem itoa_len {n : Int} (h : Nn n) : (itoa n).length ≤ 10 := by
  obtain ⟨h0, h1⟩ := h
  unfold big at h1
  unfold itoa
  rw [if_neg (by omega), decDigits_length]
  have : ∀ (k u : Nat), u < 10 ^ (k + 1) → nDigits u ≤ k + 1 := by
    intro k
    induction k with
    | zero => intro u hu; rw [nDigits_small (by omega)]; exact Nat.le_refl _
    | succ k ih =>
      intro u hu
      by_cases h : u < 10
      · rw [nDigits_small h]; omega
      · rw [nDigits_big h]
        have := ih (u / 10) (by rw [Nat.pow_succ] at hu; omega)
        omega
  exact this 9 n.toNat (by omega)

/-! ### Dotted numbers -/
theorem dots_one (a : Int) : dots [a] = itoa a := join_one _ _
theorem dots_cons (a b : Int) (l : List Int) : dots (a :: b :: l) = itoa a ++ 46 :: dots (b :: l) := by
  unfold dots
  rw [List.map_cons, List.map_cons, join_cons, join_cons]
  simp [joinTail]
theorem dots_no {c : UInt8} (hc : c.toNat < 46) : ∀ {l : List Int}, (∀ x ∈ l, 0 ≤ x) → ∀ b ∈ dots l, b ≠ c
  | [], _ => fun b hb => by simp [dots, join_nil] at hb
  | [a], h => by rw [dots_one]; exact itoa_no (h a (by simp)) (by omega)
  | a :: a2 :: l, h => by
    rw [dots_cons]
    intro b hb
    rcases List.mem_append.1 hb with hb | hb
    · exact itoa_no (h a (by simp)) (by omega) b hb
    · rcases List.mem_cons.1 hb with rfl | hb
      · intro e; subst e; exact absurd hc (by decide)
      · exact dots_no hc (fun x hx => h x (by simp [hx])) b hb
theorem nums_nil : ∀ k, nums k [] = List.replicate k 0
  | 0 => rfl
  | k + 1 => by
    rw [nums, cut_no [] (fun b hb => by cases hb), List.replicate_succ]
    show 0 :: nums k [] = _
    rw [nums_nil k]
theorem nums_dots : ∀ (l : List Int) (k : Nat), l ≠ [] → l.length ≤ k → (∀ x ∈ l, Nn x) → nums k (dots l) = l ++ List.replicate (k - l.length) 0
  | [], _, h, _, _ => absurd rfl h
  | [a], k, _, hk, h => by
    obtain ⟨k, rfl⟩ : ∃ j, k = j + 1 := ⟨k - 1, by simp at hk; omega⟩
    have ha := h a (by simp)
    rw [dots_one, nums, cut_no _ (itoa_no ha.1 (by decide))]
    show atoiN (itoa a) :: nums k [] = _
    rw [atoiN_itoa a ha.1 ha.2, nums_nil]
    rfl
  | a :: b :: l, k, _, hk, h => by
    obtain ⟨k, rfl⟩ : ∃ j, k = j + 1 := ⟨k - 1, by simp at hk; omega⟩
    have ha := h a (by simp)
    rw [dots_cons, nums, cut_append _ _ (itoa_no ha.1 (by decide))]
    show atoiN (itoa a) :: nums k (dots (b :: l)) = _
    rw [atoiN_itoa a ha.1 ha.2, nums_dots (b :: l) k (by simp) (by simp at hk ⊢; omega) (fun x hx => h x (by simp [hx]))]
    simp

/-! ### Texts are parsed -/
theorem words_two (a b : Bs) : words [a, b] = a ++ 32 :: b := by
  unfold words
  rw [join_cons]
  simp [joinTail]
theorem words_three (a b c : Bs) : words [a, b, c] = a ++ 32 :: (b ++ 32 :: c) := by
  unfold words
  rw [join_cons]
  simp [joinTail]
theorem dots_join (l r : List Int) (hl : l ≠ []) (hr : r ≠ []) : dots l ++ 46 :: dots r = dots (l ++ r) := by
  induction l with
  | nil => exact absurd rfl hl
  | cons a t ih =>
    cases t with
    | nil =>
      obtain ⟨b, u, rfl⟩ := List.exists_cons_of_ne_nil hr
      rw [dots_one, List.singleton_append, dots_cons]
    | cons b t =>
      rw [List.cons_append, List.cons_append, dots_cons, dots_cons, ← List.cons_append, ← ih (by simp), List.append_assoc, List.cons_append]
theorem upTo_iff {n m : Int} : upTo n m = true ↔ 0 ≤ n ∧ n ≤ m := by simp [upTo]
theorem okC_iff {c h t last : Int} : okC c h t last = true ↔ (0 ≤ c ∧ c ≤ 11) ∧ (0 ≤ h ∧ h ≤ last) ∧ Nn t := by simp [okC, upTo_iff, Nn]
theorem okM_iff {m : Ms} : okM m = true ↔ ((0 ≤ m.c ∧ m.c ≤ 11) ∧ (0 ≤ m.h ∧ m.h ≤ 39) ∧ Nn m.t) ∧ Nn m.i ∧ Nn m.p := by simp [okM, okC_iff, upTo_iff, Nn]
theorem kind_cases {k : Int} (h : word k ≠ []) : k = 1 ∨ k = 2 ∨ k = 3 ∨ k = 4 ∨ k = 5 ∨ k = 6 ∨ k = 7 := by
  unfold word at h
  repeat' split at h
  all_goals first | omega | exact absurd rfl h
theorem qkind_cases {k : Int} (h : qword k ≠ []) : k = 1 ∨ k = 2 ∨ k = 3 := by
  unfold qword at h
  repeat' split at h
  all_goals first | omega | exact absurd rfl h
theorem word_no {k : Int} : ∀ b ∈ word k, b ≠ 32 := by
  unfold word
  repeat' split
  all_goals decide
theorem qword_no {k : Int} : ∀ b ∈ qword k, b ≠ 32 := by
  unfold qword
  repeat' split
  all_goals decide
theorem nn_small {x m : Int} (h0 : 0 ≤ x) (h1 : x ≤ m) (hm : m ≤ big) : Nn x := ⟨h0, by omega⟩
theorem rest_two {w : Bs} (hw : ∀ b ∈ w, b ≠ 32) (l : List Int) (h : ∀ x ∈ l, 0 ≤ x) : rest (w ++ 32 :: dots l) = dots l := by
  unfold rest
  rw [cut_append w _ hw]
  exact replaceAll_no _ (dots_no (by decide) h)
theorem rest_three {w : Bs} (hw : ∀ b ∈ w, b ≠ 32) (l r : List Int) (hl : l ≠ []) (hr : r ≠ []) (h : ∀ x ∈ l, 0 ≤ x) (h2 : ∀ x ∈ r, 0 ≤ x) : rest (w ++ 32 :: (dots l ++ 32 :: dots r)) = dots (l ++ r) := by
  unfold rest
  rw [cut_append w _ hw]
  show replaceAll _ _ _ = _
  rw [replaceAll_one (by decide) _ _ (dots_no (by decide) h) (dots_no (by decide) h2), dots_join l r hl hr]
theorem six_two {w : Bs} (hw : ∀ b ∈ w, b ≠ 32) (l : List Int) (hl : l ≠ []) (hk : l.length ≤ 6) (h : ∀ x ∈ l, Nn x) : six (w ++ 32 :: dots l) = l ++ List.replicate (6 - l.length) 0 := by
  unfold six
  rw [rest_two hw l (fun x hx => (h x hx).1), nums_dots l 6 hl hk h]
theorem six_three {w : Bs} (hw : ∀ b ∈ w, b ≠ 32) (l r : List Int) (hl : l ≠ []) (hr : r ≠ []) (hk : (l ++ r).length ≤ 6) (h : ∀ x ∈ l ++ r, Nn x) : six (w ++ 32 :: (dots l ++ 32 :: dots r)) = (l ++ r) ++ List.replicate (6 - (l ++ r).length) 0 := by
  unfold six
  rw [rest_three hw l r hl hr (fun x hx => (h x (by simp [hx])).1) (fun x hx => (h x (by simp [hx])).1), nums_dots (l ++ r) 6 (by simp [hl]) hk h]
theorem fits_iff {e : Ev} : fits e = true ↔ word e.k ≠ [] ∧ e = written e.k e ∧ (0 ≤ e.n ∧ e.n ≤ 11) ∧ Nn e.a ∧ okM e.m = true := by
  simp only [fits, Bool.and_eq_true, decide_eq_true_eq, upTo_iff, Nn]
theorem kindOf_word {k : Int} (h : word k ≠ []) : kindOf (word k) = some k := by
  rcases kind_cases h with rfl | rfl | rfl | rfl | rfl | rfl | rfl <;> rfl
theorem qkindOf_word {k : Int} (h : qword k ≠ []) : qkindOf (qword k) = some k := by
  rcases qkind_cases h with rfl | rfl | rfl <;> rfl
theorem guess_text {e : Ev} (h : fits e = true) : evT e ≠ [] ∧ guessE (evT e) = e := by
  obtain ⟨h1, h2, h3, h4, h5⟩ := fits_iff.1 h
  have hn : Nn e.n := nn_small h3.1 h3.2 (by decide)
  have hne : ∀ (w r : Bs), w ++ 32 :: r ≠ [] := fun w r he => by simp at he
  have hko := kindOf_word h1
  obtain ⟨k, n, a, m⟩ := e
  simp only at h1 h2 h3 h4 h5 hn hko
  unfold evT
  rw [if_pos h]
  by_cases hA : argK k = true
  · rw [if_pos hA, words_three]
    refine ⟨hne _ _, ?_⟩
    unfold guessE
    rw [six_three word_no [n] [a] (by simp) (by simp) (by simp) (by simp [hn, h4]), cut_append _ _ word_no]
    simp only [hko]
    rw [h2]
    have hM : msgK k = false := by
      rcases kind_cases h1 with rfl | rfl | rfl | rfl | rfl | rfl | rfl <;> first | rfl | exact absurd hA (by decide)
    simp [written, hA, hM, gi]
  · have hA' : argK k = false := by simpa using hA
    rw [if_neg hA]
    by_cases hM : msgK k = true
    · rw [if_pos hM, words_three]
      refine ⟨hne _ _, ?_⟩
      obtain ⟨⟨hc, hh, ht⟩, hi, hp⟩ := okM_iff.1 h5
      have hall : ∀ x ∈ [n] ++ msL m, Nn x := by
        intro x hx
        simp only [msL, List.mem_append, List.mem_cons, List.not_mem_nil, or_false] at hx
        rcases hx with rfl | rfl | rfl | rfl | rfl | rfl
        · exact hn
        · exact nn_small hc.1 hc.2 (by decide)
        · exact nn_small hh.1 hh.2 (by decide)
        · exact ht
        · exact hi
        · exact hp
      unfold guessE
      rw [six_three word_no [n] (msL m) (by simp) (by simp [msL]) (by simp [msL]) hall, cut_append _ _ word_no]
      simp only [hko]
      rw [h2]
      obtain ⟨c, hh', t, i, p⟩ := m
      simp [written, hA', hM, gi, msL]
    · have hM' : msgK k = false := by simpa using hM
      rw [if_neg hM, words_two]
      refine ⟨hne _ _, ?_⟩
      unfold guessE
      rw [six_two word_no [n] (by simp) (by simp) (by simp [hn]), cut_append _ _ word_no]
      simp only [hko]
      rw [h2]
      simp [written, hA', hM', gi]
theorem okE_text {e : Ev} (h : fits e = true) : okE (evT e) = true ∧ parseE (evT e) = e := by
  obtain ⟨h1, h2⟩ := guess_text h
  have : okE (evT e) = true := by simp [okE, h1, h2]
  exact ⟨this, by rw [parseE, if_pos this, h2]⟩
theorem okQ_iff {q : Qu} : okQ q = true ↔ qword q.k ≠ [] ∧ ((0 ≤ q.c ∧ q.c ≤ 11) ∧ (0 ≤ q.h ∧ q.h ≤ 40) ∧ Nn q.t) ∧ Nn q.i := by
  simp only [okQ, Bool.and_eq_true, decide_eq_true_eq, okC_iff, upTo_iff, Nn]
theorem quT_eq {q : Qu} (h : okQ q = true) : quT q = qword q.k ++ 32 :: (dots [q.c, q.h, q.t] ++ 32 :: dots [q.i]) := by
  unfold quT
  rw [if_pos h, words_three]
theorem guessQ_text {q : Qu} (h : okQ q = true) : quT q ≠ [] ∧ guessQ (quT q) = q := by
  obtain ⟨h1, ⟨hc, hh, ht⟩, hi⟩ := okQ_iff.1 h
  rw [quT_eq h]
  refine ⟨by simp, ?_⟩
  have hall : ∀ x ∈ [q.c, q.h, q.t] ++ [q.i], Nn x := by
    intro x hx
    simp only [List.mem_append, List.mem_cons, List.not_mem_nil, or_false] at hx
    rcases hx with (rfl | rfl | rfl) | rfl
    · exact nn_small hc.1 hc.2 (by decide)
    · exact nn_small hh.1 hh.2 (by decide)
    · exact ht
    · exact hi
  unfold guessQ
  rw [six_three qword_no [q.c, q.h, q.t] [q.i] (by simp) (by simp) (by simp) hall, cut_append _ _ qword_no]
  simp only [qkindOf_word h1]
  simp [gi]
theorem okQs_text {q : Qu} (h : okQ q = true) : okQs (quT q) = true ∧ parseQ (quT q) = q := by
  obtain ⟨h1, h2⟩ := guessQ_text h
  have : okQs (quT q) = true := by simp [okQs, h1, h2]
  exact ⟨this, by rw [parseQ, if_pos this, h2]⟩
/-- No text of a question is one of an event. -/
theorem quT_noE {q : Qu} (h : okQ q = true) : okE (quT q) = false := by
  have hg : guessE (quT q) = e0 := by
    unfold guessE
    rw [quT_eq h, cut_append _ _ qword_no]
    have hk : kindOf (qword q.k) = none := by
      rcases qkind_cases (okQ_iff.1 h).1 with hk | hk | hk <;> rw [hk] <;> rfl
    simp only [hk]
  have h0 : evT e0 = [] := by decide
  simp only [okE, hg, h0, Bool.and_eq_false_iff, decide_eq_false_iff_not]
  exact .inr fun e => (guessQ_text h).1 e.symm
theorem evT_inj {x y : Ev} (hx : fits x = true) (hy : fits y = true) (h : evT x = evT y) : x = y := by
  rw [← (guess_text hx).2, ← (guess_text hy).2, h]
theorem quT_inj {x y : Qu} (hx : okQ x = true) (hy : okQ y = true) (h : quT x = quT y) : x = y := by
  rw [← (guessQ_text hx).2, ← (guessQ_text hy).2, h]
end Go.Proofs.YtggallpnbbidfaaGreatDoor.NM
