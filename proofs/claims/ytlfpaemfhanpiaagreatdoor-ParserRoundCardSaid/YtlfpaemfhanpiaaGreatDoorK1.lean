/-
  The ranges of Go's numbers that the texts speak of; no program.
  The lexer as pure functions on bytes: white space, tokens, sources; what the laws say of them. Plain mathematics; no function of the program.
  The parser as pure functions on tokens. Plain mathematics; no function of the program.
-/
import Derived.Laws.Entries
import Derived.Test.YtlfpaemfhanpiaaGreatDoorK11

namespace Go.Proofs.YtlfpaemfhanpiaaGreatDoor
open Go

/-- A number that fits a word of 64 bits. -/
def W64 (x : Int) : Prop := 0 ≤ x ∧ x < 18446744073709551616
/-- A number that fits int. -/
def I64 (x : Int) : Prop := -9223372036854775808 ≤ x ∧ x < 9223372036854775808
/-- A number that fits a byte. -/
def B8 (x : Int) : Prop := 0 ≤ x ∧ x < 256

end Go.Proofs.YtlfpaemfhanpiaaGreatDoor

namespace Go.Proofs.YtlfpaemfhanpiaaGreatDoor.LX
def isW (c : UInt8) : Bool := decide (97 ≤ c.toNat) && decide (c.toNat ≤ 122)
def isD (c : UInt8) : Bool := decide (48 ≤ c.toNat) && decide (c.toNat ≤ 57)
def isA (c : UInt8) : Bool := isW c || isD c
def isB (c : UInt8) : Bool := decide (c.toNat = 32) || decide (c.toNat = 9) || decide (c.toNat = 10)
def skipS : Bool → List UInt8 → List UInt8
  | _, [] => []
  | true, c :: t => skipS (c.toNat != 10) t
  | false, c :: t => if c.toNat = 35 then skipS true t else if isB c then skipS false t else c :: t
abbrev skip := skipS false
structure Tok where
  kind : Nat
  pos : Nat
  text : List UInt8
  num : Nat
deriving DecidableEq
def isTwo (c : UInt8) (t : List UInt8) : Bool := match t with
  | [] => false
  | d :: _ => (c.toNat = 124 && d.toNat = 124) || (c.toNat = 38 && d.toNat = 38) || ((c.toNat = 60 || c.toNat = 62 || c.toNat = 61 || c.toNat = 33) && d.toNat = 61)
def isOne (c : UInt8) : Bool := [123, 125, 91, 93, 40, 41, 61, 59, 44, 60, 62, 43, 45, 42, 47, 33].contains c.toNat
def val (l : List UInt8) : Nat := l.foldl (fun n c => 10 * n + (c.toNat - 48)) 0
inductive Res where
  | bad (code : Nat)
  | good (kind len num : Nat)
deriving DecidableEq
def tok1 : List UInt8 → Res
  | [] => .bad 0
  | c :: t =>
    if isW c then (if 10 < ((c :: t).takeWhile isA).length then .bad 2 else .good 1 ((c :: t).takeWhile isA).length 0)
    else if isD c then (if 2147483647 < val ((c :: t).takeWhile isD) then .bad 6 else .good 2 ((c :: t).takeWhile isD).length (val ((c :: t).takeWhile isD)))
    else if isTwo c t then .good 3 2 0
    else if isOne c then .good 3 1 0
    else .bad 10
inductive Out where
  | err (pos code : Nat)
  | ok (ts : List Tok)
deriving DecidableEq
def Out.pre (ts : List Tok) : Out → Out
  | .err p c => .err p c
  | .ok us => .ok (ts ++ us)
def lexF : Nat → Nat → List UInt8 → Out
  | 0, _, _ => .err 0 0
  | f + 1, o, L => match skip L with
    | [] => .ok [⟨0, o + L.length, [], 0⟩]
    | c :: t => match tok1 (c :: t) with
      | .bad e => .err (o + (L.length - (c :: t).length)) e
      | .good k n v => (lexF f (o + (L.length - (c :: t).length) + n) ((c :: t).drop n)).pre [⟨k, o + (L.length - (c :: t).length), (c :: t).take n, v⟩]
def lex (L : List UInt8) : Out := lexF (L.length + 1) 0 L

theorem skipS_len : ∀ (b : Bool) (L : List UInt8), (skipS b L).length ≤ L.length
  | b, [] => by cases b <;> exact Nat.le_refl _
  | true, c :: t => by
    have := skipS_len (c.toNat != 10) t
    simp only [skipS, List.length_cons]
    omega
  | false, c :: t => by
    simp only [skipS]
    have h1 := skipS_len true t
    have h2 := skipS_len false t
    split
    · rw [List.length_cons]; omega
    · split
      · rw [List.length_cons]; omega
      · exact Nat.le_refl _
theorem skipS_suffix : ∀ (b : Bool) (L : List UInt8), ∃ k, k ≤ L.length ∧ skipS b L = L.drop k
  | b, [] => ⟨0, Nat.le_refl _, by cases b <;> rfl⟩
  | true, c :: t => by
    obtain ⟨k, h, e⟩ := skipS_suffix (c.toNat != 10) t
    exact ⟨k + 1, by rw [List.length_cons]; omega, by simp only [skipS, e, List.drop_succ_cons]⟩
  | false, c :: t => by
    simp only [skipS]
    split
    · obtain ⟨k, h, e⟩ := skipS_suffix true t
      exact ⟨k + 1, by rw [List.length_cons]; omega, by simp only [e, List.drop_succ_cons]⟩
    · split
      · obtain ⟨k, h, e⟩ := skipS_suffix false t
        exact ⟨k + 1, by rw [List.length_cons]; omega, by simp only [e, List.drop_succ_cons]⟩
      · exact ⟨0, Nat.zero_le _, rfl⟩
theorem skipS_head : ∀ (b : Bool) (L : List UInt8) (c : UInt8) (t : List UInt8), skipS b L = c :: t → c.toNat ≠ 35 ∧ isB c = false
  | b, [], c, t, h => by cases b <;> cases h
  | true, d :: u, c, t, h => skipS_head _ u c t h
  | false, d :: u, c, t, h => by
    simp only [skipS] at h
    split at h
    · exact skipS_head _ u c t h
    · split at h
      · exact skipS_head _ u c t h
      · injection h with h1 h2
        subst h1
        rename_i k1 k2
        exact ⟨k1, by simpa using k2⟩
theorem skip_fix {c : UInt8} {t : List UInt8} (h1 : c.toNat ≠ 35) (h2 : isB c = false) : skip (c :: t) = c :: t := by
  simp only [skip, skipS, if_neg h1, h2]
  rfl
theorem skip_skip (L : List UInt8) : skip (skip L) = skip L := by
  cases h : skip L with
  | nil => rfl
  | cons c t =>
    obtain ⟨h1, h2⟩ := skipS_head _ _ _ _ h
    exact skip_fix h1 h2
theorem pre_pre (a b : List Tok) (o : Out) : (o.pre b).pre a = o.pre (a ++ b) := by
  cases o <;> simp [Out.pre]
theorem pre_nil (o : Out) : o.pre [] = o := by cases o <;> rfl
/-- A token takes at least one byte and at most what is there. -/
theorem tok1_len {L : List UInt8} {k n v : Nat} (h : tok1 L = .good k n v) : 1 ≤ n ∧ n ≤ L.length ∧ 1 ≤ k ∧ k ≤ 3 := by
  cases L with
  | nil => cases h
  | cons c t =>
    simp only [tok1] at h
    have t1 := (List.takeWhile_sublist isA (l := c :: t)).length_le
    have t2 := (List.takeWhile_sublist isD (l := c :: t)).length_le
    split at h
    · rename_i hw
      have ha : isA c = true := by simp [isA, hw]
      split at h
      · cases h
      · injection h with e1 e2 e3
        subst e1 e2
        rw [List.takeWhile_cons_of_pos ha] at t1 ⊢
        simp only [List.length_cons] at t1 ⊢
        omega
    · split at h
      · rename_i hd
        split at h
        · cases h
        · injection h with e1 e2 e3
          subst e1 e2
          rw [List.takeWhile_cons_of_pos hd] at t2 ⊢
          simp only [List.length_cons] at t2 ⊢
          omega
      · split at h
        · rename_i h2
          injection h with e1 e2 e3
          subst e1 e2
          cases t with
          | nil => simp [isTwo] at h2
          | cons d u => simp
        · split at h
          · injection h with e1 e2 e3
            subst e1 e2
            simp
          · cases h
/-- Enough fuel is enough. -/
theorem lexF_fuel : ∀ (f g o : Nat) (L : List UInt8), L.length < f → L.length < g → lexF f o L = lexF g o L
  | 0, _, _, _, h, _ => absurd h (by omega)
  | _, 0, _, _, _, h => absurd h (by omega)
  | f + 1, g + 1, o, L, hf, hg => by
    unfold lexF
    split
    · rfl
    · rename_i c t hs
      have hl := skipS_len false L
      rw [show skipS false L = c :: t from hs] at hl
      split
      · rfl
      · rename_i k n v ht
        have h1 := tok1_len ht
        rw [lexF_fuel f g _ _ (by rw [List.length_drop]; omega) (by rw [List.length_drop]; omega)]
theorem lexF_skip (f o : Nat) (L : List UInt8) (h : L.length < f) : lexF f o L = lexF f (o + (L.length - (skip L).length)) (skip L) := by
  cases f with
  | zero => omega
  | succ f =>
    have hl := skipS_len false L
    rw [lexF, lexF, skip_skip]
    cases hs : skip L with
    | nil => simp
    | cons c t => simp
end Go.Proofs.YtlfpaemfhanpiaaGreatDoor.LX
namespace Go.Proofs.YtlfpaemfhanpiaaGreatDoor.LX
/-- A byte that ends every token. -/
def stopc (w : UInt8) : Prop := isA w = false ∧ w.toNat ≠ 61 ∧ w.toNat ≠ 124 ∧ w.toNat ≠ 38
theorem takeWhile_stop {p : UInt8 → Bool} {w : UInt8} (hw : p w = false) (x b : List UInt8) : (x ++ w :: b).takeWhile p = x.takeWhile p := by
  induction x with
  | nil => simp [List.takeWhile, hw]
  | cons c t ih =>
    rw [List.cons_append]
    by_cases hc : p c = true
    · rw [List.takeWhile_cons_of_pos hc, List.takeWhile_cons_of_pos hc, ih]
    · rw [List.takeWhile_cons_of_neg hc, List.takeWhile_cons_of_neg hc]
theorem isD_of_A {w : UInt8} (h : isA w = false) : isD w = false := by
  unfold isA at h
  simp at h
  exact h.2
theorem isTwo_stop {w : UInt8} (hw : stopc w) (c : UInt8) (t b : List UInt8) : isTwo c (t ++ w :: b) = isTwo c t := by
  obtain ⟨_, h1, h2, h3⟩ := hw
  cases t with
  | nil => simp [isTwo, h1, h2, h3]
  | cons d u => rfl
theorem tok1_stop {w : UInt8} (hw : stopc w) {x : List UInt8} (hx : x ≠ []) (b : List UInt8) : tok1 (x ++ w :: b) = tok1 x := by
  cases x with
  | nil => exact absurd rfl hx
  | cons c t =>
    have h1 := takeWhile_stop (p := isA) hw.1 (c :: t) b
    have h2 := takeWhile_stop (p := isD) (isD_of_A hw.1) (c :: t) b
    rw [List.cons_append] at h1 h2 ⊢
    simp only [tok1, h1, h2, isTwo_stop hw]
theorem takeWhile_twice (p : UInt8 → Bool) (x : List UInt8) : (x.takeWhile p).takeWhile p = x.takeWhile p := by
  induction x with
  | nil => rfl
  | cons c t ih =>
    by_cases hc : p c = true
    · rw [List.takeWhile_cons_of_pos hc, List.takeWhile_cons_of_pos hc, ih]
    · rw [List.takeWhile_cons_of_neg hc]; rfl
theorem take_takeWhile (p : UInt8 → Bool) (x : List UInt8) : x.take (x.takeWhile p).length = x.takeWhile p := by
  induction x with
  | nil => rfl
  | cons c t ih =>
    by_cases hc : p c = true
    · rw [List.takeWhile_cons_of_pos hc, List.length_cons, List.take_succ_cons, ih]
    · rw [List.takeWhile_cons_of_neg hc]; rfl
/-- A token's text alone is that token. -/
theorem tok1_take {x : List UInt8} {k n v : Nat} (h : tok1 x = .good k n v) : tok1 (x.take n) = .good k n v := by
  cases x with
  | nil => cases h
  | cons c t =>
    simp only [tok1] at h
    by_cases hw : isW c = true
    · rw [if_pos hw] at h
      split at h
      · cases h
      · rename_i hl
        injection h with e1 e2 e3
        subst e1 e2 e3
        have ha : isA c = true := by simp [isA, hw]
        rw [take_takeWhile]
        have e4 := takeWhile_twice isA (c :: t)
        rw [List.takeWhile_cons_of_pos ha] at hl e4 ⊢
        simp only [tok1, if_pos hw, e4, if_neg hl]
    · rw [if_neg hw] at h
      by_cases hd : isD c = true
      · rw [if_pos hd] at h
        split at h
        · cases h
        · rename_i hl
          injection h with e1 e2 e3
          subst e1 e2 e3
          rw [take_takeWhile]
          have e4 := takeWhile_twice isD (c :: t)
          rw [List.takeWhile_cons_of_pos hd] at hl e4 ⊢
          simp only [tok1, if_neg hw, if_pos hd, e4, if_neg hl]
      · rw [if_neg hd] at h
        split at h
        · rename_i h2
          injection h with e1 e2 e3
          subst e1 e2 e3
          cases t with
          | nil => simp [isTwo] at h2
          | cons d u =>
            show tok1 [c, d] = _
            have h2' : isTwo c [d] = true := h2
            simp only [tok1, if_neg hw, if_neg hd, if_pos h2']
        · split at h
          · rename_i h1
            injection h with e1 e2 e3
            subst e1 e2 e3
            show tok1 [c] = _
            have h2' : ¬ isTwo c [] = true := by simp [isTwo]
            simp only [tok1, if_neg hw, if_neg hd, if_neg h2', if_pos h1]
          · cases h
theorem skipS_line (b : List UInt8) : ∀ (m : Bool) (a : List UInt8), skipS m (a ++ 10 :: b) = if skipS m a = [] then skip b else skipS m a ++ 10 :: b
  | true, [] => by simp [skipS]
  | false, [] => by simp [skipS, isB]
  | true, c :: t => by
    rw [List.cons_append, skipS, skipS]
    exact skipS_line b _ t
  | false, c :: t => by
    rw [List.cons_append, skipS, skipS]
    split
    · exact skipS_line b _ t
    · split
      · exact skipS_line b _ t
      · rw [if_neg (by simp), List.cons_append]
theorem stop_nl : stopc 10 := by unfold stopc; decide
/-- The tokens of a newline b. -/
theorem lexF_concat (b : List UInt8) : ∀ (f g o : Nat) (a : List UInt8), a.length < f → (a ++ 10 :: b).length < g →
    (∀ p e, lexF f o a = .err p e → lexF g o (a ++ 10 :: b) = .err p e) ∧ (∀ ts, lexF f o a = .ok ts → ∃ us, ts = us ++ [⟨0, o + a.length, [], 0⟩] ∧ lexF g o (a ++ 10 :: b) = (lexF (b.length + 1) (o + a.length + 1) b).pre us)
  | 0, _, _, _, h, _ => absurd h (by omega)
  | _, 0, _, _, _, h => absurd h (by omega)
  | f + 1, g + 1, o, a, hf, hg => by
    have hlen : (a ++ 10 :: b).length = a.length + b.length + 1 := by simp; omega
    have hs := skipS_line b false a
    cases ha : skip a with
    | nil =>
      rw [show skipS false a = [] from ha, if_pos rfl] at hs
      refine ⟨fun p e h => ?_, fun ts h => ?_⟩
      · rw [lexF, ha] at h; cases h
      · rw [lexF, ha] at h
        injection h with h
        subst h
        refine ⟨[], rfl, ?_⟩
        rw [pre_nil, lexF_skip (g + 1) o _ hg, lexF_skip (b.length + 1) _ b (by omega), show skip (a ++ 10 :: b) = skip b from hs]
        have hl := skipS_len false b
        rw [show o + ((a ++ 10 :: b).length - (skip b).length) = o + a.length + 1 + (b.length - (skip b).length) by rw [hlen]; have : (skip b).length ≤ b.length := hl; omega]
        exact lexF_fuel _ _ _ _ (by have : (skip b).length ≤ b.length := hl; omega) (by have : (skip b).length ≤ b.length := hl; omega)
    | cons c t =>
      have hla := skipS_len false a
      rw [show skipS false a = c :: t from ha] at hs hla
      rw [if_neg (by simp)] at hs
      have ht := tok1_stop stop_nl (x := c :: t) (by simp) b
      have hs' : skip (a ++ 10 :: b) = c :: (t ++ 10 :: b) := hs
      rw [List.cons_append] at ht
      have ho : o + ((a ++ 10 :: b).length - (c :: (t ++ 10 :: b)).length) = o + (a.length - (c :: t).length) := by
        rw [hlen]; simp only [List.length_cons, List.length_append] at hla ⊢; omega
      rw [lexF, lexF, hs', ha]
      simp only [ht, ho]
      cases hr : tok1 (c :: t) with
      | bad e =>
        refine ⟨fun p e h => h, fun ts h => by cases h⟩
      | good k n v =>
        obtain ⟨h1, h2, _, _⟩ := tok1_len hr
        have hd : (c :: (t ++ 10 :: b)).drop n = (c :: t).drop n ++ 10 :: b := by rw [← List.cons_append, List.drop_append_of_le_length h2]
        have hk : (c :: (t ++ 10 :: b)).take n = (c :: t).take n := by rw [← List.cons_append, List.take_append_of_le_length h2]
        simp only [hd, hk]
        simp only [List.length_cons] at hla h2
        obtain ⟨i1, i2⟩ := lexF_concat b f g (o + (a.length - (c :: t).length) + n) ((c :: t).drop n) (by rw [List.length_drop, List.length_cons]; omega) (by simp only [List.length_append, List.length_drop, List.length_cons] at hg ⊢; omega)
        have hoo : o + (a.length - (c :: t).length) + n + ((c :: t).drop n).length = o + a.length := by rw [List.length_drop, List.length_cons]; omega
        refine ⟨fun p e h => ?_, fun ts h => ?_⟩
        · cases hx : lexF f (o + (a.length - (c :: t).length) + n) ((c :: t).drop n) with
          | err p' e' =>
            rw [hx] at h
            rw [i1 p' e' hx]
            exact h
          | ok us => rw [hx] at h; cases h
        · cases hx : lexF f (o + (a.length - (c :: t).length) + n) ((c :: t).drop n) with
          | err p' e' => rw [hx] at h; cases h
          | ok us =>
            rw [hx] at h
            obtain ⟨vs, e1, e2⟩ := i2 us hx
            rw [hoo] at e1 e2
            injection h with h
            subst h e1
            refine ⟨⟨k, o + (a.length - (c :: t).length), (c :: t).take n, v⟩ :: vs, by simp, ?_⟩
            rw [e2, pre_pre]
            rfl
end Go.Proofs.YtlfpaemfhanpiaaGreatDoor.LX
namespace Go.Proofs.YtlfpaemfhanpiaaGreatDoor.LX
theorem skipS_gap : ∀ (b : Bool) (L : List UInt8), skipS b (L.take (L.length - (skipS b L).length)) = []
  | b, [] => by cases b <;> rfl
  | true, c :: t => by
    have h := skipS_gap (c.toNat != 10) t
    have hl := skipS_len (c.toNat != 10) t
    simp only [skipS, List.length_cons]
    rw [show t.length + 1 - (skipS (c.toNat != 10) t).length = (t.length - (skipS (c.toNat != 10) t).length) + 1 by omega, List.take_succ_cons, skipS]
    exact h
  | false, c :: t => by
    have h1 := skipS_gap true t
    have l1 := skipS_len true t
    have h2 := skipS_gap false t
    have l2 := skipS_len false t
    simp only [skipS]
    by_cases k1 : c.toNat = 35
    · simp only [if_pos k1, List.length_cons]
      rw [show t.length + 1 - (skipS true t).length = (t.length - (skipS true t).length) + 1 by omega, List.take_succ_cons, skipS, if_pos k1]
      exact h1
    · simp only [if_neg k1]
      by_cases k2 : isB c = true
      · simp only [if_pos k2, List.length_cons]
        rw [show t.length + 1 - (skipS false t).length = (t.length - (skipS false t).length) + 1 by omega, List.take_succ_cons, skipS, if_neg k1, if_pos k2]
        exact h2
      · simp [if_neg k2, skipS]
theorem drop_of_suffix {L M : List UInt8} {k : Nat} (h : M = L.drop k) (hk : k ≤ L.length) : M = L.drop (L.length - M.length) := by
  have : M.length = L.length - k := by rw [h, List.length_drop]
  rw [this, show L.length - (L.length - k) = k by omega, h]
theorem skip_drop (L : List UInt8) : skip L = L.drop (L.length - (skip L).length) := by
  obtain ⟨k, h1, h2⟩ := skipS_suffix false L
  exact drop_of_suffix h2 h1
theorem takeWhile_next (p : UInt8 → Bool) (x : List UInt8) : ∀ c, x[(x.takeWhile p).length]? = some c → p c = false := by
  induction x with
  | nil => intro c h; cases h
  | cons d t ih =>
    by_cases hc : p d = true
    · rw [List.takeWhile_cons_of_pos hc, List.length_cons]
      intro c h
      rw [List.getElem?_cons_succ] at h
      exact ih c h
    · rw [List.takeWhile_cons_of_neg hc]
      intro c h
      injection h with h
      subst h
      simpa using hc
/-- Words and numbers are as long as possible. -/
theorem tok1_max {x : List UInt8} {k n v : Nat} (h : tok1 x = .good k n v) : (k = 1 → ∀ c, x[n]? = some c → isA c = false) ∧ (k = 2 → ∀ c, x[n]? = some c → isD c = false) := by
  cases x with
  | nil => cases h
  | cons c t =>
    simp only [tok1] at h
    split at h
    · split at h
      · cases h
      · injection h with e1 e2 e3
        subst e1 e2
        exact ⟨fun _ => takeWhile_next isA (c :: t), fun e => absurd e (by decide)⟩
    · split at h
      · split at h
        · cases h
        · injection h with e1 e2 e3
          subst e1 e2
          exact ⟨fun e => absurd e (by decide), fun _ => takeWhile_next isD (c :: t)⟩
      · split at h
        · injection h with e1 e2 e3
          subst e1
          exact ⟨fun e => absurd e (by decide), fun e => absurd e (by decide)⟩
        · split at h
          · injection h with e1 e2 e3
            subst e1
            exact ⟨fun e => absurd e (by decide), fun e => absurd e (by decide)⟩
          · cases h
/-- A source of white space has no tokens. -/
theorem lex_gap {M : List UInt8} (h : skip M = []) : lex M = .ok [⟨0, M.length, [], 0⟩] := by
  unfold lex lexF
  rw [h]
  simp
/-- What the law of offsets asks of one token that is not the last. -/
structure TokAt (S : List UInt8) (e : Nat) (t : Tok) : Prop where
  le : e ≤ t.pos
  len : t.pos + t.text.length ≤ S.length
  ne : t.text ≠ []
  txt : (S.drop t.pos).take t.text.length = t.text
  gap : skip ((S.drop e).take (t.pos - e)) = []
  word : t.kind = 1 → ∀ c, S[t.pos + t.text.length]? = some c → isA c = false
  num : t.kind = 2 → ∀ c, S[t.pos + t.text.length]? = some c → isD c = false
  self : tok1 t.text = .good t.kind t.text.length t.num
  front : ∀ y, skip (t.text ++ y) = t.text ++ y
  kind : 1 ≤ t.kind
def Chain (S : List UInt8) : Nat → List Tok → Prop
  | _, [] => False
  | e, [t] => t = ⟨0, S.length, [], 0⟩ ∧ e ≤ S.length ∧ skip ((S.drop e).take (S.length - e)) = []
  | e, t :: u :: ts => TokAt S e t ∧ Chain S (t.pos + t.text.length) (u :: ts)
theorem chain_ne {S : List UInt8} {e : Nat} {ts : List Tok} (h : Chain S e ts) : ts ≠ [] := by
  rintro rfl
  exact h
theorem lexF_chain (S : List UInt8) : ∀ (f o : Nat), o ≤ S.length → ∀ ts, lexF f o (S.drop o) = .ok ts → Chain S o ts
  | 0, _, _, _, h => by cases h
  | f + 1, o, ho, ts, h => by
    have hg := skipS_gap false (S.drop o)
    have hl := skipS_len false (S.drop o)
    have hd := skip_drop (S.drop o)
    rw [lexF] at h
    have hlo : (S.drop o).length = S.length - o := List.length_drop
    cases hs : skip (S.drop o) with
    | nil =>
      rw [hs] at h
      rw [show skipS false (S.drop o) = [] from hs] at hg
      injection h with h
      subst h
      rw [hlo] at hg ⊢
      simp only [List.length_nil, Nat.sub_zero] at hg
      exact ⟨by rw [show o + (S.length - o) = S.length by omega], ho, hg⟩
    | cons c t =>
      rw [hs] at h hd
      rw [show skipS false (S.drop o) = c :: t from hs] at hg hl
      obtain ⟨hh1, hh2⟩ := skipS_head _ _ _ _ hs
      simp only at h
      cases hr : tok1 (c :: t) with
      | bad e => rw [hr] at h; cases h
      | good k n v =>
        rw [hr] at h
        simp only at h
        obtain ⟨h1, h2, h3, h4⟩ := tok1_len hr
        obtain ⟨m1, m2⟩ := tok1_max hr
        have hself := tok1_take hr
        obtain ⟨d, hdd⟩ : ∃ d, (S.drop o).length - (c :: t).length = d := ⟨_, rfl⟩
        rw [hdd] at h hg hd
        have hdl : (c :: t).length = S.length - (o + d) := by omega
        have hS : c :: t = S.drop (o + d) := by rw [hd, List.drop_drop]
        have hsub : (c :: t).drop n = S.drop (o + d + n) := by rw [hS, List.drop_drop]
        rw [hsub] at h
        have htl : ((c :: t).take n).length = n := by rw [List.length_take]; omega
        have hget : S[o + d + n]? = (c :: t)[n]? := by rw [hS, List.getElem?_drop]
        cases hx : lexF f (o + d + n) (S.drop (o + d + n)) with
        | err p e => rw [hx] at h; cases h
        | ok us =>
          rw [hx] at h
          have hc := lexF_chain S f (o + d + n) (by omega) us hx
          injection h with h
          subst h
          cases us with
          | nil => exact hc.elim
          | cons u vs =>
            refine ⟨⟨Nat.le_add_right _ _, ?_, ?_, ?_, ?_, ?_, ?_, ?_, ?_, h3⟩, ?_⟩
            · show o + d + ((c :: t).take n).length ≤ S.length
              rw [htl]; omega
            · show (c :: t).take n ≠ []
              intro e
              rw [e] at htl
              simp at htl
              omega
            · show (S.drop (o + d)).take ((c :: t).take n).length = (c :: t).take n
              rw [htl, hS]
            · show skip ((S.drop o).take (o + d - o)) = []
              rw [show o + d - o = d by omega]
              exact hg
            · intro e c' hc'
              have hc' : S[o + d + ((c :: t).take n).length]? = some c' := hc'
              rw [htl, hget] at hc'
              exact m1 e c' hc'
            · intro e c' hc'
              have hc' : S[o + d + ((c :: t).take n).length]? = some c' := hc'
              rw [htl, hget] at hc'
              exact m2 e c' hc'
            · show tok1 ((c :: t).take n) = .good k ((c :: t).take n).length v
              rw [htl]
              exact hself
            · intro y
              obtain ⟨n', rfl⟩ : ∃ n', n = n' + 1 := ⟨n - 1, by omega⟩
              show skip ((c :: t).take (n' + 1) ++ y) = (c :: t).take (n' + 1) ++ y
              rw [List.take_succ_cons, List.cons_append]
              exact skip_fix hh1 hh2
            · show Chain S (o + d + ((c :: t).take n).length) (u :: vs)
              rw [htl]
              exact hc
theorem lex_chain {S : List UInt8} {ts : List Tok} (h : lex S = .ok ts) : Chain S 0 ts := lexF_chain S _ 0 (Nat.zero_le _) ts (by rw [List.drop_zero]; exact h)
/-! ### White space between the tokens -/
/-- White space that ends what stands before it and leaves what comes behind it as it is. -/
def Spc (x : List UInt8) : Prop := (∃ w t, x = w :: t ∧ stopc w) ∧ ∀ y, skip (x ++ y) = skip y
def joinT : List (List UInt8) → List Tok → List UInt8
  | sp :: sps, t :: ts => sp ++ (t.text ++ joinT sps ts)
  | _, _ => []
theorem lexF_join {S : List UInt8} : ∀ (ts : List Tok) (e : Nat) (sps : List (List UInt8)) (f o : Nat), Chain S e ts → sps.length = ts.length → (∀ x ∈ sps, Spc x) → (joinT sps ts).length < f → ∃ us, lexF f o (joinT sps ts) = .ok us ∧ us.map (fun t => (t.kind, t.text, t.num)) = ts.map (fun t => (t.kind, t.text, t.num))
  | [], _, _, _, _, h, _, _, _ => h.elim
  | _, _, [], _, _, h, hl, _, _ => by
    have := chain_ne h
    cases ‹List Tok› with
    | nil => exact absurd rfl this
    | cons a b => simp at hl
  | _, _, _, 0, _, _, _, _, hf => absurd hf (by omega)
  | [t], e, sp :: sps, f + 1, o, h, hl, hs, hf => by
    obtain ⟨rfl, _, _⟩ := h
    have hsp := hs sp (by simp)
    cases sps with
    | cons a b => simp at hl
    | nil =>
      refine ⟨[⟨0, o + (joinT [sp] [⟨0, S.length, [], 0⟩]).length, [], 0⟩], ?_, rfl⟩
      rw [lexF]
      have : skip (joinT [sp] [⟨0, S.length, [], 0⟩]) = [] := by
        show skip (sp ++ ([] ++ [])) = []
        rw [hsp.2]
        rfl
      rw [this]
  | t :: u :: ts, e, sp :: sps, f + 1, o, h, hl, hs, hf => by
    obtain ⟨ht, hc⟩ := h
    have hsp := hs sp (by simp)
    cases sps with
    | nil => simp at hl
    | cons sp2 sps =>
      have hsp2 := hs sp2 (by simp)
      obtain ⟨J, hJ⟩ : ∃ J, joinT (sp2 :: sps) (u :: ts) = J := ⟨_, rfl⟩
      have hj : joinT (sp :: sp2 :: sps) (t :: u :: ts) = sp ++ (t.text ++ J) := by rw [← hJ]; rfl
      have hJ2 : ∃ w r, J = w :: r ∧ stopc w := by
        obtain ⟨⟨w, r, e1, e2⟩, _⟩ := hsp2
        refine ⟨w, r ++ (u.text ++ joinT sps ts), ?_, e2⟩
        rw [← hJ]
        show sp2 ++ (u.text ++ joinT sps ts) = _
        rw [e1]; rfl
      obtain ⟨w, r, hw, hwst⟩ := hJ2
      rw [hj] at hf ⊢
      have hskip : skip (sp ++ (t.text ++ J)) = t.text ++ J := by rw [hsp.2, ht.front]
      have htok : tok1 (t.text ++ J) = .good t.kind t.text.length t.num := by rw [hw, tok1_stop hwst ht.ne, ht.self]
      obtain ⟨us, h1, h2⟩ := lexF_join (u :: ts) _ (sp2 :: sps) f (o + ((sp ++ (t.text ++ J)).length - (t.text ++ J).length) + t.text.length) hc (by simpa using hl) (fun x hx => hs x (List.mem_cons_of_mem _ hx)) (by
        rw [hJ]
        have := List.length_pos_iff.2 ht.ne
        simp only [List.length_append] at hf
        omega)
      rw [hJ] at h1
      refine ⟨⟨t.kind, o + ((sp ++ (t.text ++ J)).length - (t.text ++ J).length), t.text, t.num⟩ :: us, ?_, by simp [h2]⟩
      rw [lexF, hskip]
      have hne : t.text ++ J ≠ [] := by simp [ht.ne]
      obtain ⟨c, d, hcd⟩ : ∃ c d, t.text ++ J = c :: d := by
        cases hh : t.text ++ J with
        | nil => exact absurd hh hne
        | cons c d => exact ⟨c, d, rfl⟩
      rw [hcd] at htok
      have htk : (c :: d).take t.text.length = t.text := by rw [← hcd, List.take_left']; rfl
      have hdr : (c :: d).drop t.text.length = J := by rw [← hcd, List.drop_left']; rfl
      rw [hcd] at h1 ⊢
      simp only [htok, htk, hdr]
      rw [h1]
      rfl
end Go.Proofs.YtlfpaemfhanpiaaGreatDoor.LX
namespace Go.Proofs.YtlfpaemfhanpiaaGreatDoor.LX
def wordOf (k : Nat) : List UInt8 := (List.range k).map fun i => [97, 98, 99, 57].getD (i % 4) 0
theorem lex_words : ∀ k, k < 20 → lex (43 :: wordOf (k + 1)) = if k + 1 ≤ 10 then .ok [⟨3, 0, [43], 0⟩, ⟨1, 1, wordOf (k + 1), 0⟩, ⟨0, k + 2, [], 0⟩] else .err 1 2 := by decide +kernel
theorem takeWhile_all {p : UInt8 → Bool} {x : List UInt8} (h : ∀ c ∈ x, p c = true) : x.takeWhile p = x := by
  induction x with
  | nil => rfl
  | cons c t ih => rw [List.takeWhile_cons_of_pos (h c (by simp)), ih fun d hd => h d (by simp [hd])]
theorem isD_not {c : UInt8} (h : isD c = true) : c.toNat ≠ 35 ∧ isB c = false ∧ isW c = false := by
  simp only [isD, Bool.and_eq_true, decide_eq_true_eq] at h
  refine ⟨by omega, ?_, ?_⟩
  · simp only [isB, Bool.or_eq_false_iff, decide_eq_false_iff_not]; omega
  · simp only [isW, Bool.and_eq_false_iff, decide_eq_false_iff_not]; omega
theorem lex_num {ds : List UInt8} (hd : ∀ c ∈ ds, isD c = true) (hne : ds ≠ []) : lex (32 :: 40 :: ds) = if 2147483647 < val ds then .err 2 6 else .ok [⟨3, 1, [40], 0⟩, ⟨2, 2, ds, val ds⟩, ⟨0, 2 + ds.length, [], 0⟩] := by
  cases ds with
  | nil => exact absurd rfl hne
  | cons c t =>
    have hc := hd c (by simp)
    obtain ⟨h1, h2, h3⟩ := isD_not hc
    have htw := takeWhile_all hd
    have hs0 : skip (32 :: 40 :: c :: t) = 40 :: c :: t := by simp [skip, skipS, isB]
    have hcn : c.toNat < 58 := by
      simp only [isD, Bool.and_eq_true, decide_eq_true_eq] at hc
      omega
    have ht0 : tok1 (40 :: c :: t) = .good 3 1 0 := by
      have : isTwo 40 (c :: t) = false := by simp [isTwo]
      simp only [tok1, this]
      rfl
    have hs1 : skip (c :: t) = c :: t := skip_fix h1 h2
    have ht1 : tok1 (c :: t) = if 2147483647 < val (c :: t) then .bad 6 else .good 2 (c :: t).length (val (c :: t)) := by
      simp only [tok1, h3, hc, htw, if_true, if_false, Bool.false_eq_true]
    unfold lex
    rw [show (32 :: 40 :: c :: t).length + 1 = (t.length + 1) + 1 + 1 + 1 by simp]
    rw [lexF, hs0]
    simp only [ht0]
    rw [show List.drop 1 (40 :: c :: t) = c :: t from rfl, lexF, hs1]
    simp only [ht1]
    by_cases hv : 2147483647 < val (c :: t)
    · simp only [if_pos hv]
      simp [Out.pre]
    · simp only [if_neg hv]
      rw [show List.drop (c :: t).length (c :: t) = [] by simp, lexF]
      simp [Out.pre, skip, skipS]
theorem val_zeros (z : Nat) (ds : List UInt8) : val (List.replicate z 48 ++ ds) = val ds := by
  unfold val
  rw [List.foldl_append]
  have e : List.foldl (fun (n : Nat) (c : UInt8) => 10 * n + (c.toNat - 48)) 0 (List.replicate z 48) = 0 := by
    induction z with
    | zero => rfl
    | succ z ih =>
      rw [List.replicate_succ, List.foldl_cons]
      exact ih
  rw [e]
theorem val_snoc (ds : List UInt8) (c : UInt8) : val (ds ++ [c]) = 10 * val ds + (c.toNat - 48) := by
  unfold val
  rw [List.foldl_append]
  rfl
/-! ### steps of the loops -/
theorem drop_cons {S : List UInt8} {i : Nat} (h : i < S.length) : S.drop i = S.getD i 0 :: S.drop (i + 1) := by
  rw [List.drop_eq_getElem_cons h, List.getD_eq_getElem?_getD, List.getElem?_eq_getElem h]
  rfl
theorem skip_blank {S : List UInt8} {i : Nat} (h : i < S.length) (hb : isB (S.getD i 0) = true) : skip (S.drop i) = skip (S.drop (i + 1)) := by
  have hn : (S.getD i 0).toNat ≠ 35 := by
    simp only [isB, Bool.or_eq_true, decide_eq_true_eq] at hb
    omega
  rw [drop_cons h]
  simp only [skip, skipS, if_neg hn, if_pos hb]
theorem skip_comment {S : List UInt8} {i : Nat} (h : i < S.length) (hb : (S.getD i 0).toNat = 35) : skip (S.drop i) = skipS true (S.drop i) := by
  rw [drop_cons h]
  obtain ⟨c, hc⟩ : ∃ c, S.getD i 0 = c := ⟨_, rfl⟩
  rw [hc] at hb ⊢
  simp [skip, skipS, hb]
theorem skip_stays {S : List UInt8} {i : Nat} (h : i < S.length) (h1 : (S.getD i 0).toNat ≠ 35) (h2 : isB (S.getD i 0) = false) : skip (S.drop i) = S.drop i := by
  rw [drop_cons h]
  exact skip_fix h1 h2
theorem skipT_step {S : List UInt8} {i : Nat} (h : i < S.length) (hb : (S.getD i 0).toNat ≠ 10) : skipS true (S.drop i) = skipS true (S.drop (i + 1)) := by
  rw [drop_cons h, skipS, show ((S.getD i 0).toNat != 10) = true by simpa using hb]
theorem skipT_end {S : List UInt8} {i : Nat} (h : i < S.length) (hb : (S.getD i 0).toNat = 10) : skipS true (S.drop i) = skip (S.drop i) := by
  rw [drop_cons h]
  obtain ⟨c, hc⟩ : ∃ c, S.getD i 0 = c := ⟨_, rfl⟩
  rw [hc] at hb ⊢
  simp [skip, skipS, hb, isB]
theorem skip_nil (m : Bool) : skipS m [] = [] := by cases m <;> rfl
end Go.Proofs.YtlfpaemfhanpiaaGreatDoor.LX

namespace Go.Proofs.YtlfpaemfhanpiaaGreatDoor.PS
open TY (Nd)
open LX (Tok)

abbrev Bs := List UInt8
/-- A result, with the tokens that are left; the first error; or too little fuel. -/
inductive PR (α : Type) where
  | ok (a : α) (r : List Tok)
  | err (p e : Nat)
  | out
def PR.bind {α β : Type} : PR α → (α → List Tok → PR β) → PR β
  | .ok a r, f => f a r
  | .err p e, _ => .err p e
  | .out, _ => .out
@[simp] theorem PR.bind_ok {α β : Type} (a : α) (r : List Tok) (f : α → List Tok → PR β) : (PR.ok a r).bind f = f a r := rfl
@[simp] theorem PR.bind_err {α β : Type} (p e : Nat) (f : α → List Tok → PR β) : (PR.err p e).bind f = .err p e := rfl
@[simp] theorem PR.bind_out {α β : Type} (f : α → List Tok → PR β) : (PR.out : PR α).bind f = .out := rfl

abbrev yOr : Bs := [124, 124]
abbrev yAnd : Bs := [38, 38]
abbrev yNot : Bs := [33]
abbrev yLt : Bs := [60]
abbrev yLe : Bs := [60, 61]
abbrev yGt : Bs := [62]
abbrev yGe : Bs := [62, 61]
abbrev yEq : Bs := [61, 61]
abbrev yNe : Bs := [33, 61]
abbrev yPlus : Bs := [43]
abbrev yMinus : Bs := [45]
abbrev yMul : Bs := [42]
abbrev yDiv : Bs := [47]
abbrev yLP : Bs := [40]
abbrev yRP : Bs := [41]
abbrev yLB : Bs := [123]
abbrev yRB : Bs := [125]
abbrev yComma : Bs := [44]
abbrev ySemi : Bs := [59]
abbrev yAsg : Bs := [61]
abbrev wDurable : Bs := [100, 117, 114, 97, 98, 108, 101]
abbrev wVolatile : Bs := [118, 111, 108, 97, 116, 105, 108, 101]
abbrev wOn : Bs := [111, 110]
abbrev wStart : Bs := [115, 116, 97, 114, 116]
abbrev wRequest : Bs := [114, 101, 113, 117, 101, 115, 116]
abbrev wTimer : Bs := [116, 105, 109, 101, 114]
abbrev wMessage : Bs := [109, 101, 115, 115, 97, 103, 101]
abbrev wIf : Bs := [105, 102]
abbrev wElse : Bs := [101, 108, 115, 101]
abbrev wWhile : Bs := [119, 104, 105, 108, 101]
abbrev wSend : Bs := [115, 101, 110, 100]
abbrev wCancel : Bs := [99, 97, 110, 99, 101, 108]
abbrev wSync : Bs := [115, 121, 110, 99]
abbrev wReply : Bs := [114, 101, 112, 108, 121]
abbrev wFail : Bs := [102, 97, 105, 108]
abbrev wStop : Bs := [115, 116, 111, 112]
abbrev wTrue : Bs := [116, 114, 117, 101]
abbrev wFalse : Bs := [102, 97, 108, 115, 101]
abbrev wDraw : Bs := [100, 114, 97, 119]
abbrev nSelf : Bs := [115, 101, 108, 102]
abbrev nNodes : Bs := [110, 111, 100, 101, 115]
abbrev nNow : Bs := [110, 111, 119]
abbrev nFrom : Bs := [102, 114, 111, 109]
abbrev nA : Bs := [97]
abbrev nB : Bs := [98]
abbrev nId : Bs := [105, 100]
abbrev nOp : Bs := [111, 112]
abbrev nKey : Bs := [107, 101, 121]
def kwds : List Bs := [wDurable, wVolatile, wOn, wStart, wRequest, wTimer, wMessage, wIf, wElse, wWhile, wSend, wCancel, wSync, wReply, wFail, wStop, wTrue, wFalse, wDraw]
def bins : List Bs := [nSelf, nNodes, nNow, nFrom, nA, nB, nId, nOp, nKey]
def isKw (s : Bs) : Bool := decide (s ∈ kwds)
def isBi (s : Bs) : Bool := decide (s ∈ bins)
def isName (t : Tok) : Bool := decide (t.kind = 1) && !isKw t.text && !isBi t.text
abbrev bs (l : Bs) : ByteArray := ⟨l.toArray⟩
abbrev nBin (s : Bs) (l r : Nd) : Nd := .mk 18 0 (bs s) [l, r]
abbrev nUn (s : Bs) (x : Nd) : Nd := .mk 17 0 (bs s) [x]
abbrev nDraw (x : Nd) : Nd := .mk 16 0 ⟨#[]⟩ [x]
abbrev nInt (n : Int) : Nd := .mk 12 n ⟨#[]⟩ []
abbrev nBool (n : Int) : Nd := .mk 13 n ⟨#[]⟩ []
abbrev nVar (s : Bs) : Nd := .mk 14 0 (bs s) []
abbrev nName (s : Bs) : Nd := .mk 15 0 (bs s) []
abbrev nBlk (l : List Nd) : Nd := .mk 11 0 ⟨#[]⟩ l

/-- The next token must be this. -/
def must (s : Bs) : List Tok → PR Unit
  | [] => .out
  | t :: u => if t.text = s then .ok () u else .err t.pos 10
/-- A number below the limit. -/
def numb (lim : Nat) : List Tok → PR Nat
  | [] => .out
  | t :: u => if t.kind = 2 then (if lim ≤ t.num then .err t.pos 6 else .ok t.num u) else .err t.pos 10
/-- A token that opens a level. -/
def opn (s : Bs) (lv : Nat) : List Tok → PR Unit
  | [] => .out
  | t :: u => if t.text = s then (if 20 < lv + 1 then .err t.pos 2 else .ok () u) else .err t.pos 10
def cmps : List Bs := [yLt, yLe, yGt, yGe, yEq, yNe]
def opsOf (p : Nat) : List Bs := if p = 1 then [yOr] else if p = 2 then [yAnd] else if p = 5 then [yPlus, yMinus] else if p = 6 then [yMul, yDiv] else []
/-- What is parsed: an expression of a precedence (1 or, 2 and, 3 not, 4 comparison, 5 sum, 6 product, 7 unary, 8 primary); what follows a left operand. -/
inductive Md where
  | ex (p : Nat)
  | ch (p : Nat) (l : Nd)
abbrev Rec := Md → Nat → List Tok → PR Nd
/-- deeper -/
def deeper (s : Bs) (m : Md) (g : Rec) (lv : Nat) (ts : List Tok) : PR Nd := (opn s lv ts).bind fun _ u => g m (lv + 1) u
def par (g : Rec) (lv : Nat) (ts : List Tok) : PR Nd := (deeper yLP (.ex 1) g lv ts).bind fun x r => (must yRP r).bind fun _ r => .ok x r
def prim (g : Rec) (lv : Nat) : List Tok → PR Nd
  | [] => .out
  | t :: u =>
    if t.kind = 2 then .ok (nInt t.num) u
    else if t.text = wTrue then .ok (nBool 1) u
    else if t.text = wFalse then .ok (nBool 0) u
    else if t.text = wDraw then (par g lv u).bind fun x r => .ok (nDraw x) r
    else if isBi t.text = true then .ok (nName t.text) u
    else if isName t = true then .ok (nVar t.text) u
    else par g lv (t :: u)
def pref (s : Bs) (p q : Nat) (g : Rec) (lv : Nat) : List Tok → PR Nd
  | [] => .out
  | t :: u => if t.text = s then (deeper s (.ex p) g lv (t :: u)).bind fun x r => .ok (nUn s x) r else g (.ex q) lv (t :: u)
def chn (p : Nat) (l : Nd) (g : Rec) (lv : Nat) : List Tok → PR Nd
  | [] => .out
  | t :: u => if t.text ∈ opsOf p then (g (.ex (p + 1)) lv u).bind fun x r => g (.ch p (nBin t.text l x)) lv r else .ok l (t :: u)
def cmp2 (l : Nd) (g : Rec) (lv : Nat) : List Tok → PR Nd
  | [] => .out
  | t :: u => if t.text ∈ cmps then (g (.ex 5) lv u).bind fun x r => .ok (nBin t.text l x) r else .ok l (t :: u)
def step (g : Rec) : Rec
  | .ch p l, lv, ts => chn p l g lv ts
  | .ex p, lv, ts =>
    if p = 3 then pref yNot 3 4 g lv ts
    else if p = 4 then (g (.ex 5) lv ts).bind fun l r => cmp2 l g lv r
    else if p = 7 then pref yMinus 7 8 g lv ts
    else if p = 8 then prim g lv ts
    else (g (.ex (p + 1)) lv ts).bind fun l r => g (.ch p l) lv r
def pe : Nat → Rec
  | 0 => fun _ _ _ => .out
  | f + 1 => step (pe f)

/-- Statements. -/
inductive Ms where
  | bl
  | sq (acc : List Nd)
  | st
abbrev RecS := Ms → Nat → List Tok → PR Nd
abbrev Ex := Nat → List Tok → PR Nd
def semi (x : Nd) (r : List Tok) : PR Nd := (must ySemi r).bind fun _ r => .ok x r
def asgn (E : Ex) (lv : Nat) : List Tok → PR Nd
  | [] => .out
  | t :: u => if isName t = true then (must yAsg u).bind fun _ r => (E lv r).bind fun x r => semi (.mk 1 0 (bs t.text) [x]) r else .err t.pos 10
def pIf (E : Ex) (g : RecS) (lv : Nat) (u : List Tok) : PR Nd :=
  (E lv u).bind fun c r => (g .bl lv r).bind fun y r => match r with
    | [] => .out
    | t :: v => if t.text = wElse then (g .bl lv v).bind fun n r => .ok (.mk 2 0 ⟨#[]⟩ [c, y, n]) r else .ok (.mk 2 0 ⟨#[]⟩ [c, y, nBlk []]) (t :: v)
def pWhile (E : Ex) (g : RecS) (lv : Nat) (u : List Tok) : PR Nd := (E lv u).bind fun c r => (g .bl lv r).bind fun y r => .ok (.mk 3 0 ⟨#[]⟩ [c, y]) r
def pSend (E : Ex) (lv : Nat) (u : List Tok) : PR Nd :=
  (E lv u).bind fun a r => (must yComma r).bind fun _ r => (numb 30 r).bind fun k r => (must yComma r).bind fun _ r => (E lv r).bind fun b r => (must yComma r).bind fun _ r => (E lv r).bind fun c r => semi (.mk 4 k ⟨#[]⟩ [a, b, c]) r
def pTimer (k : Int) (u : List Tok) : PR Nd := (numb 8 u).bind fun n r => semi (.mk k n ⟨#[]⟩ []) r
def pSimple (k : Int) (u : List Tok) : PR Nd := semi (.mk k 0 ⟨#[]⟩ []) u
def pReply (E : Ex) (lv : Nat) (u : List Tok) : PR Nd := (E lv u).bind fun a r => (must yComma r).bind fun _ r => (E lv r).bind fun b r => semi (.mk 8 0 ⟨#[]⟩ [a, b]) r
def pFail (E : Ex) (lv : Nat) (u : List Tok) : PR Nd := (E lv u).bind fun a r => semi (.mk 9 0 ⟨#[]⟩ [a]) r
def stm (E : Ex) (g : RecS) (lv : Nat) : List Tok → PR Nd
  | [] => .out
  | t :: u =>
    if t.text = wIf then pIf E g lv u
    else if t.text = wWhile then pWhile E g lv u
    else if t.text = wSend then pSend E lv u
    else if t.text = wTimer then pTimer 5 u
    else if t.text = wCancel then pTimer 6 u
    else if t.text = wSync then pSimple 7 u
    else if t.text = wStop then pSimple 10 u
    else if t.text = wReply then pReply E lv u
    else if t.text = wFail then pFail E lv u
    else asgn E lv (t :: u)
def seqn (g : RecS) (acc : List Nd) (lv : Nat) : List Tok → PR Nd
  | [] => .out
  | t :: u => if t.text = yRB then .ok (nBlk acc) (t :: u) else (g .st lv (t :: u)).bind fun x r => g (.sq (acc ++ [x])) lv r
def blk (g : RecS) (lv : Nat) (ts : List Tok) : PR Nd := (opn yLB lv ts).bind fun _ u => (g (.sq []) (lv + 1) u).bind fun n r => (must yRB r).bind fun _ r => .ok n r
def stepS (E : Ex) (g : RecS) : RecS
  | .bl, lv, ts => blk g lv ts
  | .sq acc, lv, ts => seqn g acc lv ts
  | .st, lv, ts => stm E g lv ts
def ps (E : Ex) : Nat → RecS
  | 0 => fun _ _ _ => .out
  | f + 1 => stepS E (ps E f)

/-- The names of a declaration, behind those that are declared. -/
def names (other : List Bs) : List Bs → List Tok → PR (List Bs)
  | own, t :: c :: v =>
    if isName t = true then
      if t.text ∈ own ∨ t.text ∈ other then .err t.pos 4
      else if own.length + other.length = 16 then .err t.pos 2
      else if c.text = yComma then names other (own ++ [t.text]) v
      else if c.text = ySemi then .ok (own ++ [t.text]) v
      else .err c.pos 10
    else .err t.pos 10
  | _, [t] => .err t.pos 10
  | _, [] => .out
def decls : Nat → List Bs → List Bs → List Tok → PR (List Bs × List Bs)
  | 0, _, _, _ => .out
  | _ + 1, _, _, [] => .out
  | f + 1, d, v, t :: u =>
    if t.text = wDurable then (names v d u).bind fun d r => decls f d v r
    else if t.text = wVolatile then (names d v u).bind fun v r => decls f d v r
    else .ok (d, v) (t :: u)
def hnum : List Tok → PR Nat
  | [] => .out
  | t :: u =>
    if t.text = wStart then .ok 0 u
    else if t.text = wRequest then .ok 1 u
    else if t.text = wTimer then (numb 8 u).bind fun n r => .ok (2 + n) r
    else if t.text = wMessage then (numb 30 u).bind fun n r => .ok (10 + n) r
    else .err t.pos 10
abbrev Hd := Nat × Nd
def hand (B : List Tok → PR Nd) (on : List Hd) : List Tok → PR Hd
  | [] => .out
  | t :: u => (hnum (t :: u)).bind fun n r => if n ∈ on.map Prod.fst then .err t.pos 4 else (B r).bind fun b r => .ok (n, b) r
def hands (B : List Tok → PR Nd) : Nat → List Hd → List Tok → PR (List Hd)
  | 0, _, _ => .out
  | _ + 1, _, [] => .out
  | f + 1, on, t :: u => if t.text = wOn then (hand B on u).bind fun h r => hands B f (on ++ [h]) r else if t.kind = 0 then .ok on (t :: u) else .err t.pos 10
/-- Into its place, by the number. -/
def ins (h : Hd) : List Hd → List Hd
  | [] => [h]
  | x :: l => if x.1 < h.1 then x :: ins h l else h :: x :: l
def sortH (l : List Hd) : List Hd := l.foldl (fun a h => ins h a) []
structure Un where
  dur : List Bs
  vol : List Bs
  on : List Hd
/-- The program of these tokens. -/
def fuel (ts : List Tok) : Nat := 10 * ts.length + 20
def prog (F : Nat) (ts : List Tok) : PR Un :=
  (decls F [] [] ts).bind fun p r => (hands (ps (pe F (.ex 1)) F .bl 0) F [] r).bind fun on r => .ok ⟨p.1, p.2, sortH on⟩ r
inductive Res where
  | err (p e : Nat)
  | ok (u : Un)
/-- Parse. -/
def parse (src : Bs) : Res :=
  if 3000 < src.length then .err 3000 2
  else match LX.lex src with
    | .err p e => .err p e
    | .ok ts => match prog (fuel ts) ts with
      | .ok u _ => .ok u
      | .err p e => .err p e
      | .out => .err 0 0
end Go.Proofs.YtlfpaemfhanpiaaGreatDoor.PS
