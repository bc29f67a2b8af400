/-
  The canonical source of a program, as pure functions: its tokens; the joint of tokens. Plain mathematics; no function of the program.
  The printed tokens of an expression are parsed to it. Plain mathematics; no function of the program.
  The statements that the parser gives. Plain mathematics.
-/
import Derived.Test.YtlfpaemfhanpiaaGreatDoorK1
import Derived.Lib.ItoaNum
import Derived.Test.YtlfpaemfhanpiaaGreatDoorK2

namespace Go.Proofs.YtlfpaemfhanpiaaGreatDoor.PP
open TY (Nd)
open PS

/-- A blank stands between two letters or digits. -/
def join (a b : Bs) : Bs :=
  match a.getLast?, b.head? with
  | some x, some y => if LX.isA x && LX.isA y then a ++ 32 :: b else a ++ b
  | _, _ => a ++ b
def joins (a : Bs) (ts : List Bs) : Bs := ts.foldl join a
theorem join_nil_left (b : Bs) : join [] b = b := rfl
theorem join_nil (a : Bs) : join a [] = a := by
  unfold join
  cases a.getLast? <;> simp
theorem join_head {a b : Bs} (h : a ≠ []) : (join a b).head? = a.head? := by
  obtain ⟨x, t, rfl⟩ := List.exists_cons_of_ne_nil h
  unfold join
  split
  · split <;> rfl
  · rfl
theorem join_last {a b : Bs} (h : b ≠ []) : (join a b).getLast? = b.getLast? := by
  have hb : b.getLast? ≠ none := by simpa using h
  unfold join
  split
  · split
    · rw [List.getLast?_append, List.getLast?_cons_of_ne_nil h]
      cases hh : b.getLast? with
      | none => exact absurd hh hb
      | some x => rfl
    · rw [List.getLast?_append]
      cases hh : b.getLast? with
      | none => exact absurd hh hb
      | some x => rfl
  · rw [List.getLast?_append]
    cases hh : b.getLast? with
    | none => exact absurd hh hb
    | some x => rfl
theorem join_ne {a b : Bs} (h : a ≠ []) : join a b ≠ [] := by
  obtain ⟨x, t, rfl⟩ := List.exists_cons_of_ne_nil h
  unfold join
  split
  · split <;> exact List.cons_ne_nil _ _
  · exact List.cons_ne_nil _ _
/-- What stands between two pieces. -/
def gap (x y : Option UInt8) : Bs := match x, y with
  | some x, some y => if LX.isA x && LX.isA y then [32] else []
  | _, _ => []
theorem join_gap (a b : Bs) : join a b = a ++ gap a.getLast? b.head? ++ b := by
  unfold join gap
  split
  · rename_i x y h1 h2
    split <;> simp [*]
  · rename_i h
    cases h1 : a.getLast? with
    | none => simp
    | some x =>
      cases h2 : b.head? with
      | none => simp
      | some y => exact absurd h2 (h x y h1)
theorem join_assoc (a b c : Bs) : join (join a b) c = join a (join b c) := by
  by_cases hb : b = []
  · subst hb
    rw [join_nil, join_nil_left]
  · rw [join_gap (join a b) c, join_gap a (join b c), join_last hb, join_head hb, join_gap a b, join_gap b c]
    simp only [List.append_assoc]
theorem joins_join (a b : Bs) (ts : List Bs) : joins (join a b) ts = join a (joins b ts) := by
  induction ts generalizing b with
  | nil => rfl
  | cons t u ih =>
    show joins (join (join a b) t) u = join a (joins (join b t) u)
    rw [join_assoc, ih]
theorem joins_eq (a : Bs) (ts : List Bs) : joins a ts = join a (joins [] ts) := by
  rw [← joins_join, join_nil]
theorem joins_append (a : Bs) (xs ys : List Bs) : joins a (xs ++ ys) = joins (joins a xs) ys := by
  unfold joins
  rw [List.foldl_append]
theorem joins_cat (xs ys : List Bs) : joins [] (xs ++ ys) = join (joins [] xs) (joins [] ys) := by
  rw [joins_append, joins_eq]
/-- Each token with one byte more. -/
def wt (ts : List Bs) : Nat := (ts.map fun t => t.length + 1).sum
theorem wt_append (xs ys : List Bs) : wt (xs ++ ys) = wt xs + wt ys := by simp [wt]
theorem wt_cons (x : Bs) (ys : List Bs) : wt (x :: ys) = x.length + 1 + wt ys := by simp [wt]
theorem wt_nil : wt [] = 0 := rfl
theorem gap_le (x y : Option UInt8) : (gap x y).length ≤ 1 := by
  unfold gap
  split
  · split <;> simp
  · simp
theorem join_len (a b : Bs) : (join a b).length ≤ a.length + 1 + b.length := by
  rw [join_gap]
  have := gap_le a.getLast? b.head?
  simp only [List.length_append]
  omega
theorem join_big (a b : Bs) : a.length ≤ (join a b).length ∧ b.length ≤ (join a b).length := by
  rw [join_gap]
  simp only [List.length_append]
  omega
theorem joins_len (a : Bs) (ts : List Bs) : (joins a ts).length ≤ a.length + wt ts := by
  induction ts generalizing a with
  | nil => simp [joins, wt]
  | cons t u ih =>
    have := ih (join a t)
    have h2 := join_len a t
    rw [wt_cons]
    show (joins (join a t) u).length ≤ _
    omega

/-- The precedence of an expression: 1 or, 2 and, 3 not, 4 comparison, 5 sum, 6 product, 7 unary, 8 primary. -/
def bprec (s : ByteArray) : Nat := if s = TY.sOr then 1 else if s = TY.sAnd then 2 else if s = TY.sPlus ∨ s = TY.sMinus then 5 else if s = TY.sMul ∨ s = TY.sDiv then 6 else 4
def prec (k : Int) (s : ByteArray) : Nat := if k = 17 then (if s = TY.sNot then 3 else 7) else if k = 18 then bprec s else 8
theorem prec_le (k : Int) (s : ByteArray) : prec k s ≤ 8 := by
  unfold prec bprec
  repeat' split
  all_goals omega
theorem bprec_le (s : ByteArray) : bprec s ≤ 6 := by
  unfold bprec
  repeat' split
  all_goals omega
abbrev ob (s : ByteArray) : Bs := s.data.toList
abbrev dec (n : Int) : Bs := Go.Lib.decDigits n.toNat
/-- A child's tokens. -/
def kd (f : List (Nat → List Bs)) (i r : Nat) : List Bs := match f[i]? with | some g => g r | none => []
/-- The tokens of an expression without parentheses around it, given the children's. -/
def bare (k n : Int) (s : ByteArray) (f : List (Nat → List Bs)) : List Bs :=
  if k = 12 then [dec n]
  else if k = 13 then [if n = 0 then wFalse else wTrue]
  else if k = 16 then wDraw :: yLP :: kd f 0 1 ++ [yRP]
  else if k = 17 then ob s :: kd f 0 (prec k s)
  else if k = 18 then kd f 0 (if prec k s = 4 then 5 else prec k s) ++ ob s :: kd f 1 (prec k s + 1)
  else [ob s]
def wrapP (b : Bool) (l : List Bs) : List Bs := if b then yLP :: l ++ [yRP] else l
/-- The tokens of an expression where a precedence is required; full: with parentheses around every operation. -/
def tE (full : Bool) : Nd → Nat → List Bs
  | .mk k n s l, r => wrapP (decide (prec k s < r) || (full && decide (prec k s < 8))) (bare k n s (l.map (tE full)))
theorem tE_eq (full : Bool) (k n : Int) (s : ByteArray) (l : List Nd) (r : Nat) : tE full (.mk k n s l) r = wrapP (decide (prec k s < r) || (full && decide (prec k s < 8))) (bare k n s (l.map (tE full))) := by rw [tE]
/-- Expressions with commas between them. -/
def lst (full : Bool) : List Nd → List Bs
  | [] => []
  | [x] => tE full x 1
  | x :: y :: l => tE full x 1 ++ yComma :: lst full (y :: l)
def kdS (f : List (List Bs)) (i : Nat) : List Bs := f[i]?.getD []
/-- A statement's tokens, given those of its children as expressions and as blocks. -/
def stF (full : Bool) (k n : Int) (s : ByteArray) (l : List Nd) (f : List (List Bs)) : List Bs :=
  if k = 11 then yLB :: f.flatten ++ [yRB]
  else if k = 1 then ob s :: yAsg :: lst full l ++ [ySemi]
  else if k = 2 then wIf :: kd (l.map (tE full)) 0 1 ++ kdS f 1 ++ (if kdS f 2 = [yLB, yRB] then [] else wElse :: kdS f 2)
  else if k = 3 then wWhile :: kd (l.map (tE full)) 0 1 ++ kdS f 1
  else if k = 4 then wSend :: kd (l.map (tE full)) 0 1 ++ yComma :: dec n :: yComma :: lst full (l.drop 1) ++ [ySemi]
  else if k = 5 then [wTimer, dec n, ySemi]
  else if k = 6 then [wCancel, dec n, ySemi]
  else if k = 7 then [wSync, ySemi]
  else if k = 8 then wReply :: lst full l ++ [ySemi]
  else if k = 9 then wFail :: lst full l ++ [ySemi]
  else [wStop, ySemi]
def tS (full : Bool) : Nd → List Bs
  | .mk k n s l => stF full k n s l (l.map (tS full))
theorem tS_eq (full : Bool) (k n : Int) (s : ByteArray) (l : List Nd) : tS full (.mk k n s l) = stF full k n s l (l.map (tS full)) := by rw [tS]
/-- The names of a declaration with commas between them. -/
def tN : List Bs → List Bs
  | [] => []
  | [x] => [x]
  | x :: y :: l => x :: yComma :: tN (y :: l)
def tD (w : Bs) (l : List Bs) : List Bs := if l = [] then [] else w :: tN l ++ [ySemi]
def tH (full : Bool) (h : Hd) : List Bs :=
  wOn :: (if h.1 = 0 then [wStart] else if h.1 = 1 then [wRequest] else if 10 ≤ h.1 then [wMessage, Go.Lib.decDigits (h.1 - 10)] else [wTimer, Go.Lib.decDigits (h.1 - 2)]) ++ tS full h.2
/-- The tokens of a program. -/
def tU (u : Un) : List Bs := tD wDurable u.dur ++ tD wVolatile u.vol ++ u.on.flatMap (tH false)
def print (u : Un) : Bs := joins [] (tU u)
/-- Volatile variables first, the handlers from the last to the first, parentheses around every operation. -/
def tL (u : Un) : List Bs := tD wVolatile u.vol ++ tD wDurable u.dur ++ u.on.reverse.flatMap (tH true)
def loose (u : Un) : Bs := joins [] (tL u)
end Go.Proofs.YtlfpaemfhanpiaaGreatDoor.PP

namespace Go.Proofs.YtlfpaemfhanpiaaGreatDoor.PP
open TY (Nd)
open PS
open LX (Tok)

def kindT : Bs → Nat
  | [] => 0
  | c :: _ => if LX.isW c then 1 else if LX.isD c then 2 else 3
def numT : Bs → Nat
  | [] => 0
  | c :: l => if LX.isW c then 0 else if LX.isD c then LX.val (c :: l) else 0
/-- These tokens have these texts, and the kinds and values of these. -/
def IsT (t : Tok) (s : Bs) : Prop := t.text = s ∧ t.kind = kindT s ∧ t.num = numT s
inductive Mt : List Bs → List Tok → Prop
  | nil : Mt [] []
  | cons {s : Bs} {t : Tok} {xs : List Bs} {ts : List Tok} : IsT t s → Mt xs ts → Mt (s :: xs) (t :: ts)
theorem Mt.app {xs ys : List Bs} {ts : List Tok} (h : Mt (xs ++ ys) ts) : ∃ us vs, ts = us ++ vs ∧ Mt xs us ∧ Mt ys vs := by
  induction xs generalizing ts with
  | nil => exact ⟨[], ts, rfl, .nil, h⟩
  | cons x xs ih =>
    cases h with
    | cons h1 h2 =>
      obtain ⟨us, vs, rfl, k1, k2⟩ := ih h2
      exact ⟨_ :: us, vs, rfl, .cons h1 k1, k2⟩
theorem Mt.uncons {x : Bs} {xs : List Bs} {ts : List Tok} (h : Mt (x :: xs) ts) : ∃ t us, ts = t :: us ∧ IsT t x ∧ Mt xs us := by
  cases h with
  | cons h1 h2 => exact ⟨_, _, rfl, h1, h2⟩
theorem Mt.one {x : Bs} {ts : List Tok} (h : Mt [x] ts) : ∃ t, ts = [t] ∧ IsT t x := by
  obtain ⟨t, us, rfl, h1, h2⟩ := h.uncons
  cases h2
  exact ⟨t, rfl, h1⟩
theorem Mt.two {x y : Bs} {ts : List Tok} (h : Mt [x, y] ts) : ∃ t u, ts = [t, u] ∧ IsT t x ∧ IsT u y := by
  obtain ⟨t, us, rfl, h1, h2⟩ := h.uncons
  obtain ⟨u, rfl, h3⟩ := h2.one
  exact ⟨t, u, rfl, h1, h3⟩
theorem Mt.three {x y z : Bs} {ts : List Tok} (h : Mt [x, y, z] ts) : ∃ t u v, ts = [t, u, v] ∧ IsT t x ∧ IsT u y ∧ IsT v z := by
  obtain ⟨t, us, rfl, h1, h2⟩ := h.uncons
  obtain ⟨u, v, rfl, h3, h4⟩ := h2.two
  exact ⟨t, u, v, rfl, h1, h3, h4⟩

/-- A word that can be the name of a variable. -/
def nmOk (s : Bs) : Bool := (decide (kindT s = 1) && !isKw s && !isBi s) && (decide (s.length ≤ 10) && s.all LX.isA)
def ops12 : List ByteArray := [TY.sPlus, TY.sMinus, TY.sMul, TY.sDiv, TY.sLt, TY.sLe, TY.sGt, TY.sGe, TY.sEq, TY.sNe, TY.sAnd, TY.sOr]
/-- Expressions that have a source; d: how deep. -/
inductive WE : Nat → Nd → Prop
  | int (d : Nat) (n : Int) : 0 ≤ n → n ≤ 2147483647 → WE d (.mk 12 n TY.eps [])
  | bool (d : Nat) (n : Int) : n = 0 ∨ n = 1 → WE d (.mk 13 n TY.eps [])
  | var (d : Nat) (s : ByteArray) : nmOk (ob s) = true → WE d (.mk 14 0 s [])
  | name (d : Nat) (s : ByteArray) : ob s ∈ bins → WE d (.mk 15 0 s [])
  | draw (d : Nat) (x : Nd) : WE d x → WE (d + 1) (.mk 16 0 TY.eps [x])
  | un (d : Nat) (s : ByteArray) (x : Nd) : s = TY.sMinus ∨ s = TY.sNot → WE d x → WE (d + 1) (.mk 17 0 s [x])
  | bin (d : Nat) (s : ByteArray) (x y : Nd) : s ∈ ops12 → WE d x → WE d y → WE (d + 1) (.mk 18 0 s [x, y])
/-- With enough fuel. -/
def Par (m : Md) (lv : Nat) (ts : List Tok) (x : Nd) (r : List Tok) : Prop := ∃ F, pe F m lv ts = .ok x r
theorem Par.at_ {m : Md} {lv : Nat} {ts r : List Tok} {x : Nd} (h : Par m lv ts x r) : ∃ F, ∀ G, F ≤ G → pe G m lv ts = .ok x r := by
  obtain ⟨F, h⟩ := h
  exact ⟨F, fun G hG => (pe_le hG m lv ts).ok h⟩
theorem bs_ob (s : ByteArray) : bs (ob s) = s := by
  show ByteArray.mk s.data.toList.toArray = s
  rw [Array.toArray_toList]
theorem Par.chain {p lv : Nat} {ts r1 r : List Tok} {l x : Nd} (hp : p = 1 ∨ p = 2 ∨ p = 5 ∨ p = 6) (h1 : Par (.ex (p + 1)) lv ts l r1) (h2 : Par (.ch p l) lv r1 x r) : Par (.ex p) lv ts x r := by
  obtain ⟨F1, h1⟩ := h1.at_
  obtain ⟨F2, h2⟩ := h2.at_
  refine ⟨max F1 F2 + 1, ?_⟩
  show PS.step (pe (max F1 F2)) (.ex p) lv ts = _
  rw [PS.step, if_neg (by omega), if_neg (by omega), if_neg (by omega), if_neg (by omega), h1 _ (Nat.le_max_left _ _), PR.bind_ok, h2 _ (Nat.le_max_right _ _)]
theorem Par.stop {p lv : Nat} {t : Tok} {u : List Tok} {l : Nd} (h : t.text ∉ opsOf p) : Par (.ch p l) lv (t :: u) l (t :: u) := by
  refine ⟨1, ?_⟩
  show PS.step (pe 0) (.ch p l) lv (t :: u) = _
  rw [PS.step, chn, if_neg h]
theorem Par.op {p lv : Nat} {t : Tok} {u r1 r : List Tok} {l x y : Nd} (h : t.text ∈ opsOf p) (h1 : Par (.ex (p + 1)) lv u y r1) (h2 : Par (.ch p (nBin t.text l y)) lv r1 x r) : Par (.ch p l) lv (t :: u) x r := by
  obtain ⟨F1, h1⟩ := h1.at_
  obtain ⟨F2, h2⟩ := h2.at_
  refine ⟨max F1 F2 + 1, ?_⟩
  show PS.step (pe (max F1 F2)) (.ch p l) lv (t :: u) = _
  rw [PS.step, chn, if_pos h, h1 _ (Nat.le_max_left _ _), PR.bind_ok, h2 _ (Nat.le_max_right _ _)]
theorem opn_ok {s : Bs} {lv : Nat} {t : Tok} {u : List Tok} (h : t.text = s) (hl : lv + 1 ≤ 20) : opn s lv (t :: u) = .ok () u := by
  rw [opn, if_pos h, if_neg (by omega)]
theorem Par.pre {s : Bs} {p lv : Nat} {t : Tok} {u r : List Tok} {x : Nd} (hp : (p = 3 ∧ s = yNot) ∨ (p = 7 ∧ s = yMinus)) (h : t.text = s) (hl : lv + 1 ≤ 20) (h1 : Par (.ex p) (lv + 1) u x r) : Par (.ex p) lv (t :: u) (nUn s x) r := by
  obtain ⟨F1, h1⟩ := h1
  refine ⟨F1 + 1, ?_⟩
  show PS.step (pe F1) (.ex p) lv (t :: u) = _
  rcases hp with ⟨rfl, rfl⟩ | ⟨rfl, rfl⟩
  · rw [PS.step, if_pos rfl, pref, if_pos h, deeper, opn_ok h hl, PR.bind_ok, h1, PR.bind_ok]
  · rw [PS.step, if_neg (by omega), if_neg (by omega), if_pos rfl, pref, if_pos h, deeper, opn_ok h hl, PR.bind_ok, h1, PR.bind_ok]
theorem Par.not_ {lv : Nat} {t : Tok} {u r : List Tok} {x : Nd} (h : t.text ≠ yNot) (h1 : Par (.ex 4) lv (t :: u) x r) : Par (.ex 3) lv (t :: u) x r := by
  obtain ⟨F1, h1⟩ := h1
  refine ⟨F1 + 1, ?_⟩
  show PS.step (pe F1) (.ex 3) lv (t :: u) = _
  rw [PS.step, if_pos rfl, pref, if_neg h, h1]
theorem Par.neg_ {lv : Nat} {t : Tok} {u r : List Tok} {x : Nd} (h : t.text ≠ yMinus) (h1 : Par (.ex 8) lv (t :: u) x r) : Par (.ex 7) lv (t :: u) x r := by
  obtain ⟨F1, h1⟩ := h1
  refine ⟨F1 + 1, ?_⟩
  show PS.step (pe F1) (.ex 7) lv (t :: u) = _
  rw [PS.step, if_neg (by omega), if_neg (by omega), if_pos rfl, pref, if_neg h, h1]
theorem Par.cmp0 {lv : Nat} {ts u : List Tok} {t : Tok} {l : Nd} (h1 : Par (.ex 5) lv ts l (t :: u)) (h : t.text ∉ cmps) : Par (.ex 4) lv ts l (t :: u) := by
  obtain ⟨F1, h1⟩ := h1
  refine ⟨F1 + 1, ?_⟩
  show PS.step (pe F1) (.ex 4) lv ts = _
  rw [PS.step, if_neg (by omega), if_pos rfl, h1, PR.bind_ok, cmp2, if_neg h]
theorem Par.cmp1 {lv : Nat} {ts u r : List Tok} {t : Tok} {l x : Nd} (h1 : Par (.ex 5) lv ts l (t :: u)) (h : t.text ∈ cmps) (h2 : Par (.ex 5) lv u x r) : Par (.ex 4) lv ts (nBin t.text l x) r := by
  obtain ⟨F1, h1⟩ := h1.at_
  obtain ⟨F2, h2⟩ := h2.at_
  refine ⟨max F1 F2 + 1, ?_⟩
  show PS.step (pe (max F1 F2)) (.ex 4) lv ts = _
  rw [PS.step, if_neg (by omega), if_pos rfl, h1 _ (Nat.le_max_left _ _), PR.bind_ok, cmp2, if_pos h, h2 _ (Nat.le_max_right _ _), PR.bind_ok]
theorem par_ok {F lv : Nat} {t v : Tok} {u r : List Tok} {x : Nd} (h : t.text = yLP) (hl : lv + 1 ≤ 20) (h1 : pe F (.ex 1) (lv + 1) u = .ok x (v :: r)) (hv : v.text = yRP) : par (pe F) lv (t :: u) = .ok x r := by
  rw [par, deeper, opn_ok h hl, PR.bind_ok, h1, PR.bind_ok, must, if_pos hv, PR.bind_ok]
theorem prim_step (F lv : Nat) (ts : List Tok) : pe (F + 1) (.ex 8) lv ts = prim (pe F) lv ts := by
  show PS.step (pe F) (.ex 8) lv ts = _
  rw [PS.step, if_neg (by omega), if_neg (by omega), if_neg (by omega), if_pos rfl]
theorem Par.paren {lv : Nat} {t v : Tok} {u r : List Tok} {x : Nd} (h : IsT t yLP) (hl : lv + 1 ≤ 20) (h1 : Par (.ex 1) (lv + 1) u x (v :: r)) (hv : v.text = yRP) : Par (.ex 8) lv (t :: u) x r := by
  obtain ⟨F1, h1⟩ := h1
  refine ⟨F1 + 1, ?_⟩
  obtain ⟨k1, k2, k3⟩ := h
  have k2 : t.kind = 3 := k2
  rw [prim_step, prim, if_neg (by omega), if_neg (by rw [k1]; decide), if_neg (by rw [k1]; decide), if_neg (by rw [k1]; decide), if_neg (by rw [k1]; decide), if_neg (by rw [isName, k1, k2]; decide)]
  exact par_ok k1 hl h1 hv
theorem Par.draw {lv : Nat} {t t2 v : Tok} {u r : List Tok} {x : Nd} (h : IsT t wDraw) (h2 : IsT t2 yLP) (hl : lv + 1 ≤ 20) (h1 : Par (.ex 1) (lv + 1) u x (v :: r)) (hv : v.text = yRP) : Par (.ex 8) lv (t :: t2 :: u) (nDraw x) r := by
  obtain ⟨F1, h1⟩ := h1
  refine ⟨F1 + 1, ?_⟩
  obtain ⟨k1, k2, k3⟩ := h
  have k2 : t.kind = 1 := k2
  rw [prim_step, prim, if_neg (by omega), if_neg (by rw [k1]; decide), if_neg (by rw [k1]; decide), if_pos k1, par_ok h2.1 hl h1 hv, PR.bind_ok]

/-- No operator of this precedence or a higher one. -/
def Stop (r : Nat) (t : Tok) : Prop := (∀ p, r ≤ p → t.text ∉ opsOf p) ∧ (r ≤ 4 → t.text ∉ cmps)
theorem Stop.mono {r q : Nat} {t : Tok} (h : Stop r t) (hq : r ≤ q) : Stop q t := ⟨fun p hp => h.1 p (by omega), fun h4 => h.2 (by omega)⟩
/-- What is parsed at a precedence is parsed at a lower one, where no operator follows. -/
theorem Par.lift {own lv : Nat} {t0 t1 : Tok} {us rest : List Tok} {x : Nd} (h8 : own ≤ 8) (h : Par (.ex own) lv (t1 :: us ++ t0 :: rest) x (t0 :: rest)) (hn : 4 ≤ own → t1.text ≠ yNot) (hm : own = 8 → t1.text ≠ yMinus) : ∀ (k r : Nat), r + k = own → 1 ≤ r → Stop r t0 → Par (.ex r) lv (t1 :: us ++ t0 :: rest) x (t0 :: rest)
  | 0, r, hr, _, _ => by
    have : r = own := by omega
    subst this
    exact h
  | k + 1, r, hr, h1, hs => by
    have ih := Par.lift h8 h hn hm k (r + 1) (by omega) (by omega) (hs.mono (by omega))
    have hr' : r = 1 ∨ r = 2 ∨ r = 3 ∨ r = 4 ∨ r = 5 ∨ r = 6 ∨ r = 7 := by omega
    rcases hr' with rfl | rfl | rfl | rfl | rfl | rfl | rfl
    · exact .chain (by omega) ih (.stop (hs.1 1 (by omega)))
    · exact .chain (by omega) ih (.stop (hs.1 2 (by omega)))
    · exact .not_ (hn (by omega)) ih
    · exact .cmp0 ih (hs.2 (by omega))
    · exact .chain (by omega) ih (.stop (hs.1 5 (by omega)))
    · exact .chain (by omega) ih (.stop (hs.1 6 (by omega)))
    · exact .neg_ (hm (by omega)) ih
/-- The first token of what is printed. -/
def Fst (own : Nat) (us : List Tok) : Prop := ∃ t1 vs, us = t1 :: vs ∧ (4 ≤ own → t1.text ≠ yNot) ∧ (own = 8 → t1.text ≠ yMinus)
/-- What is printed without parentheses around it is parsed. -/
def Cb (full : Bool) (d : Nat) : Nd → Prop
  | .mk k n s l => ∀ (lv : Nat) (us : List Tok) (t0 : Tok) (rest : List Tok), Mt (bare k n s (l.map (tE full))) us → (1 ≤ d → lv + 2 * d ≤ 21) → Fst (prec k s) us ∧
    (Stop (prec k s) t0 → Par (.ex (prec k s)) lv (us ++ t0 :: rest) (.mk k n s l) (t0 :: rest)) ∧
    ((prec k s = 1 ∨ prec k s = 2 ∨ prec k s = 5 ∨ prec k s = 6) → Stop (prec k s + 1) t0 → ∀ x r, Par (.ch (prec k s) (.mk k n s l)) lv (t0 :: rest) x r → Par (.ex (prec k s)) lv (us ++ t0 :: rest) x r)
def Ca (full : Bool) (d : Nat) (t : Nd) : Prop := ∀ (lv q : Nat) (us : List Tok) (t0 : Tok) (rest : List Tok), Mt (tE full t q) us → lv + 2 * d ≤ 20 → q ≤ 8 →
    (∃ t1 vs, us = t1 :: vs ∧ (4 ≤ q → t1.text ≠ yNot) ∧ (8 ≤ q → t1.text ≠ yMinus)) ∧
    (∀ r, 1 ≤ r → r ≤ q → Stop r t0 → Par (.ex r) lv (us ++ t0 :: rest) t (t0 :: rest)) ∧
    ((q = 1 ∨ q = 2 ∨ q = 5 ∨ q = 6) → Stop (q + 1) t0 → ∀ x r, Par (.ch q t) lv (t0 :: rest) x r → Par (.ex q) lv (us ++ t0 :: rest) x r)
theorem prec_pos (k : Int) (s : ByteArray) : 1 ≤ prec k s := by
  unfold prec bprec
  repeat' split
  all_goals omega
theorem stop_rp (r : Nat) {v : Tok} (hv : v.text = yRP) : Stop r v := by
  have h : ∀ p, v.text ∉ opsOf p := fun p => by
    rw [hv, opsOf]
    repeat' split
    all_goals decide
  exact ⟨fun p _ => h p, fun _ => by rw [hv]; decide⟩
theorem ca_of {full : Bool} {d : Nat} {k n : Int} {s : ByteArray} {l : List Nd} (h : Cb full d (.mk k n s l)) (hd : prec k s < 8 → 1 ≤ d) : Ca full d (.mk k n s l) := by
  intro lv q us t0 rest hM hlv hq
  rw [tE_eq] at hM
  have p1 := prec_pos k s
  have p8 := prec_le k s
  by_cases hw : (decide (prec k s < q) || (full && decide (prec k s < 8))) = true
  · rw [hw] at hM
    have hM : Mt (yLP :: (bare k n s (l.map (tE full)) ++ [yRP])) us := hM
    obtain ⟨t1, u1, rfl, a1, hM1⟩ := hM.uncons
    obtain ⟨u2, u3, rfl, hM2, h3⟩ := hM1.app
    obtain ⟨v, rfl, a3⟩ := h3.one
    have hp8 : prec k s < 8 := by
      rw [Bool.or_eq_true, Bool.and_eq_true, decide_eq_true_iff, decide_eq_true_iff] at hw
      omega
    have hd1 := hd hp8
    obtain ⟨⟨t2, w2, rfl, n1, n2⟩, c1, c2⟩ := h (lv + 1) u2 v (t0 :: rest) hM2 (fun _ => by omega)
    have hb := Par.lift p8 (c1 (stop_rp _ a3.1)) n1 n2 (prec k s - 1) 1 (by omega) (by omega) (stop_rp _ a3.1)
    have h8 : Par (.ex 8) lv ((t1 :: (t2 :: w2 ++ [v])) ++ t0 :: rest) (.mk k n s l) (t0 :: rest) := by
      have := Par.paren (r := t0 :: rest) a1 (by omega) hb a3.1
      simpa using this
    have nn : t1.text ≠ yNot := by rw [a1.1]; decide
    have nm : t1.text ≠ yMinus := by rw [a1.1]; decide
    refine ⟨⟨t1, _, rfl, fun _ => nn, fun _ => nm⟩, fun r h1 h2 hs => Par.lift (by omega) h8 (fun _ => nn) (fun _ => nm) (8 - r) r (by omega) h1 hs, fun hp hs x r hc => ?_⟩
    exact .chain hp (Par.lift (by omega) h8 (fun _ => nn) (fun _ => nm) (8 - (q + 1)) (q + 1) (by omega) (by omega) hs) hc
  · rw [Bool.not_eq_true] at hw
    rw [hw] at hM
    have hM : Mt (bare k n s (l.map (tE full))) us := hM
    have hpq : q ≤ prec k s := by
      rw [Bool.or_eq_false_iff, decide_eq_false_iff_not] at hw
      omega
    obtain ⟨⟨t2, w2, rfl, n1, n2⟩, c1, c2⟩ := h lv us t0 rest hM (fun _ => by omega)
    refine ⟨⟨t2, _, rfl, fun h4 => n1 (by omega), fun h8 => n2 (by omega)⟩, fun r h1 h2 hs => Par.lift p8 (c1 (hs.mono (by omega))) n1 n2 (prec k s - r) r (by omega) h1 hs, fun hp hs x r hc => ?_⟩
    by_cases he : prec k s = q
    · subst he
      exact c2 hp hs x r hc
    · exact .chain hp (Par.lift p8 (c1 (hs.mono (by omega))) n1 n2 (prec k s - (q + 1)) (q + 1) (by omega) (by omega) hs) hc
theorem Par.prim1 {lv : Nat} {t : Tok} {r : List Tok} {x : Nd} (h : ∀ g, prim g lv (t :: r) = .ok x r) : Par (.ex 8) lv (t :: r) x r := ⟨1, by rw [prim_step]; exact h _⟩
theorem cb_leaf {full : Bool} {d : Nat} {k n : Int} {s : ByteArray} {x : Bs} (hp : prec k s = 8) (hb : ∀ f, bare k n s f = [x]) (hn : x ≠ yNot) (hm : x ≠ yMinus) (h : ∀ t r g lv, IsT t x → prim g lv (t :: r) = .ok (.mk k n s []) r) : Cb full d (.mk k n s []) := by
  intro lv us t0 rest hM _
  rw [hb] at hM
  obtain ⟨t, rfl, a⟩ := hM.one
  rw [hp]
  exact ⟨⟨t, [], rfl, fun _ => by rw [a.1]; exact hn, fun _ => by rw [a.1]; exact hm⟩, fun _ => .prim1 fun g => h t _ g lv a, fun h => by omega⟩
theorem isW_not_D {c : UInt8} (h : LX.isW c = true) : LX.isD c = false := by
  unfold LX.isW at h
  unfold LX.isD
  simp only [Bool.and_eq_true, decide_eq_true_eq] at h
  simp only [Bool.and_eq_false_iff, decide_eq_false_iff_not]
  omega
theorem dd_digit : ∀ (k u : Nat), u < 10 ^ (k + 1) → Go.Lib.decDigits u ≠ [] ∧ (∀ c ∈ Go.Lib.decDigits u, LX.isD c = true) ∧ LX.val (Go.Lib.decDigits u) = u
  | 0, u, h => by
    rw [Go.Lib.decDigits, dif_pos (by omega)]
    have hn : (UInt8.ofNat (48 + u)).toNat = 48 + u := by rw [UInt8.toNat_ofNat']; omega
    refine ⟨List.cons_ne_nil _ _, fun c hc => ?_, ?_⟩
    · rw [List.mem_singleton] at hc
      subst hc
      simp only [LX.isD, hn, Bool.and_eq_true, decide_eq_true_eq]
      omega
    · show 10 * 0 + ((UInt8.ofNat (48 + u)).toNat - 48) = u
      rw [hn]
      omega
  | k + 1, u, h => by
    rw [Go.Lib.decDigits]
    split
    · rename_i h10
      have := dd_digit 0 u (by omega)
      rw [Go.Lib.decDigits, dif_pos h10] at this
      exact this
    · obtain ⟨h1, h2, h3⟩ := dd_digit k (u / 10) (by rw [Nat.pow_succ] at h; omega)
      have hn : (UInt8.ofNat (48 + u % 10)).toNat = 48 + u % 10 := by rw [UInt8.toNat_ofNat']; omega
      refine ⟨by simp, fun c hc => ?_, ?_⟩
      · rcases List.mem_append.1 hc with hc | hc
        · exact h2 c hc
        · rw [List.mem_singleton] at hc
          subst hc
          simp only [LX.isD, hn, Bool.and_eq_true, decide_eq_true_eq]
          omega
      · rw [LX.val_snoc, h3, hn]
        omega
theorem dec_tok {n : Nat} (h : n ≤ 2147483647) : kindT (Go.Lib.decDigits n) = 2 ∧ numT (Go.Lib.decDigits n) = n := by
  obtain ⟨h1, h2, h3⟩ := dd_digit 9 n (by omega)
  cases hl : Go.Lib.decDigits n with
  | nil => exact absurd hl h1
  | cons c l =>
    rw [hl] at h2 h3
    have hd := h2 c (List.mem_cons_self ..)
    have hw : LX.isW c = false := by
      cases h : LX.isW c with
      | false => rfl
      | true => rw [isW_not_D h] at hd; cases hd
    rw [kindT, numT, hw, hd]
    exact ⟨rfl, h3⟩
theorem dec_ne {n : Nat} (h : n ≤ 2147483647) {x : Bs} (hx : kindT x ≠ 2) : Go.Lib.decDigits n ≠ x := fun e => hx (e ▸ (dec_tok h).1)
theorem nm_text {s x : Bs} (h : nmOk s = true) (hx : nmOk x = false) : s ≠ x := fun e => by rw [e, hx] at h; cases h
theorem op_facts {s : ByteArray} (h : s ∈ ops12) : ((prec 18 s = 1 ∨ prec 18 s = 2 ∨ prec 18 s = 5 ∨ prec 18 s = 6) ∧ ob s ∈ opsOf (prec 18 s) ∧ (∀ p, prec 18 s + 1 ≤ p → ob s ∉ opsOf p) ∧ ob s ∉ cmps ∨ prec 18 s = 4 ∧ ob s ∈ cmps ∧ ∀ p, ob s ∉ opsOf p) := by
  have key : ∀ (o : Bs) (b : Nat), (∀ p ∈ [1, 2, 5, 6], b ≤ p → o ∉ opsOf p) → ∀ p, b ≤ p → o ∉ opsOf p := fun o b h p hp => by
    by_cases h4 : p = 1 ∨ p = 2 ∨ p = 5 ∨ p = 6
    · exact h p (by simpa using h4) hp
    · rw [opsOf, if_neg (by omega), if_neg (by omega), if_neg (by omega), if_neg (by omega)]
      exact List.not_mem_nil
  simp only [ops12, List.mem_cons, List.not_mem_nil, or_false] at h
  rcases h with rfl | rfl | rfl | rfl | rfl | rfl | rfl | rfl | rfl | rfl | rfl | rfl
  all_goals first
    | exact .inl ⟨by decide, by decide, key _ _ (by decide), by decide⟩
    | exact .inr ⟨by decide, by decide, fun p => key _ 0 (by decide) p (Nat.zero_le _)⟩
theorem stop_op {s : ByteArray} (h : s ∈ ops12) {v : Tok} (hv : v.text = ob s) {r : Nat} (hr : prec 18 s + 1 ≤ r) (h4 : prec 18 s = 4 → 5 ≤ r) : Stop r v := by
  rcases op_facts h with ⟨h1, h2, h3, h5⟩ | ⟨h1, h2, h3⟩
  · exact ⟨fun p hp => hv ▸ h3 p (by omega), fun _ => hv ▸ h5⟩
  · exact ⟨fun p hp => hv ▸ h3 p, fun h => by have := h4 h1; omega⟩
theorem ob_inj {s t : ByteArray} (h : ob s = t.data.toList) : s = t := by
  rw [← bs_ob s, h]
/-- Every expression that has a source is parsed from it. -/
theorem we_parse (full : Bool) {d : Nat} {t : Nd} (h : WE d t) : Cb full d t ∧ Ca full d t := by
  have fin : ∀ {d : Nat} {k n : Int} {s : ByteArray} {l : List Nd}, Cb full d (.mk k n s l) → (prec k s < 8 → 1 ≤ d) → Cb full d (.mk k n s l) ∧ Ca full d (.mk k n s l) := fun h hd => ⟨h, ca_of h hd⟩
  induction h with
  | int d n h0 h1 =>
    refine fin (cb_leaf (x := dec n) rfl (fun f => rfl) (dec_ne (by omega) (by decide)) (dec_ne (by omega) (by decide)) fun t r g lv a => ?_) (fun h => absurd h (Nat.lt_irrefl 8))
    obtain ⟨a1, a2, a3⟩ := a
    have hd := dec_tok (n := n.toNat) (by omega)
    rw [prim, if_pos (a2.trans hd.1), a3, hd.2, Int.toNat_of_nonneg h0]
    rfl
  | bool d n h0 =>
    refine fin (cb_leaf (x := if n = 0 then wFalse else wTrue) rfl (fun f => rfl) ?_ ?_ fun t r g lv a => ?_) (fun h => absurd h (by decide))
    · rcases h0 with rfl | rfl <;> decide
    · rcases h0 with rfl | rfl <;> decide
    · obtain ⟨a1, a2, a3⟩ := a
      rcases h0 with rfl | rfl
      · have a2 : t.kind = 1 := a2
        have a1 : t.text = wFalse := a1
        rw [prim, if_neg (by omega), if_neg (by rw [a1]; decide), if_pos a1]
        rfl
      · have a2 : t.kind = 1 := a2
        have a1 : t.text = wTrue := a1
        rw [prim, if_neg (by omega), if_pos a1]
        rfl
  | var d s h0 =>
    refine fin (cb_leaf (x := ob s) rfl (fun f => rfl) (nm_text h0 (by decide)) (nm_text h0 (by decide)) fun t r g lv a => ?_) (fun h => absurd h (Nat.lt_irrefl 8))
    obtain ⟨a1, a2, a3⟩ := a
    have hn := h0
    unfold nmOk at hn
    rw [Bool.and_eq_true] at hn
    replace hn := hn.1
    simp only [Bool.and_eq_true, decide_eq_true_eq, Bool.not_eq_true'] at hn
    obtain ⟨⟨k1, k2⟩, k3⟩ := hn
    rw [prim, if_neg (by omega), if_neg (by rw [a1]; exact nm_text h0 (by decide)), if_neg (by rw [a1]; exact nm_text h0 (by decide)), if_neg (by rw [a1]; exact nm_text h0 (by decide)), if_neg (by rw [a1, k3]; decide), if_pos (by rw [isName, a2, k1, a1, k2, k3]; rfl), a1]
  | name d s h0 =>
    have hb : ∀ x, isBi x = false → ob s ≠ x := fun x hx e => by
      have : isBi (ob s) = true := decide_eq_true h0
      rw [e, hx] at this
      cases this
    refine fin (cb_leaf (x := ob s) rfl (fun f => rfl) (hb _ (by decide)) (hb _ (by decide)) fun t r g lv a => ?_) (fun h => absurd h (Nat.lt_irrefl 8))
    obtain ⟨a1, a2, a3⟩ := a
    have hk : kindT (ob s) = 1 := by
      have : ∀ x ∈ bins, kindT x = 1 := by decide
      exact this _ h0
    rw [prim, if_neg (by omega), if_neg (by rw [a1]; exact hb _ (by decide)), if_neg (by rw [a1]; exact hb _ (by decide)), if_neg (by rw [a1]; exact hb _ (by decide)), if_pos (by rw [a1]; exact decide_eq_true h0), a1]
  | draw d x hx ih =>
    refine fin ?_ (fun h => absurd h (by decide))
    intro lv us t0 rest hM hlv
    have hM : Mt (wDraw :: yLP :: (tE full x 1 ++ [yRP])) us := hM
    obtain ⟨t1, u1, rfl, a1, hM⟩ := hM.uncons
    obtain ⟨t2, u2, rfl, a2, hM⟩ := hM.uncons
    obtain ⟨u3, u4, rfl, hM3, h3⟩ := hM.app
    obtain ⟨v, rfl, a3⟩ := h3.one
    have hl := hlv (by omega)
    obtain ⟨_, c1, _⟩ := ih.2 (lv + 1) 1 u3 v (t0 :: rest) hM3 (by omega) (by omega)
    refine ⟨⟨t1, _, rfl, fun _ => by rw [a1.1]; decide, fun _ => by rw [a1.1]; decide⟩, fun _ => ?_, fun h => absurd h (by decide)⟩
    have := Par.draw (r := t0 :: rest) a1 a2 (by omega) (c1 1 (by omega) (by omega) (stop_rp _ a3.1)) a3.1
    show Par (.ex 8) lv ((t1 :: t2 :: (u3 ++ [v])) ++ t0 :: rest) (nDraw x) (t0 :: rest)
    simpa using this
  | un d s x hs hx ih =>
    refine fin ?_ (fun _ => by omega)
    intro lv us t0 rest hM hlv
    have hl := hlv (by omega)
    have hM : Mt (ob s :: tE full x (prec 17 s)) us := hM
    obtain ⟨t1, u1, rfl, a1, hM⟩ := hM.uncons
    rcases hs with rfl | rfl
    · obtain ⟨_, c1, _⟩ := ih.2 (lv + 1) 7 u1 t0 rest hM (by omega) (by omega)
      refine ⟨⟨t1, _, rfl, fun _ => by rw [a1.1]; decide, fun h => absurd h (by decide)⟩, fun hs => ?_, fun h => absurd h (by decide)⟩
      exact Par.pre (.inr ⟨rfl, rfl⟩) a1.1 (by omega) (c1 7 (by omega) (by omega) hs)
    · obtain ⟨_, c1, _⟩ := ih.2 (lv + 1) 3 u1 t0 rest hM (by omega) (by omega)
      refine ⟨⟨t1, _, rfl, fun h => absurd h (by decide), fun h => absurd h (by decide)⟩, fun hs => ?_, fun h => absurd h (by decide)⟩
      exact Par.pre (.inl ⟨rfl, rfl⟩) a1.1 (by omega) (c1 3 (by omega) (by omega) hs)
  | bin d s x y hs hx hy ih1 ih2 =>
    refine fin ?_ (fun _ => by omega)
    intro lv us t0 rest hM hlv
    have hl := hlv (by omega)
    have hM : Mt (tE full x (if prec 18 s = 4 then 5 else prec 18 s) ++ ob s :: tE full y (prec 18 s + 1)) us := hM
    obtain ⟨u1, u2, rfl, hM1, hM2⟩ := hM.app
    obtain ⟨tq, u3, rfl, a2, hM3⟩ := hM2.uncons
    have hsl : ∀ _ : Nat, bs tq.text = s := fun _ => by rw [a2.1]
    have hp6 : prec 18 s ≤ 6 := bprec_le s
    rcases op_facts hs with ⟨h1, h2, h3, h5⟩ | ⟨h1, h2, h3⟩
    · rw [if_neg (by omega)] at hM1
      obtain ⟨⟨t1, w1, rfl, n1, n2⟩, _, c1⟩ := ih1.2 lv (prec 18 s) u1 tq (u3 ++ t0 :: rest) hM1 (by omega) (by omega)
      obtain ⟨_, c2, _⟩ := ih2.2 lv (prec 18 s + 1) u3 t0 rest hM3 (by omega) (by omega)
      have main : Stop (prec 18 s + 1) t0 → ∀ z r, Par (.ch (prec 18 s) (.mk 18 0 s [x, y])) lv (t0 :: rest) z r → Par (.ex (prec 18 s)) lv ((t1 :: w1 ++ tq :: u3) ++ t0 :: rest) z r := fun hst z r hc => by
        have h7 : Par (.ch (prec 18 s) x) lv (tq :: (u3 ++ t0 :: rest)) z r := Par.op (by rw [a2.1]; exact h2) (c2 (prec 18 s + 1) (by omega) (by omega) hst) (by rw [nBin, hsl 0]; exact hc)
        have := c1 h1 (stop_op hs a2.1 (by omega) (by omega)) z r h7
        simpa using this
      refine ⟨⟨t1, _, rfl, fun h4 => n1 h4, fun h8 => by omega⟩, fun hst => ?_, fun _ hst z r hc => main hst z r hc⟩
      exact main (hst.mono (by omega)) _ _ (.stop (hst.1 _ (Nat.le_refl _)))
    · rw [if_pos h1] at hM1
      rw [h1] at hM3 ⊢
      obtain ⟨⟨t1, w1, rfl, n1, n2⟩, c1, _⟩ := ih1.2 lv 5 u1 tq (u3 ++ t0 :: rest) hM1 (by omega) (by omega)
      obtain ⟨_, c2, _⟩ := ih2.2 lv 5 u3 t0 rest hM3 (by omega) (by omega)
      refine ⟨⟨t1, _, rfl, fun h4 => n1 (by omega), fun h8 => by omega⟩, fun hst => ?_, fun h => by omega⟩
      have hl5 := c1 5 (by omega) (by omega) (stop_op hs a2.1 (by omega) (by omega))
      have := Par.cmp1 hl5 (by rw [a2.1]; exact h2) (c2 5 (by omega) (by omega) (hst.mono (by omega)))
      rw [nBin, hsl 0] at this
      simpa using this
end Go.Proofs.YtlfpaemfhanpiaaGreatDoor.PP

namespace Go.Proofs.YtlfpaemfhanpiaaGreatDoor.PP
open TY (Nd)
open PS

/-- A statement (false) or a block (true), of at most that many levels of blocks. -/
inductive WS : Bool → Nat → Nd → Prop
  | blk (d : Nat) (l : List Nd) : (∀ t ∈ l, WS false d t) → WS true (d + 1) (.mk 11 0 TY.eps l)
  | asg (d : Nat) (s : ByteArray) (x : Nd) : nmOk (ob s) = true → WE 4 x → WS false d (.mk 1 0 s [x])
  | ite (d : Nat) (c a b : Nd) : WE 4 c → WS true d a → WS true d b → WS false d (.mk 2 0 TY.eps [c, a, b])
  | whl (d : Nat) (c a : Nd) : WE 4 c → WS true d a → WS false d (.mk 3 0 TY.eps [c, a])
  | snd (d : Nat) (n : Int) (a b c : Nd) : 0 ≤ n → n < 30 → WE 4 a → WE 4 b → WE 4 c → WS false d (.mk 4 n TY.eps [a, b, c])
  | tim (d : Nat) (n : Int) : 0 ≤ n → n < 8 → WS false d (.mk 5 n TY.eps [])
  | can (d : Nat) (n : Int) : 0 ≤ n → n < 8 → WS false d (.mk 6 n TY.eps [])
  | syn (d : Nat) : WS false d (.mk 7 0 TY.eps [])
  | rep (d : Nat) (a b : Nd) : WE 4 a → WE 4 b → WS false d (.mk 8 0 TY.eps [a, b])
  | fai (d : Nat) (a : Nd) : WE 4 a → WS false d (.mk 9 0 TY.eps [a])
  | stp (d : Nat) : WS false d (.mk 10 0 TY.eps [])
theorem WE.more {d e : Nat} {t : Nd} (h : WE d t) (hd : d ≤ e) : WE e t := by
  induction h generalizing e with
  | int d n h0 h1 => exact .int e n h0 h1
  | bool d n hn => exact .bool e n hn
  | var d s hs => exact .var e s hs
  | name d s hs => exact .name e s hs
  | draw d x hx ih =>
    obtain ⟨e, rfl⟩ : ∃ f, e = f + 1 := ⟨e - 1, by omega⟩
    exact .draw e x (ih (by omega))
  | un d s x hs hx ih =>
    obtain ⟨e, rfl⟩ : ∃ f, e = f + 1 := ⟨e - 1, by omega⟩
    exact .un e s x hs (ih (by omega))
  | bin d s x y hs hx hy i1 i2 =>
    obtain ⟨e, rfl⟩ : ∃ f, e = f + 1 := ⟨e - 1, by omega⟩
    exact .bin e s x y hs (i1 (by omega)) (i2 (by omega))
theorem WS.more {b : Bool} {d e : Nat} {t : Nd} (h : WS b d t) (hd : d ≤ e) : WS b e t := by
  induction h generalizing e with
  | blk d l hl ih =>
    obtain ⟨e, rfl⟩ : ∃ f, e = f + 1 := ⟨e - 1, by omega⟩
    exact .blk e l fun t ht => ih t ht (by omega)
  | asg d s x hs hx => exact .asg e s x hs hx
  | ite d c a b hc ha hb i1 i2 => exact .ite e c a b hc (i1 hd) (i2 hd)
  | whl d c a hc ha i1 => exact .whl e c a hc (i1 hd)
  | snd d n a b c h0 h1 ha hb hc => exact .snd e n a b c h0 h1 ha hb hc
  | tim d n h0 h1 => exact .tim e n h0 h1
  | can d n h0 h1 => exact .can e n h0 h1
  | syn d => exact .syn e
  | rep d a b ha hb => exact .rep e a b ha hb
  | fai d a ha => exact .fai e a ha
  | stp d => exact .stp e
/-- No statement is without tokens. -/
theorem st_ne (f : Bool) {d : Nat} {t : Nd} (h : WS false d t) : tS f t ≠ [] := by
  generalize hb : false = b at h
  cases h with
  | blk d l hl => cases hb
  | asg s x hs hx => rw [tS_eq]; exact List.cons_ne_nil _ _
  | ite c a b hc ha hb => rw [tS_eq]; exact List.cons_ne_nil _ _
  | whl c a hc ha => rw [tS_eq]; exact List.cons_ne_nil _ _
  | snd n a b c h0 h1 ha hb hc => rw [tS_eq]; exact List.cons_ne_nil _ _
  | tim n h0 h1 => rw [tS_eq]; exact List.cons_ne_nil _ _
  | can n h0 h1 => rw [tS_eq]; exact List.cons_ne_nil _ _
  | syn => rw [tS_eq]; exact List.cons_ne_nil _ _
  | rep a b ha hb => rw [tS_eq]; exact List.cons_ne_nil _ _
  | fai a ha => rw [tS_eq]; exact List.cons_ne_nil _ _
  | stp => rw [tS_eq]; exact List.cons_ne_nil _ _
theorem blk_empty (f : Bool) {d : Nat} {l : List Nd} (h : ∀ t ∈ l, WS false d t) : tS f (.mk 11 0 TY.eps l) = [yLB, yRB] ↔ l = [] := by
  rw [tS_eq]
  show yLB :: (l.map (tS f)).flatten ++ [yRB] = [yLB, yRB] ↔ _
  cases l with
  | nil => simp
  | cons x l =>
    simp only [reduceCtorEq, iff_false]
    intro e
    have := st_ne f (h x (List.mem_cons_self ..))
    obtain ⟨a, t, ht⟩ := List.exists_cons_of_ne_nil this
    have := congrArg List.length e
    rw [List.map_cons, List.flatten_cons, ht] at this
    simp at this
end Go.Proofs.YtlfpaemfhanpiaaGreatDoor.PP
