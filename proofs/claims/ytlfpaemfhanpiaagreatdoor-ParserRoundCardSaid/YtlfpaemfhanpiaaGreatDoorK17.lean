/-
  The printer: numbers and new tokens; the rank of an expression. Conditions: the library's table of powers of ten is laid.
  The printer: expressions. Conditions: the tree is an expression that the parser gives (WE); the text's length.
  The printer: lists of expressions.
  The printer: binary, and what stands without parentheses.
  The printer: bare, by cases; all expressions, by induction.
  The printer: all expressions, by induction.
  The printer: statements: contracts, lists of children, blocks.
-/
import Derived.Test.YtlfpaemfhanpiaaGreatDoorK16
import Derived.Test.YtlfpaemfhanpiaaGreatDoorK12
import Derived.Test.YtlfpaemfhanpiaaGreatDoorK9
import Derived.Test.YtlfpaemfhanpiaaGreatDoorK20
import Derived.Deep.RegionLaw
import Derived.Deep.Cut
import Derived.IntWalk

namespace Go.Proofs.YtlfpaemfhanpiaaGreatDoor
open Go Go.RowKit Go.Proofs
attribute [local go_sem] Oper.semAt_some

/-- The table of powers of ten stands, below block lo. -/
def TB (lo : Nat) (W : World) : Prop := 0 < lo ∧ Lib.TabIs Tryz.prog W "internal/strconv.uint64pow10" .u64 Lib.pow10Tab
theorem TB.is {lo : Nat} {W : World} (h : TB lo W) : Lib.TabIs Tryz.prog W "internal/strconv.uint64pow10" .u64 Lib.pow10Tab := h.2
theorem tab_lt {W : World} (h : Lib.TabIs Tryz.prog W "internal/strconv.uint64pow10" .u64 Lib.pow10Tab) : 0 < W.heap.size := by
  have hg : Tryz.prog.globalNamed "internal/strconv.uint64pow10" = some 0 := by kernel_rfl
  have h : World.var? _ _ _ = _ := h
  unfold World.var? at h
  rw [hg] at h
  simp only [Option.bind_some] at h
  cases hh : W.heap[0]? with
  | none => rw [hh] at h; cases h
  | some o => exact (Array.getElem?_eq_some_iff.1 hh).1
theorem tab_keep {W V : World} (h : Lib.TabIs Tryz.prog W "internal/strconv.uint64pow10" .u64 Lib.pow10Tab) (hk : V.heap[0]? = W.heap[0]?) : Lib.TabIs Tryz.prog V "internal/strconv.uint64pow10" .u64 Lib.pow10Tab := by
  have hg : Tryz.prog.globalNamed "internal/strconv.uint64pow10" = some 0 := by kernel_rfl
  have h : World.var? _ _ _ = _ := h
  show World.var? _ _ _ = _
  unfold World.var? at h ⊢
  rw [hg] at h ⊢
  simp only [Option.bind_some] at h ⊢
  rw [hk]
  exact h
theorem TB.qt {lo : Nat} {W V : World} (h : TB lo W) (q : QT lo W V) : TB lo V := ⟨h.1, tab_keep h.2 (q.chg.block _ (tab_lt h.2) (by have := h.1; omega))⟩
theorem TB.start {W : World} (h : Lib.TabIs Tryz.prog W "internal/strconv.uint64pow10" .u64 Lib.pow10Tab) : TB W.heap.size W := ⟨tab_lt h, h⟩
theorem grow_below (w : World) (os : Array Obj) : Below w.heap.size w (Go.Sort.grow w os) := by
  refine ⟨rfl, rfl, rfl, by simp, fun k hk => ?_⟩
  show (w.heap ++ os)[k]? = _
  rw [Array.getElem?_append, if_pos hk]
theorem drewN_below (w : World) (q : Nat) : Below w.heap.size w (w.drewN q) := ⟨rfl, rfl, rfl, Nat.le_refl _, fun _ _ => rfl⟩
theorem itoa_any (n : Int) (h0 : 0 ≤ n) (h1 : n ≤ 2147483647) {lo : Nat} (W : World) (hT : TB lo W) : Calls Tryz.prog 38 #[.int .i64 n] W fun e w' => e = .returned (.string (PS.bs (PP.dec n))) ∧ Below W.heap.size W w' := by
  refine (Tryz.strconv_Itoa n (by omega) (by omega) W hT.is).mono ?_
  rintro e w' ⟨rfl, k, os, rfl⟩
  refine ⟨?_, (drewN_below W k).trans (grow_below (W.drewN k) os)⟩
  rw [Lib.itoa, if_neg (by omega)]
theorem put_new {lo g : Nat} {x : PS.Bs} {wr : World} (ts : List PS.Bs) (m : Nat) (C : Array Value) (hm : ts.length = m) (hm2 : m ≤ 1000) (hC : (ts.map fun t => Value.string (PS.bs t)).toArray = C) (h : PrV lo wr g x) (hlo : lo ≤ wr.heap.size) (hne : ∀ t ∈ ts, t ≠ []) (hlen : (PP.joins x ts).length ≤ 100000) :
    Calls Tryz.prog 37 #[.pointer (some ⟨g, 0, none⟩), .slice (some ⟨wr.heap.size, 0, none⟩) m m] (wr.alloc (.cells C 9)) fun e w' => e = .returned (.tuple #[]) ∧ PrV lo w' g (PP.joins x ts) ∧ QT lo wr w' := by
  have hb : Below wr.heap.size wr (wr.alloc (.cells C 9)) := (Below.refl _ _).alloc (Nat.le_refl _) _
  refine (put_any lo g x ts _ wr.heap.size m hm hm2 (h.alloc _) (by rw [World.size_alloc]; omega) (by rw [hC]; exact World.alloc_heap_new wr _) hne hlen).mono ?_
  rintro e w' ⟨rfl, h1, h2⟩
  exact ⟨rfl, h1, (QT.of_below hb).trans h2⟩
/-- The box of a tree. -/
theorem QT.box {lo : Nat} {W w1 : World} {c0 c1 c2 c3 : Value} (q : QT lo (W.alloc (.cells #[c0, c1, c2, c3] 33)) w1) : w1.cell? ⟨W.heap.size, 0, none⟩ = some c0 ∧ w1.cell? ⟨W.heap.size, 1, none⟩ = some c1 ∧ w1.cell? ⟨W.heap.size, 2, none⟩ = some c2 ∧ w1.cell? ⟨W.heap.size, 3, none⟩ = some c3 := by
  have h := q.ty _ _ _ (World.alloc_heap_new W _) (by decide) (by decide)
  exact ⟨cell_of_row _ _ 0 _ _ (0, 0) h, cell_of_row _ _ 1 _ _ (0, 0) h, cell_of_row _ _ 2 _ _ (0, 0) h, cell_of_row _ _ 3 _ _ (0, 0) h⟩
def precT : TY.Nd → Nat
  | .mk k _ s _ => PP.prec k s
set_option maxRecDepth 100000 in
set_option maxHeartbeats 4000000 in
theorem binRank_any {s : ByteArray} (hs : s ∈ PP.ops12) (W : World) : Calls Tryz.prog 141 #[.string s] W fun e w' => e = .returned (.int .i64 ((PP.bprec s : Int) - 1)) ∧ w' = W := by
  simp only [PP.ops12, List.mem_cons, List.not_mem_nil, or_false] at hs
  rcases hs with rfl | rfl | rfl | rfl | rfl | rfl | rfl | rfl | rfl | rfl | rfl | rfl
  all_goals
    go_enter Tryz.func141, Tryz.ntmps141
    go_wp2_with fail
    go_ret
    exact ⟨by first | rfl | (simp [PP.bprec, TY.sOr, TY.sAnd, TY.sPlus, TY.sMinus, TY.sMul, TY.sDiv, TY.sLt, TY.sLe, TY.sGt, TY.sGe, TY.sEq, TY.sNe]), rfl⟩
set_option maxRecDepth 100000 in
set_option maxHeartbeats 4000000 in
theorem rank_any {d : Nat} {t : TY.Nd} (h : PP.WE d t) (W : World) (hi : Nat) (v : Value) (hv : NdV W hi t v) : Calls Tryz.prog 120 #[v] W fun e w' => e = .returned (.int .i64 ((precT t : Int) - 1)) ∧ Below W.heap.size W w' := by
  have lf : ∀ (k n : Int) (s : ByteArray) (K : Value), (k == 17) = false → (k == 18) = false → PP.prec k s = 8 → Calls Tryz.prog 120 #[ndv k n s K] W fun e w' => e = .returned (.int .i64 ((PP.prec k s : Int) - 1)) ∧ Below W.heap.size W w' := by
    intro k n s K h1 h2 h8
    rw [h8]
    clear h8 h hv
    go_enter Tryz.func120, Tryz.ntmps120
    go_wp2_with fail
    go_ret
    exact ⟨rfl, (Below.refl _ _).alloc (Nat.le_refl _) _⟩
  cases h with
  | int _ n _ _ =>
    obtain ⟨A, c, vs, rfl, _⟩ := hv.open_
    exact lf _ _ _ _ rfl rfl rfl
  | bool _ n _ =>
    obtain ⟨A, c, vs, rfl, _⟩ := hv.open_
    exact lf _ _ _ _ rfl rfl rfl
  | var _ s _ =>
    obtain ⟨A, c, vs, rfl, _⟩ := hv.open_
    exact lf _ _ _ _ rfl rfl rfl
  | name _ s _ =>
    obtain ⟨A, c, vs, rfl, _⟩ := hv.open_
    exact lf _ _ _ _ rfl rfl rfl
  | draw _ x _ =>
    obtain ⟨A, c, vs, rfl, _⟩ := hv.open_
    exact lf _ _ _ _ rfl rfl rfl
  | un _ s x hs hx =>
    obtain ⟨A, c, vs, rfl, _⟩ := hv.open_
    clear lf hv hx
    rcases hs with rfl | rfl
    all_goals
      go_enter Tryz.func120, Tryz.ntmps120
      go_wp2_with fail
      go_ret
      exact ⟨by first | rfl | (simp [precT, PP.prec, TY.sNot, TY.sMinus]), (Below.refl _ _).alloc (Nat.le_refl _) _⟩
  | bin _ s x y hs hx hy =>
    obtain ⟨A, c, vs, rfl, _⟩ := hv.open_
    have HB := Lib.hid (fun V => binRank_any hs V)
    have hp : precT (.mk 18 0 s [x, y]) = PP.bprec s := rfl
    rw [hp]
    clear lf hv hx hy hs hp
    go_enter Tryz.func120, Tryz.ntmps120
    go_wp2_with fail
    refine (HB.out _).mono ?_
    rintro e w1 ⟨rfl, rfl⟩
    go_wp2_with fail
    go_ret
    exact ⟨rfl, (Below.refl _ _).alloc (Nat.le_refl _) _⟩
end Go.Proofs.YtlfpaemfhanpiaaGreatDoor

namespace Go.Proofs.YtlfpaemfhanpiaaGreatDoor
open Go Go.RowKit Go.Proofs
attribute [local go_sem] Oper.semAt_some

/-- The printer between two calls of a function whose tree lies in a box. -/
def Sgp (lo g : Nat) (W : World) (c0 c1 c2 c3 : Value) (x : PS.Bs) (V : World) : Prop := PrV lo V g x ∧ QT lo (W.alloc (.cells #[c0, c1, c2, c3] 33)) V ∧ lo ≤ W.heap.size ∧ TB lo W
section
variable {lo g hi : Nat} {W V V' : World} {c0 c1 c2 c3 v : Value} {x y : PS.Bs} {t : TY.Nd}
theorem Sgp.start (h : PrV lo W g x) (hl : lo ≤ W.heap.size) (hT : TB lo W) (c0 c1 c2 c3 : Value) : Sgp lo g W c0 c1 c2 c3 x (W.alloc (.cells #[c0, c1, c2, c3] 33)) := ⟨h.alloc _, QT.refl _ _, hl, hT⟩
theorem Sgp.below (h : Sgp lo g W c0 c1 c2 c3 x V) (hb : Below V.heap.size V V') : Sgp lo g W c0 c1 c2 c3 x V' := ⟨h.1.keep hb, h.2.1.trans (QT.of_below hb), h.2.2⟩
theorem Sgp.drew (h : Sgp lo g W c0 c1 c2 c3 x V) : Sgp lo g W c0 c1 c2 c3 x V.drew := h.below ⟨rfl, rfl, rfl, Nat.le_refl _, fun _ _ => rfl⟩
theorem Sgp.step (h : Sgp lo g W c0 c1 c2 c3 x V) (h1 : PrV lo V' g y) (h2 : QT lo V V') : Sgp lo g W c0 c1 c2 c3 y V' := ⟨h1, h.2.1.trans h2, h.2.2⟩
theorem Sgp.cells (h : Sgp lo g W c0 c1 c2 c3 x V) : V.cell? ⟨W.heap.size, 0, none⟩ = some c0 ∧ V.cell? ⟨W.heap.size, 1, none⟩ = some c1 ∧ V.cell? ⟨W.heap.size, 2, none⟩ = some c2 ∧ V.cell? ⟨W.heap.size, 3, none⟩ = some c3 := h.2.1.box
theorem Sgp.all (h : Sgp lo g W c0 c1 c2 c3 x V) : QT lo W V := (QT.of_below ((Below.refl _ _).alloc (Nat.le_refl _) _)).trans h.2.1
theorem Sgp.nd (h : Sgp lo g W c0 c1 c2 c3 x V) (hv : NdV W hi t v) : NdV V hi t v := h.all.nd hv
theorem Sgp.tb (h : Sgp lo g W c0 c1 c2 c3 x V) : TB lo V := h.2.2.2.qt h.all
theorem Sgp.low (h : Sgp lo g W c0 c1 c2 c3 x V) : lo ≤ V.heap.size := Nat.le_trans h.2.2.1 h.all.size
theorem Sgp.fin (h : Sgp lo g W c0 c1 c2 c3 x V) : PrV lo V g x ∧ QT lo W V := ⟨h.1, h.all⟩
end
/-- The tokens of a tree without parentheses. -/
def bareT : TY.Nd → List PS.Bs
  | .mk k n s l => PP.bare k n s (l.map (PP.tE false))
def ExprC (t : TY.Nd) : Prop := ∀ (lo g hi q : Nat) (W : World) (x : PS.Bs) (v : Value), q ≤ 7 → NdV W hi t v → PrV lo W g x → TB lo W → lo ≤ W.heap.size → (PP.joins x (PP.tE false t (q + 1))).length ≤ 100000 →
  Calls Tryz.prog 91 #[.pointer (some ⟨g, 0, none⟩), v, .int .i64 (q : Int)] W fun e w' => e = .returned (.tuple #[]) ∧ PrV lo w' g (PP.joins x (PP.tE false t (q + 1))) ∧ QT lo W w'
def BareC (t : TY.Nd) : Prop := ∀ (lo g hi : Nat) (W : World) (x : PS.Bs) (v : Value), NdV W hi t v → PrV lo W g x → TB lo W → lo ≤ W.heap.size → (PP.joins x (bareT t)).length ≤ 100000 →
  Calls Tryz.prog 121 #[.pointer (some ⟨g, 0, none⟩), v] W fun e w' => e = .returned (.tuple #[]) ∧ PrV lo w' g (PP.joins x (bareT t)) ∧ QT lo W w'
theorem precT_pos (t : TY.Nd) : 1 ≤ precT t := by
  obtain ⟨k, n, s, l⟩ := t
  exact PP.prec_pos k s
theorem rank_nat {d : Nat} {t : TY.Nd} (h : PP.WE d t) (W : World) (hi : Nat) (v : Value) (hv : NdV W hi t v) : Calls Tryz.prog 120 #[v] W fun e w' => e = .returned (.int .i64 ((precT t - 1 : Nat) : Int)) ∧ Below W.heap.size W w' := by
  have := rank_any h W hi v hv
  have hp := precT_pos t
  rwa [show (precT t : Int) - 1 = ((precT t - 1 : Nat) : Int) by omega] at this
theorem tE_of (t : TY.Nd) (q : Nat) : PP.tE false t (q + 1) = if q ≤ precT t - 1 then bareT t else PS.yLP :: bareT t ++ [PS.yRP] := by
  have hp := precT_pos t
  obtain ⟨k, n, s, l⟩ := t
  rw [PP.tE_eq, Bool.false_and, Bool.or_false]
  have hp : 1 ≤ PP.prec k s := hp
  show _ = if q ≤ PP.prec k s - 1 then _ else _
  by_cases h : q ≤ PP.prec k s - 1
  · rw [if_pos h, decide_eq_false (by omega)]
    rfl
  · rw [if_neg h, decide_eq_true (by omega)]
    rfl
theorem len_pre {x : PS.Bs} {xs ys : List PS.Bs} (h : (PP.joins x (xs ++ ys)).length ≤ 100000) : (PP.joins x xs).length ≤ 100000 := Nat.le_trans (joins_mono x xs ys) h
set_option maxRecDepth 100000 in
set_option maxHeartbeats 4000000 in
theorem pr_expr_of {d : Nat} {t : TY.Nd} (hW : PP.WE d t) (hB : BareC t) : ExprC t := by
  intro lo g hi q W x v hq hv hP hT hl hlen
  obtain ⟨k, n, s, l⟩ := t
  obtain ⟨A, c, vs, rfl, _⟩ := hv.open_
  have S0 := Lib.hid (Sgp.start hP hl hT (.int .i64 k) (.int .i64 n) (.string s) (.slice A l.length c))
  have HV := Lib.hid hv
  have HR := Lib.hid (rank_nat hW _ hi _ (S0.out.nd hv))
  have HB := Lib.hid hB
  rw [tE_of] at hlen ⊢
  obtain ⟨p, hp⟩ : ∃ p, precT (.mk k n s l) - 1 = p := ⟨_, rfl⟩
  rw [hp] at hlen HR ⊢
  obtain ⟨ts, hts⟩ : ∃ ts, bareT (.mk k n s l) = ts := ⟨_, rfl⟩
  have HTS := Lib.hid hts
  rw [hts] at hlen ⊢
  by_cases hqp : q ≤ p
  · rw [if_pos hqp] at hlen ⊢
    have HLN := Lib.hid hlen
    have hd : decide ((q : Int) ≤ (p : Int)) = true := decide_eq_true (by omega)
    clear hv hP hT hl hlen hB hW hp hts
    go_enter Tryz.func91, Tryz.ntmps91
    go_wp2_with fail
    refine HR.out.mono ?_
    rintro e w1 ⟨rfl, hb1⟩
    have S1 := Lib.hid (S0.out.below hb1)
    obtain ⟨a0, a1, a2, a3⟩ := S1.out.cells
    clear hb1
    go_wp2_with fail
    refine (HB.out lo g hi w1 x _ (S1.out.nd HV.out) S1.out.1 S1.out.tb S1.out.low (by rw [HTS.out]; exact HLN.out)).mono ?_
    rw [HTS.out]
    rintro e w2 ⟨rfl, h1, h2⟩
    have S2 := Lib.hid (S1.out.step h1 h2)
    clear h1 h2
    go_wp2_with fail
    refine bodyPost_ret (results_none rfl _ _ _) rfl ?_
    exact ⟨rfl, S2.out.fin⟩
  · rw [if_neg hqp] at hlen ⊢
    have HLN := Lib.hid hlen
    have hd : decide ((q : Int) ≤ (p : Int)) = false := decide_eq_false (by omega)
    have HE := Lib.hid (show PP.joins x (PS.yLP :: (ts ++ [PS.yRP])) = PP.joins (PP.joins (PP.joins x [PS.yLP]) ts) [PS.yRP] from by rw [← PP.joins_append, ← PP.joins_append]; rfl)
    have L1 := Lib.hid (show (PP.joins x [PS.yLP]).length ≤ 100000 from len_pre (ys := ts ++ [PS.yRP]) hlen)
    have L2 := Lib.hid (show (PP.joins (PP.joins x [PS.yLP]) ts).length ≤ 100000 from by rw [← PP.joins_append]; exact len_pre (ys := [PS.yRP]) hlen)
    clear hv hP hT hl hlen hB hW hp hts
    go_enter Tryz.func91, Tryz.ntmps91
    go_wp2_with fail
    refine HR.out.mono ?_
    rintro e w1 ⟨rfl, hb1⟩
    have S1 := Lib.hid (S0.out.below hb1)
    clear hb1
    go_wp2_with fail
    refine (put_new [PS.yLP] 1 _ rfl (by omega) rfl S1.out.1 S1.out.low (by decide) L1.out).mono ?_
    rintro e w2 ⟨rfl, h1, h2⟩
    have S2 := Lib.hid (S1.out.step h1 h2)
    obtain ⟨a0, a1, a2, a3⟩ := S2.out.cells
    clear h1 h2
    go_wp2_with fail
    refine (HB.out lo g hi w2 _ _ (S2.out.nd HV.out) S2.out.1 S2.out.tb S2.out.low (by rw [HTS.out]; exact L2.out)).mono ?_
    rw [HTS.out]
    rintro e w3 ⟨rfl, h1, h2⟩
    have S3 := Lib.hid (S2.out.step h1 h2)
    clear h1 h2 a0 a1 a2 a3
    go_wp2_with fail
    refine (put_new [PS.yRP] 1 _ rfl (by omega) rfl S3.out.1 S3.out.low (by decide) (by rw [← HE.out]; exact HLN.out)).mono ?_
    rintro e w4 ⟨rfl, h1, h2⟩
    have S4 := Lib.hid (S3.out.step h1 h2)
    clear h1 h2
    go_wp2_with fail
    go_end0
    rw [HE.out]
    exact ⟨rfl, S4.out.fin⟩
theorem lst_snoc (f : Bool) (l : List TY.Nd) (t : TY.Nd) : PP.lst f (l ++ [t]) = if l = [] then PP.tE f t 1 else PP.lst f l ++ PS.yComma :: PP.tE f t 1 := by
  induction l with
  | nil => rfl
  | cons x l ih =>
    cases l with
    | nil => rfl
    | cons y l =>
      rw [if_neg (by simp)]
      rw [if_neg (by simp)] at ih
      show PP.tE f x 1 ++ PS.yComma :: PP.lst f (y :: l ++ [t]) = (PP.tE f x 1 ++ PS.yComma :: PP.lst f (y :: l)) ++ PS.yComma :: PP.tE f t 1
      rw [ih]
      simp
theorem lst_pre (f : Bool) (l : List TY.Nd) (j : Nat) : ∃ ys, PP.lst f l = PP.lst f (l.take j) ++ ys := by
  induction l generalizing j with
  | nil => exact ⟨[], by simp [PP.lst]⟩
  | cons x l ih =>
    cases j with
    | zero => exact ⟨_, rfl⟩
    | succ j =>
      cases l with
      | nil => exact ⟨[], by simp [PP.lst]⟩
      | cons y l =>
        cases j with
        | zero => exact ⟨PS.yComma :: PP.lst f (y :: l), rfl⟩
        | succ j =>
          obtain ⟨ys, h⟩ := ih (j + 1)
          refine ⟨ys, ?_⟩
          show PP.tE f x 1 ++ PS.yComma :: PP.lst f (y :: l) = (PP.tE f x 1 ++ PS.yComma :: PP.lst f (y :: l.take j)) ++ ys
          rw [h]
          simp
def ListC (l : List TY.Nd) : Prop := ∀ (lo g hi : Nat) (W : World) (x : PS.Bs) (A : Option Addr) (c : Nat) (vs : List Value), vs.length = l.length → l.length ≤ c → l.length ≤ 1000000 → Kd W hi A vs → (∀ (i : Nat) (t : TY.Nd) (v : Value), l[i]? = some t → vs[i]? = some v → NdV W hi t v) → PrV lo W g x → TB lo W → lo ≤ W.heap.size → (PP.joins x (PP.lst false l)).length ≤ 100000 →
  Calls Tryz.prog 89 #[.pointer (some ⟨g, 0, none⟩), .slice A l.length c] W fun e w' => e = .returned (.tuple #[]) ∧ PrV lo w' g (PP.joins x (PP.lst false l)) ∧ QT lo W w'
theorem QT.kd {lo hi : Nat} {W V : World} {A : Option Addr} {vs : List Value} (h : QT lo W V) (hv : Kd W hi A vs) : Kd V hi A vs :=
  hv.keep (fun b C _ hC => (h.ty b C _ hC (by decide) (by decide)).trans hC.symm) (Nat.le_refl _)
end Go.Proofs.YtlfpaemfhanpiaaGreatDoor

namespace Go.Proofs.YtlfpaemfhanpiaaGreatDoor
open Go Go.RowKit Go.Proofs
attribute [local go_sem] Oper.semAt_some

set_option maxRecDepth 100000 in
set_option maxHeartbeats 4000000 in
theorem pr_list (l : List TY.Nd) (hE : ∀ t ∈ l, ExprC t) : ListC l := by
  intro lo g hi W x A c vs hvl hc hm hk ht hP hT hl hlen
  obtain ⟨m, hm0⟩ : ∃ m, l.length = m := ⟨_, rfl⟩
  rw [hm0] at hc hm ⊢
  have HM := Lib.hid hm0
  have HVL := Lib.hid hvl
  have HE := Lib.hid hE
  have HK := Lib.hid hk
  have HT := Lib.hid ht
  have HTB := Lib.hid hT
  have HP := Lib.hid hP
  have HLN := Lib.hid hlen
  clear hm0 hvl hE hk ht hT hP hlen
  go_enter Tryz.func89, Tryz.ntmps89
  go_wp2_with fail
  go_loopw [8] (fun i V => ∃ j : Nat, j ≤ m ∧ i = .int .i64 (j : Int) ∧ Hid (PrV lo V g (PP.joins x (PP.lst false (l.take j)))) ∧ Hid (QT lo W V)) (fun i _ => m - (intOf i).toNat)
  case atStart => exact ⟨0, by omega, rfl, HP.out, QT.refl _ _⟩
  case round =>
    obtain ⟨j, hj, rfl, hPr, hQ⟩ := hrel
    by_cases hjm : j < m
    · obtain ⟨t, htj⟩ : ∃ t, l[j]? = some t := ⟨l[j]'(by rw [HM.out]; exact hjm), List.getElem?_eq_getElem (by rw [HM.out]; exact hjm)⟩
      obtain ⟨vj, hvj⟩ : ∃ x, vs[j]? = some x := ⟨vs[j]'(by rw [HVL.out, HM.out]; exact hjm), List.getElem?_eq_getElem (by rw [HVL.out, HM.out]; exact hjm)⟩
      have hnv := hQ.out.nd (HT.out j t vj htj hvj)
      obtain ⟨b, off, kj, nj, sj, Aj, lj, cj, rfl, hbh, rfl, c0, c1, c2, c3⟩ := Kd.treeE (hQ.out.kd HK.out) hvj hnv
      have S0 := Lib.hid (Sgp.start hPr.out (Nat.le_trans hl hQ.out.size) (HTB.out.qt hQ.out) (.int .i64 kj) (.int .i64 nj) (.string sj) (.slice Aj lj cj))
      have HNV := Lib.hid hnv
      have HEJ := Lib.hid (HE.out t (List.mem_of_getElem? htj))
      have hsn : l.take (j + 1) = l.take j ++ [t] := by rw [List.take_add_one, htj]; rfl
      have HLJ := Lib.hid (show (PP.joins x (PP.lst false (l.take (j + 1)))).length ≤ 100000 from by
        obtain ⟨ys, hys⟩ := lst_pre false l (j + 1)
        have := HLN.out
        rw [hys] at this
        exact len_pre this)
      clear hnv
      by_cases hj0 : j = 0
      · have h0 : l.take (j + 1) = [t] := by rw [hsn, hj0]; rfl
        have h00 : PP.joins x (PP.lst false (l.take j)) = x := by rw [hj0]; rfl
        have HS := Lib.hid h0
        rw [h0] at HLJ
        rw [h00] at S0
        have hd : decide (0 < j) = false := decide_eq_false (by omega)
        clear htj hvj hsn h0 h00 hj0 hPr
        go_wp2_with fail
        obtain ⟨B0, hB0⟩ : ∃ U, wr.alloc (.cells #[.int .i64 kj, .int .i64 nj, .string sj, .slice Aj lj cj] 33) = U := ⟨_, rfl⟩
        rw [hB0] at S0 ⊢
        obtain ⟨a0, a1, a2, a3⟩ := S0.out.cells
        clear hB0 c0 c1 c2 c3 a0 a1 a2 a3
        refine (HEJ.out lo g hi 0 _ x _ (by omega) (S0.out.nd HNV.out) S0.out.1 S0.out.tb S0.out.low HLJ.out).mono ?_
        rintro e w2 ⟨rfl, h1, h2⟩
        have S2 := Lib.hid (S0.out.step h1 h2)
        clear h1 h2
        go_wp2_with fail
        go_roundw
        case rel => exact ⟨j + 1, by omega, by go_num, by show PrV _ _ _ _; rw [HS.out]; exact S2.out.1, hQ.out.trans S2.out.all⟩
        case measure => simp [intOf]; omega
      · have hne : l.take j ≠ [] := by
          intro e
          have := congrArg List.length e
          rw [List.length_take, HM.out] at this
          simp at this
          omega
        obtain ⟨y, hy⟩ : ∃ y, PP.joins x (PP.lst false (l.take j)) = y := ⟨_, rfl⟩
        have HS := Lib.hid (show PP.joins x (PP.lst false (l.take (j + 1))) = PP.joins (PP.joins y [PS.yComma]) (PP.tE false t 1) from by
          rw [hsn, lst_snoc, if_neg hne, PP.joins_append, hy]
          rfl)
        rw [HS.out] at HLJ
        rw [hy] at S0
        have HL1 := Lib.hid (show (PP.joins y [PS.yComma]).length ≤ 100000 from Nat.le_trans (by have := joins_mono (PP.joins y [PS.yComma]) [] (PP.tE false t 1); exact this) HLJ.out)
        have hd : decide (0 < j) = true := decide_eq_true (by omega)
        clear htj hvj hsn hne hj0 hPr hy
        go_wp2_with fail
        obtain ⟨B0, hB0⟩ : ∃ U, wr.alloc (.cells #[.int .i64 kj, .int .i64 nj, .string sj, .slice Aj lj cj] 33) = U := ⟨_, rfl⟩
        have zb : B0.heap.size = wr.heap.size + 1 := by rw [← hB0, World.size_alloc]
        rw [hB0, ← zb] 
        rw [hB0] at S0
        clear hB0 c0 c1 c2 c3 zb
        refine (put_new [PS.yComma] 1 _ rfl (by omega) rfl S0.out.1 S0.out.low (by decide) HL1.out).mono ?_
        rintro e w1 ⟨rfl, h1, h2⟩
        have S1 := Lib.hid (S0.out.step h1 h2)
        obtain ⟨a0, a1, a2, a3⟩ := S1.out.cells
        clear h1 h2
        go_wp2_with fail
        refine (HEJ.out lo g hi 0 _ _ _ (by omega) (S1.out.nd HNV.out) S1.out.1 S1.out.tb S1.out.low HLJ.out).mono ?_
        rintro e w2 ⟨rfl, h1, h2⟩
        have S2 := Lib.hid (S1.out.step h1 h2)
        clear h1 h2
        go_wp2_with fail
        go_roundw
        case rel => exact ⟨j + 1, by omega, by go_num, by show PrV _ _ _ _; rw [HS.out]; exact S2.out.1, hQ.out.trans S2.out.all⟩
        case measure => simp [intOf]; omega
    · obtain rfl : j = m := by omega
      have h := hPr.out
      rw [List.take_of_length_le (by rw [HM.out]; exact Nat.le_refl _)] at h
      have HH := Lib.hid h
      clear h
      go_wp2_with fail
      go_end0
      exact ⟨rfl, HH.out, hQ.out⟩
end Go.Proofs.YtlfpaemfhanpiaaGreatDoor

namespace Go.Proofs.YtlfpaemfhanpiaaGreatDoor
open Go Go.RowKit Go.Proofs
attribute [local go_sem] Oper.semAt_some

/-- A node's four cells. -/
def N4 (W : World) (b o : Nat) (k n : Int) (s : ByteArray) (K : Value) : Prop := ∃ C : Array Value, W.heap[b]? = some (.cells C 33 (0, 0)) ∧ C[o]? = some (.int .i64 k) ∧ C[o + 1]? = some (.int .i64 n) ∧ C[o + 2]? = some (.string s) ∧ C[o + 3]? = some K
section
variable {lo hi b o : Nat} {W V : World} {k n : Int} {s : ByteArray} {K : Value}
theorem N4.qt (h : N4 W b o k n s K) (q : QT lo W V) : N4 V b o k n s K := by
  obtain ⟨C, h, h1⟩ := h
  exact ⟨C, q.ty _ _ _ h (by decide) (by decide), h1⟩
theorem N4.cells (h : N4 W b o k n s K) : W.cell? ⟨b, o, none⟩ = some (.int .i64 k) ∧ W.cell? ⟨b, o + 1, none⟩ = some (.int .i64 n) ∧ W.cell? ⟨b, o + 2, none⟩ = some (.string s) ∧ W.cell? ⟨b, o + 3, none⟩ = some K := by
  obtain ⟨C, h, h0, h1, h2, h3⟩ := h
  exact ⟨(cell_of_row W b _ C _ (0, 0) h).trans h0, (cell_of_row W b _ C _ (0, 0) h).trans h1, (cell_of_row W b _ C _ (0, 0) h).trans h2, (cell_of_row W b _ C _ (0, 0) h).trans h3⟩
end
/-- Child i in memory. -/
theorem NdV.kid {W : World} {hi b off c m : Nat} {k n : Int} {s : ByteArray} {l : List TY.Nd} (h : NdV W hi (.mk k n s l) (ndv k n s (.slice (some ⟨b, off, none⟩) m c))) {i : Nat} {t : TY.Nd} (hi1 : l[i]? = some t) : ∃ (k0 n0 : Int) (s0 : ByteArray) (A0 : Option Addr) (m0 c0 : Nat), NdV W hi t (ndv k0 n0 s0 (.slice A0 m0 c0)) ∧ N4 W b (off + i * 4) k0 n0 s0 (.slice A0 m0 c0) := by
  obtain ⟨A, c', vs, e, h1, hc, hcm, hm, hs, hk, ht⟩ := h.open_
  injection e with e
  injection e with e
  injection e with _ e
  injection e with _ e
  injection e with _ e
  injection e with e _
  injection e with e _ _
  subst e
  have hlt : i < vs.length := by
    rw [h1]
    exact (List.getElem?_eq_some_iff.1 hi1).1
  obtain ⟨v0, hv0⟩ : ∃ x, vs[i]? = some x := ⟨vs[i], List.getElem?_eq_getElem hlt⟩
  have hn := ht i t v0 hi1 hv0
  rcases hk with rfl | ⟨b', off', C, e, hb, hC, hx⟩
  · simp at hv0
  · injection e with e
    injection e with e e' _
    subst e e'
    obtain ⟨k0, n0, s0, K, rfl, x0, x1, x2, x3⟩ := hx i v0 hv0
    obtain ⟨k', n', s', l'⟩ := t
    obtain ⟨A', c1, _, e2, _⟩ := hn.open_
    injection e2 with e2
    injection e2 with e2
    injection e2 with _ e2
    injection e2 with _ e2
    injection e2 with _ e2
    injection e2 with e2 _
    subst e2
    exact ⟨k0, n0, s0, A', _, c1, hn, C, hC, x0, x1, x2, x3⟩
/-- A node that has children. -/
theorem NdV.kids {W : World} {hi : Nat} {k n : Int} {s : ByteArray} {l : List TY.Nd} {v : Value} (h : NdV W hi (.mk k n s l) v) (hl : l ≠ []) : ∃ (b off c : Nat), v = ndv k n s (.slice (some ⟨b, off, none⟩) l.length c) ∧ l.length ≤ c ∧ c ≤ maxLen ∧ l.length ≤ 1000000 := by
  obtain ⟨A, c, vs, rfl, h1, hc, hcm, hm, hs, hk, ht⟩ := h.open_
  rcases hk with rfl | ⟨b, off, C, rfl, _⟩
  · exact absurd (List.eq_nil_of_length_eq_zero h1.symm) hl
  · exact ⟨b, off, c, rfl, hc, hcm, hm⟩
set_option maxRecDepth 100000 in
set_option maxHeartbeats 4000000 in
theorem binary_pr {d : Nat} {s : ByteArray} {t0 t1 : TY.Nd} (hs : s ∈ PP.ops12) (hW : PP.WE d (.mk 18 0 s [t0, t1])) (hE0 : ExprC t0) (hE1 : ExprC t1) (lo g hi : Nat) (W : World) (x : PS.Bs) (v : Value) (hv : NdV W hi (.mk 18 0 s [t0, t1]) v) (hP : PrV lo W g x) (hT : TB lo W) (hl : lo ≤ W.heap.size) (hlen : (PP.joins x (bareT (.mk 18 0 s [t0, t1]))).length ≤ 100000) :
    Calls Tryz.prog 142 #[.pointer (some ⟨g, 0, none⟩), v] W fun e w' => e = .returned (.tuple #[]) ∧ PrV lo w' g (PP.joins x (bareT (.mk 18 0 s [t0, t1]))) ∧ QT lo W w' := by
  obtain ⟨b, off, c, rfl, hc, _, _⟩ := hv.kids (by simp)
  have hc : 2 ≤ c := hc
  obtain ⟨k0, n0, s0, A0, m0, c0, hn0, g0⟩ := hv.kid (i := 0) rfl
  obtain ⟨k1, n1, s1, A1, m1, c1, hn1, g1⟩ := hv.kid (i := 1) rfl
  rw [Nat.zero_mul, Nat.add_zero] at g0
  rw [Nat.one_mul] at g1
  have S0 := Lib.hid (Sgp.start hP hl hT (.int .i64 18) (.int .i64 0) (.string s) (.slice (some ⟨b, off, none⟩) 2 c))
  have HR := Lib.hid (fun V (h : Sgp lo g W (.int .i64 18) (.int .i64 0) (.string s) (.slice (some ⟨b, off, none⟩) 2 c) x V) => rank_nat hW V hi _ (h.nd hv))
  obtain ⟨p, hp⟩ : ∃ p, precT (.mk 18 0 s [t0, t1]) - 1 = p := ⟨_, rfl⟩
  have hp1 : PP.prec 18 s = p + 1 := by have := precT_pos (.mk 18 0 s [t0, t1]); show precT (.mk 18 0 s [t0, t1]) = _; omega
  have hp6 : p ≤ 5 := by have := PP.bprec_le s; have e : PP.prec 18 s = PP.bprec s := rfl; omega
  rw [hp] at HR
  obtain ⟨q, hq⟩ : ∃ q, (if p = 3 then 4 else p) = q := ⟨_, rfl⟩
  have hq7 : q ≤ 7 := by rw [← hq]; split <;> omega
  have hbt : bareT (.mk 18 0 s [t0, t1]) = PP.tE false t0 (q + 1) ++ [PP.ob s] ++ PP.tE false t1 (p + 1 + 1) := by
    show PP.kd ([t0, t1].map (PP.tE false)) 0 (if PP.prec 18 s = 4 then 5 else PP.prec 18 s) ++ PP.ob s :: PP.kd ([t0, t1].map (PP.tE false)) 1 (PP.prec 18 s + 1) = _
    rw [hp1, show (if p + 1 = 4 then 5 else p + 1) = q + 1 by rw [← hq]; split <;> split <;> omega, List.append_assoc]
    rfl
  rw [hbt] at hlen ⊢
  have L1 := Lib.hid (len_pre (len_pre hlen))
  have L2 := Lib.hid (show (PP.joins (PP.joins x (PP.tE false t0 (q + 1))) [PP.ob s]).length ≤ 100000 from by rw [← PP.joins_append]; exact len_pre hlen)
  have HJ := Lib.hid (show PP.joins x (PP.tE false t0 (q + 1) ++ [PP.ob s] ++ PP.tE false t1 (p + 1 + 1)) = PP.joins (PP.joins (PP.joins x (PP.tE false t0 (q + 1))) [PP.ob s]) (PP.tE false t1 (p + 1 + 1)) from by rw [PP.joins_append, PP.joins_append])
  rw [HJ.out] at hlen ⊢
  have L3 := Lib.hid hlen
  have G0 := Lib.hid g0
  have G1 := Lib.hid g1
  have N0 := Lib.hid hn0
  have N1 := Lib.hid hn1
  have E0 := Lib.hid hE0
  have E1 := Lib.hid hE1
  have hw : IntKind.i64.wrap ((p : Int) + 1) = ((p + 1 : Nat) : Int) := by rw [IntWalk.i64_in _ (by omega)]; rfl
  have hne : PP.ob s ≠ [] := by
    simp only [PP.ops12, List.mem_cons, List.not_mem_nil, or_false] at hs
    rcases hs with rfl | rfl | rfl | rfl | rfl | rfl | rfl | rfl | rfl | rfl | rfl | rfl <;> decide
  obtain ⟨B0, hB0⟩ : ∃ U, W.alloc (.cells #[.int .i64 18, .int .i64 0, .string s, .slice (some ⟨b, off, none⟩) 2 c] 33) = U := ⟨_, rfl⟩
  have HB0 := Lib.hid hB0
  rw [hB0] at S0
  obtain ⟨a0, a1, a2, a3⟩ := S0.out.cells
  clear hv hP hT hl hlen hbt hp hp1 hE0 hE1 hn0 hn1 g0 g1 hW hs hB0
  go_enter Tryz.func142, Tryz.ntmps142
  go_wp2_with fail
  rw [HB0.out]
  go_region_law
    (first
      | (go_simp; go_at_call 120; refine (HR.out _ S1.out).mono ?_; rintro e w2 ⟨rfl, hb2⟩
         have S2 := Lib.hid (S1.out.below hb2)
         clear hb2)
      | (go_simp; go_at_call 120; refine (HR.out _ S0.out.drew).mono ?_; rintro e w1 ⟨rfl, hb1⟩
         have S1 := Lib.hid (S0.out.drew.below hb1)
         obtain ⟨b0, b1, b2, b3⟩ := S1.out.cells
         clear hb1))
  all_goals
    have hcase : (p = 3 ∧ q = 4) ∨ (p ≠ 3 ∧ q = p) := by
      by_cases h : p = 3
      · exact .inl ⟨h, by rw [← hq, if_pos h]⟩
      · exact .inr ⟨h, by rw [← hq, if_neg h]⟩
    obtain ⟨x0, x1, x2, x3⟩ := S2.out.cells
    obtain ⟨y0, y1, y2, y3⟩ := (G0.out.qt S2.out.all).cells
    clear a0 a1 a2 a3 b0 b1 b2 b3 HR hq
    rcases hcase with ⟨hp3, rfl⟩ | ⟨hp3, rfl⟩
    · subst hp3
      go_wp2_with fail
      refine (E0.out lo g hi 4 w2 x _ hq7 (S2.out.nd N0.out) S2.out.1 S2.out.tb S2.out.low L1.out).mono ?_
      rintro e w3 ⟨rfl, h1, h2⟩
      have S3 := Lib.hid (S2.out.step h1 h2)
      obtain ⟨z0, z1, z2, z3⟩ := S3.out.cells
      clear h1 h2 x0 x1 x2 x3 y0 y1 y2 y3
      go_wp2_with fail
      refine (put_new [PP.ob s] 1 _ rfl (by omega) (show #[Value.string (PS.bs (PP.ob s))] = _ from by rw [PP.bs_ob]) S3.out.1 S3.out.low (by simpa using hne) L2.out).mono ?_
      rintro e w4 ⟨rfl, h1, h2⟩
      have S4 := Lib.hid (S3.out.step h1 h2)
      obtain ⟨x0, x1, x2, x3⟩ := S4.out.cells
      obtain ⟨y0, y1, y2, y3⟩ := (G1.out.qt S4.out.all).cells
      clear h1 h2 z0 z1 z2 z3
      go_wp2_with fail
      refine (E1.out lo g hi 4 w4 _ _ (by omega) (S4.out.nd N1.out) S4.out.1 S4.out.tb S4.out.low L3.out).mono ?_
      rintro e w5 ⟨rfl, h1, h2⟩
      have S5 := Lib.hid (S4.out.step h1 h2)
      clear h1 h2 x0 x1 x2 x3 y0 y1 y2 y3
      go_wp2_with fail
      go_end0
      exact ⟨rfl, S5.out.fin⟩
    · have hd : ((q : Int) == 3) = false := by simp; omega
      go_wp2_with fail
      refine (E0.out lo g hi q w2 x _ hq7 (S2.out.nd N0.out) S2.out.1 S2.out.tb S2.out.low L1.out).mono ?_
      rintro e w3 ⟨rfl, h1, h2⟩
      have S3 := Lib.hid (S2.out.step h1 h2)
      obtain ⟨z0, z1, z2, z3⟩ := S3.out.cells
      clear h1 h2 x0 x1 x2 x3 y0 y1 y2 y3
      go_wp2_with fail
      refine (put_new [PP.ob s] 1 _ rfl (by omega) (show #[Value.string (PS.bs (PP.ob s))] = _ from by rw [PP.bs_ob]) S3.out.1 S3.out.low (by simpa using hne) L2.out).mono ?_
      rintro e w4 ⟨rfl, h1, h2⟩
      have S4 := Lib.hid (S3.out.step h1 h2)
      obtain ⟨x0, x1, x2, x3⟩ := S4.out.cells
      obtain ⟨y0, y1, y2, y3⟩ := (G1.out.qt S4.out.all).cells
      clear h1 h2 z0 z1 z2 z3
      go_wp2_with fail
      refine (E1.out lo g hi (q + 1) w4 _ _ (by omega) (S4.out.nd N1.out) S4.out.1 S4.out.tb S4.out.low L3.out).mono ?_
      rintro e w5 ⟨rfl, h1, h2⟩
      have S5 := Lib.hid (S4.out.step h1 h2)
      clear h1 h2 x0 x1 x2 x3 y0 y1 y2 y3
      go_wp2_with fail
      go_end0
      exact ⟨rfl, S5.out.fin⟩
end Go.Proofs.YtlfpaemfhanpiaaGreatDoor

namespace Go.Proofs.YtlfpaemfhanpiaaGreatDoor
open Go Go.RowKit Go.Proofs
attribute [local go_sem] Oper.semAt_some

set_option maxRecDepth 100000 in
set_option maxHeartbeats 4000000 in
theorem bare_int (n : Int) (h0 : 0 ≤ n) (h1 : n ≤ 2147483647) : BareC (.mk 12 n TY.eps []) := by
  intro lo g hi W x v hv hP hT hl hlen
  obtain ⟨A, c, vs, rfl, _⟩ := hv.open_
  have S0 := Lib.hid (Sgp.start hP hl hT (.int .i64 12) (.int .i64 n) (.string TY.eps) (.slice A 0 c))
  have HI := Lib.hid (itoa_any n h0 h1 _ S0.out.tb)
  have hne : PP.dec n ≠ [] := fun e => by
    have := (PP.dec_tok (n := n.toNat) (by omega)).1
    rw [show Go.Lib.decDigits n.toNat = [] from e] at this
    exact absurd this (by decide)
  have L := Lib.hid (show (PP.joins x [PP.dec n]).length ≤ 100000 from hlen)
  clear hv hP hT hl hlen
  go_enter Tryz.func121, Tryz.ntmps121
  go_wp2_with fail
  refine HI.out.mono ?_
  rintro e w1 ⟨rfl, hb1⟩
  have S1 := Lib.hid (S0.out.below hb1)
  clear hb1
  go_wp2_with fail
  refine (put_new [PP.dec n] 1 _ rfl (by omega) rfl S1.out.1 S1.out.low (by simpa using hne) L.out).mono ?_
  rintro e w2 ⟨rfl, h1, h2⟩
  have S2 := Lib.hid (S1.out.step h1 h2)
  clear h1 h2
  go_wp2_with fail
  go_end0
  exact ⟨rfl, S2.out.fin⟩
set_option maxRecDepth 100000 in
set_option maxHeartbeats 4000000 in
theorem bare_bool0 : BareC (.mk 13 0 TY.eps []) := by
  intro lo g hi W x v hv hP hT hl hlen
  obtain ⟨A, c, vs, rfl, _⟩ := hv.open_
  have S0 := Lib.hid (Sgp.start hP hl hT (.int .i64 13) (.int .i64 0) (.string TY.eps) (.slice A 0 c))
  have L := Lib.hid (show (PP.joins x [PS.wFalse]).length ≤ 100000 from hlen)
  obtain ⟨B0, hB0⟩ : ∃ U, (W.alloc (.cells #[.int .i64 13, .int .i64 0, .string TY.eps, .slice A 0 c] 33)) = U := ⟨_, rfl⟩
  rw [hB0] at S0
  obtain ⟨a0, a1, a2, a3⟩ := S0.out.cells
  obtain ⟨C0, hC0⟩ : ∃ U, (B0.alloc (.cells #[.string (PS.bs PS.wFalse), .string (PS.bs PS.wTrue)] 9)) = U := ⟨_, rfl⟩
  have S1 := Lib.hid (show Sgp lo g W _ _ _ _ x C0 from by rw [← hC0]; exact S0.out.below ((Below.refl _ _).alloc (Nat.le_refl _) _))
  have hn := World.alloc_heap_new B0 (.cells #[.string (PS.bs PS.wFalse), .string (PS.bs PS.wTrue)] 9)
  rw [hC0] at hn
  have b0 : C0.cell? ⟨B0.heap.size, 0, none⟩ = some (.string (PS.bs PS.wFalse)) := cell_of_row _ _ 0 _ _ (0, 0) hn
  have b1 : C0.cell? ⟨B0.heap.size, 1, none⟩ = some (.string (PS.bs PS.wTrue)) := cell_of_row _ _ 1 _ _ (0, 0) hn
  obtain ⟨d0, d1, d2, d3⟩ := S1.out.cells
  clear hv hP hT hl hlen hn
  go_enter Tryz.func121, Tryz.ntmps121
  go_wp2_with fail
  refine (put_new [PS.wFalse] 1 _ rfl (by omega) rfl S1.out.1 S1.out.low (by decide) L.out).mono ?_
  rintro e w2 ⟨rfl, h1, h2⟩
  have S2 := Lib.hid (S1.out.step h1 h2)
  clear h1 h2
  go_wp2_with fail
  go_end0
  exact ⟨rfl, S2.out.fin⟩
set_option maxRecDepth 100000 in
set_option maxHeartbeats 4000000 in
theorem bare_bool1 : BareC (.mk 13 1 TY.eps []) := by
  intro lo g hi W x v hv hP hT hl hlen
  obtain ⟨A, c, vs, rfl, _⟩ := hv.open_
  have S0 := Lib.hid (Sgp.start hP hl hT (.int .i64 13) (.int .i64 1) (.string TY.eps) (.slice A 0 c))
  have L := Lib.hid (show (PP.joins x [PS.wTrue]).length ≤ 100000 from hlen)
  obtain ⟨B0, hB0⟩ : ∃ U, (W.alloc (.cells #[.int .i64 13, .int .i64 1, .string TY.eps, .slice A 0 c] 33)) = U := ⟨_, rfl⟩
  rw [hB0] at S0
  obtain ⟨a0, a1, a2, a3⟩ := S0.out.cells
  obtain ⟨C0, hC0⟩ : ∃ U, (B0.alloc (.cells #[.string (PS.bs PS.wFalse), .string (PS.bs PS.wTrue)] 9)) = U := ⟨_, rfl⟩
  have S1 := Lib.hid (show Sgp lo g W _ _ _ _ x C0 from by rw [← hC0]; exact S0.out.below ((Below.refl _ _).alloc (Nat.le_refl _) _))
  have hn := World.alloc_heap_new B0 (.cells #[.string (PS.bs PS.wFalse), .string (PS.bs PS.wTrue)] 9)
  rw [hC0] at hn
  have b0 : C0.cell? ⟨B0.heap.size, 0, none⟩ = some (.string (PS.bs PS.wFalse)) := cell_of_row _ _ 0 _ _ (0, 0) hn
  have b1 : C0.cell? ⟨B0.heap.size, 1, none⟩ = some (.string (PS.bs PS.wTrue)) := cell_of_row _ _ 1 _ _ (0, 0) hn
  obtain ⟨d0, d1, d2, d3⟩ := S1.out.cells
  clear hv hP hT hl hlen hn
  go_enter Tryz.func121, Tryz.ntmps121
  go_wp2_with fail
  refine (put_new [PS.wTrue] 1 _ rfl (by omega) rfl S1.out.1 S1.out.low (by decide) L.out).mono ?_
  rintro e w2 ⟨rfl, h1, h2⟩
  have S2 := Lib.hid (S1.out.step h1 h2)
  clear h1 h2
  go_wp2_with fail
  go_end0
  exact ⟨rfl, S2.out.fin⟩
set_option maxRecDepth 100000 in
set_option maxHeartbeats 4000000 in
theorem bare_var (s : ByteArray) (hs : PP.ob s ≠ []) : BareC (.mk 14 0 s []) := by
  intro lo g hi W x v hv hP hT hl hlen
  obtain ⟨A, c, vs, rfl, _⟩ := hv.open_
  have S0 := Lib.hid (Sgp.start hP hl hT (.int .i64 14) (.int .i64 0) (.string s) (.slice A 0 c))
  have L := Lib.hid (show (PP.joins x [PP.ob s]).length ≤ 100000 from hlen)
  obtain ⟨B0, hB0⟩ : ∃ U, (W.alloc (.cells #[.int .i64 14, .int .i64 0, .string s, .slice A 0 c] 33)) = U := ⟨_, rfl⟩
  rw [hB0] at S0
  obtain ⟨a0, a1, a2, a3⟩ := S0.out.cells
  clear hv hP hT hl hlen
  go_enter Tryz.func121, Tryz.ntmps121
  go_wp2_with fail
  refine (put_new [PP.ob s] 1 _ rfl (by omega) (show #[Value.string (PS.bs (PP.ob s))] = _ from by rw [PP.bs_ob]) S0.out.1 S0.out.low (by simpa using hs) L.out).mono ?_
  rintro e w2 ⟨rfl, h1, h2⟩
  have S2 := Lib.hid (S0.out.step h1 h2)
  clear h1 h2
  go_wp2_with fail
  go_end0
  exact ⟨rfl, S2.out.fin⟩
set_option maxRecDepth 100000 in
set_option maxHeartbeats 4000000 in
theorem bare_name (s : ByteArray) (hs : PP.ob s ≠ []) : BareC (.mk 15 0 s []) := by
  intro lo g hi W x v hv hP hT hl hlen
  obtain ⟨A, c, vs, rfl, _⟩ := hv.open_
  have S0 := Lib.hid (Sgp.start hP hl hT (.int .i64 15) (.int .i64 0) (.string s) (.slice A 0 c))
  have L := Lib.hid (show (PP.joins x [PP.ob s]).length ≤ 100000 from hlen)
  obtain ⟨B0, hB0⟩ : ∃ U, (W.alloc (.cells #[.int .i64 15, .int .i64 0, .string s, .slice A 0 c] 33)) = U := ⟨_, rfl⟩
  rw [hB0] at S0
  obtain ⟨a0, a1, a2, a3⟩ := S0.out.cells
  clear hv hP hT hl hlen
  go_enter Tryz.func121, Tryz.ntmps121
  go_wp2_with fail
  refine (put_new [PP.ob s] 1 _ rfl (by omega) (show #[Value.string (PS.bs (PP.ob s))] = _ from by rw [PP.bs_ob]) S0.out.1 S0.out.low (by simpa using hs) L.out).mono ?_
  rintro e w2 ⟨rfl, h1, h2⟩
  have S2 := Lib.hid (S0.out.step h1 h2)
  clear h1 h2
  go_wp2_with fail
  go_end0
  exact ⟨rfl, S2.out.fin⟩
set_option maxRecDepth 100000 in
set_option maxHeartbeats 4000000 in
theorem bare_draw (t0 : TY.Nd) (hE : ExprC t0) : BareC (.mk 16 0 TY.eps [t0]) := by
  intro lo g hi W x v hv hP hT hl hlen
  obtain ⟨b, off, c, rfl, hc, _, _⟩ := hv.kids (by simp)
  have hc : 1 ≤ c := hc
  obtain ⟨k0, n0, s0, A0, m0, c0, hn0, g0⟩ := hv.kid (i := 0) rfl
  rw [Nat.zero_mul, Nat.add_zero] at g0
  have S0 := Lib.hid (Sgp.start hP hl hT (.int .i64 16) (.int .i64 0) (.string TY.eps) (.slice (some ⟨b, off, none⟩) 1 c))
  have hbt : bareT (.mk 16 0 TY.eps [t0]) = [PS.wDraw, PS.yLP] ++ PP.tE false t0 1 ++ [PS.yRP] := rfl
  rw [hbt] at hlen ⊢
  have L1 := Lib.hid (len_pre (len_pre hlen))
  have L2 := Lib.hid (show (PP.joins (PP.joins x [PS.wDraw, PS.yLP]) (PP.tE false t0 1)).length ≤ 100000 from by rw [← PP.joins_append]; exact len_pre hlen)
  rw [PP.joins_append, PP.joins_append] at hlen ⊢
  have L3 := Lib.hid hlen
  have G0 := Lib.hid g0
  have N0 := Lib.hid hn0
  have E0 := Lib.hid (pr_list [t0] (fun t ht => by rw [List.mem_singleton.1 ht]; exact hE))
  obtain ⟨B0, hB0⟩ : ∃ U, (W.alloc (.cells #[.int .i64 16, .int .i64 0, .string TY.eps, .slice (some ⟨b, off, none⟩) 1 c] 33)) = U := ⟨_, rfl⟩
  rw [hB0] at S0
  obtain ⟨a0, a1, a2, a3⟩ := S0.out.cells
  clear hv hP hT hl hlen hbt hE hn0 g0
  go_enter Tryz.func121, Tryz.ntmps121
  go_wp2_with fail
  refine (put_new [PS.wDraw, PS.yLP] 2 _ rfl (by omega) rfl S0.out.1 S0.out.low (by decide) L1.out).mono ?_
  rintro e w2 ⟨rfl, h1, h2⟩
  have S2 := Lib.hid (S0.out.step h1 h2)
  obtain ⟨x0, x1, x2, x3⟩ := S2.out.cells
  obtain ⟨y0, y1, y2, y3⟩ := (G0.out.qt S2.out.all).cells
  clear h1 h2 a0 a1 a2 a3
  go_wp2_with fail
  have hbn : Below w2.heap.size w2 (w2.alloc (.cells #[.int .i64 k0, .int .i64 n0, .string s0, .slice A0 m0 c0] 33)) := (Below.refl _ _).alloc (Nat.le_refl _) _
  have S3 := Lib.hid (S2.out.below hbn)
  have hnw := World.alloc_heap_new w2 (.cells #[.int .i64 k0, .int .i64 n0, .string s0, .slice A0 m0 c0] 33)
  refine (E0.out lo g (max hi (w2.heap.size + 1)) _ _ (some ⟨w2.heap.size, 0, none⟩) 1 [ndv k0 n0 s0 (.slice A0 m0 c0)] rfl (Nat.le_refl _) (by simp) (.inr ⟨_, 0, _, rfl, by omega, hnw, fun i v hv => ?_⟩) (fun i t v ht hv => ?_) S3.out.1 S3.out.tb S3.out.low L2.out).mono ?_
  · cases i with
    | zero => injection hv with hv; subst hv; exact ⟨k0, n0, s0, _, rfl, rfl, rfl, rfl, rfl⟩
    | succ i => simp at hv
  · cases i with
    | zero => injection hv with hv; injection ht with ht; subst hv ht; exact (S3.out.nd N0.out).keep (fun _ _ _ _ => rfl) (by omega)
    | succ i => simp at hv
  rintro e w4 ⟨rfl, h1, h2⟩
  have S4 := Lib.hid (S3.out.step h1 h2)
  clear h1 h2 x0 x1 x2 x3 y0 y1 y2 y3 hbn hnw
  go_wp2_with fail
  refine (put_new [PS.yRP] 1 _ rfl (by omega) rfl S4.out.1 S4.out.low (by decide) L3.out).mono ?_
  rintro e w5 ⟨rfl, h1, h2⟩
  have S5 := Lib.hid (S4.out.step h1 h2)
  clear h1 h2
  go_wp2_with fail
  go_end0
  exact ⟨rfl, S5.out.fin⟩
end Go.Proofs.YtlfpaemfhanpiaaGreatDoor

namespace Go.Proofs.YtlfpaemfhanpiaaGreatDoor
open Go Go.RowKit Go.Proofs
attribute [local go_sem] Oper.semAt_some

set_option maxRecDepth 100000 in
set_option maxHeartbeats 4000000 in
theorem bare_un {d : Nat} (s : ByteArray) (t0 : TY.Nd) (hs : PP.ob s ≠ []) (hW : PP.WE d (.mk 17 0 s [t0])) (hE : ExprC t0) : BareC (.mk 17 0 s [t0]) := by
  intro lo g hi W x v hv hP hT hl hlen
  obtain ⟨b, off, c, rfl, hc, _, _⟩ := hv.kids (by simp)
  have hc : 1 ≤ c := hc
  obtain ⟨k0, n0, s0, A0, m0, c0, hn0, g0⟩ := hv.kid (i := 0) rfl
  rw [Nat.zero_mul, Nat.add_zero] at g0
  have S0 := Lib.hid (Sgp.start hP hl hT (.int .i64 17) (.int .i64 0) (.string s) (.slice (some ⟨b, off, none⟩) 1 c))
  obtain ⟨p, hp⟩ : ∃ p, precT (.mk 17 0 s [t0]) - 1 = p := ⟨_, rfl⟩
  have hp1 : PP.prec 17 s = p + 1 := by have := precT_pos (.mk 17 0 s [t0]); show precT (.mk 17 0 s [t0]) = _; omega
  have hp7 : p ≤ 7 := by have := PP.prec_le 17 s; omega
  have HR := Lib.hid (fun V y (h : Sgp lo g W (.int .i64 17) (.int .i64 0) (.string s) (.slice (some ⟨b, off, none⟩) 1 c) y V) => rank_nat hW V hi _ (h.nd hv))
  rw [hp] at HR
  have hbt : bareT (.mk 17 0 s [t0]) = [PP.ob s] ++ PP.tE false t0 (p + 1) := by
    show PP.ob s :: PP.kd ([t0].map (PP.tE false)) 0 (PP.prec 17 s) = _
    rw [hp1]
    rfl
  rw [hbt] at hlen ⊢
  have L1 := Lib.hid (len_pre hlen)
  rw [PP.joins_append] at hlen ⊢
  have L2 := Lib.hid hlen
  have G0 := Lib.hid g0
  have N0 := Lib.hid hn0
  have E0 := Lib.hid hE
  obtain ⟨B0, hB0⟩ : ∃ U, (W.alloc (.cells #[.int .i64 17, .int .i64 0, .string s, .slice (some ⟨b, off, none⟩) 1 c] 33)) = U := ⟨_, rfl⟩
  rw [hB0] at S0
  obtain ⟨a0, a1, a2, a3⟩ := S0.out.cells
  clear hv hP hT hl hlen hbt hE hn0 g0 hp hp1 hW
  go_enter Tryz.func121, Tryz.ntmps121
  go_wp2_with fail
  refine (put_new [PP.ob s] 1 _ rfl (by omega) (show #[Value.string (PS.bs (PP.ob s))] = _ from by rw [PP.bs_ob]) S0.out.1 S0.out.low (by simpa using hs) L1.out).mono ?_
  rintro e w2 ⟨rfl, h1, h2⟩
  have S2 := Lib.hid (S0.out.step h1 h2)
  obtain ⟨x0, x1, x2, x3⟩ := S2.out.cells
  obtain ⟨y0, y1, y2, y3⟩ := (G0.out.qt S2.out.all).cells
  clear h1 h2 a0 a1 a2 a3
  go_wp2_with fail
  go_region_law
    (first
      | (go_simp; go_at_call 120; refine (HR.out _ _ S2.out.drew).mono ?_; rintro e w3 ⟨rfl, hb1⟩
         have S3 := Lib.hid (S2.out.drew.below hb1)
         obtain ⟨b0, b1, b2, b3⟩ := S3.out.cells
         obtain ⟨z0, z1, z2, z3⟩ := (G0.out.qt S3.out.all).cells
         clear hb1)
      | (go_simp; go_at_call 91; refine (E0.out lo g hi p w3 _ _ hp7 (S3.out.nd N0.out) S3.out.1 S3.out.tb S3.out.low L2.out).mono ?_; rintro e w4 ⟨rfl, h1, h2⟩
         have S4 := Lib.hid (S3.out.step h1 h2)
         clear h1 h2))
  all_goals
    go_wp2_with fail
    go_end0
    exact ⟨rfl, S4.out.fin⟩
set_option maxRecDepth 100000 in
set_option maxHeartbeats 4000000 in
theorem bare_bin {d : Nat} {s : ByteArray} {t0 t1 : TY.Nd} (hs : s ∈ PP.ops12) (hW : PP.WE d (.mk 18 0 s [t0, t1])) (hE0 : ExprC t0) (hE1 : ExprC t1) : BareC (.mk 18 0 s [t0, t1]) := by
  intro lo g hi W x v hv hP hT hl hlen
  obtain ⟨b, off, c, rfl, hc, _, _⟩ := hv.kids (by simp)
  have S0 := Lib.hid (Sgp.start hP hl hT (.int .i64 18) (.int .i64 0) (.string s) (.slice (some ⟨b, off, none⟩) 2 c))
  obtain ⟨B0, hB0⟩ : ∃ U, (W.alloc (.cells #[.int .i64 18, .int .i64 0, .string s, .slice (some ⟨b, off, none⟩) 2 c] 33)) = U := ⟨_, rfl⟩
  rw [hB0] at S0
  have HC := Lib.hid (binary_pr hs hW hE0 hE1 lo g hi B0 x _ (S0.out.nd hv) S0.out.1 S0.out.tb S0.out.low hlen)
  obtain ⟨a0, a1, a2, a3⟩ := S0.out.cells
  clear hv hP hT hl hlen hE0 hE1 hW hs
  go_enter Tryz.func121, Tryz.ntmps121
  go_wp2_with fail
  refine HC.out.mono ?_
  rintro e w2 ⟨rfl, h1, h2⟩
  have S2 := Lib.hid (S0.out.step h1 h2)
  clear h1 h2
  go_wp2_with fail
  go_end0
  exact ⟨rfl, S2.out.fin⟩
theorem nm_ne {s : ByteArray} (h : PP.nmOk (PP.ob s) = true) : PP.ob s ≠ [] := fun e => by
  rw [e] at h
  exact absurd h (by decide)
theorem bin_ne {s : ByteArray} (h : PP.ob s ∈ PS.bins) : PP.ob s ≠ [] := fun e => by
  rw [e] at h
  exact absurd h (by decide)
theorem op_ne {s : ByteArray} (hs : s ∈ PP.ops12) : PP.ob s ≠ [] := by
  simp only [PP.ops12, List.mem_cons, List.not_mem_nil, or_false] at hs
  rcases hs with rfl | rfl | rfl | rfl | rfl | rfl | rfl | rfl | rfl | rfl | rfl | rfl <;> decide
theorem pr_expr {d : Nat} {t : TY.Nd} (h : PP.WE d t) : ExprC t := by
  induction h with
  | int d n h0 h1 => exact pr_expr_of (.int d n h0 h1) (bare_int n h0 h1)
  | bool d n hn =>
    refine pr_expr_of (.bool d n hn) ?_
    rcases hn with rfl | rfl
    · exact bare_bool0
    · exact bare_bool1
  | var d s hs => exact pr_expr_of (.var d s hs) (bare_var s (nm_ne hs))
  | name d s hs => exact pr_expr_of (.name d s hs) (bare_name s (bin_ne hs))
  | draw d x hx ih => exact pr_expr_of (.draw d x hx) (bare_draw x ih)
  | un d s x hs hx ih =>
    refine pr_expr_of (.un d s x hs hx) (bare_un s x ?_ (.un d s x hs hx) ih)
    rcases hs with rfl | rfl <;> decide
  | bin d s x y hs hx hy ihx ihy => exact pr_expr_of (.bin d s x y hs hx hy) (bare_bin hs (.bin d s x y hs hx hy) ihx ihy)
end Go.Proofs.YtlfpaemfhanpiaaGreatDoor

namespace Go.Proofs.YtlfpaemfhanpiaaGreatDoor
open Go Go.RowKit Go.Proofs
attribute [local go_sem] Oper.semAt_some

def StC (t : TY.Nd) : Prop := ∀ (lo g hi : Nat) (W : World) (x : PS.Bs) (v : Value), NdV W hi t v → PrV lo W g x → TB lo W → lo ≤ W.heap.size → (PP.joins x (PP.tS false t)).length ≤ 100000 →
  Calls Tryz.prog 70 #[.pointer (some ⟨g, 0, none⟩), v] W fun e w' => e = .returned (.tuple #[]) ∧ PrV lo w' g (PP.joins x (PP.tS false t)) ∧ QT lo W w'
def IfC (t : TY.Nd) : Prop := ∀ (lo g hi : Nat) (W : World) (x : PS.Bs) (v : Value), NdV W hi t v → PrV lo W g x → TB lo W → lo ≤ W.heap.size → (PP.joins x (PP.tS false t)).length ≤ 100000 →
  Calls Tryz.prog 90 #[.pointer (some ⟨g, 0, none⟩), v] W fun e w' => e = .returned (.tuple #[]) ∧ PrV lo w' g (PP.joins x (PP.tS false t)) ∧ QT lo W w'
def BlC (t : TY.Nd) : Prop := ∀ (lo g hi : Nat) (W : World) (x : PS.Bs) (v : Value), NdV W hi t v → PrV lo W g x → TB lo W → lo ≤ W.heap.size → (PP.joins x (PP.tS false t)).length ≤ 100000 →
  Calls Tryz.prog 39 #[.pointer (some ⟨g, 0, none⟩), v] W fun e w' => e = .returned (.tuple #[]) ∧ PrV lo w' g (PP.joins x (PP.tS false t)) ∧ QT lo W w'
theorem len_in {y : PS.Bs} {ts : List PS.Bs} (h : (PP.joins y ts).length ≤ 100000) : y.length ≤ 100000 := Nat.le_trans (joins_mono y [] ts) h
theorem dec_nil {n : Int} (h0 : 0 ≤ n) (h1 : n ≤ 2147483647) : PP.dec n ≠ [] := fun e => by
  have := (PP.dec_tok (n := n.toNat) (by omega)).1
  rw [show Go.Lib.decDigits n.toNat = [] from e] at this
  exact absurd this (by decide)
theorem put_ne {n : Int} (h0 : 0 ≤ n) (h1 : n ≤ 2147483647) {w : PS.Bs} (hw : w ≠ []) : ∀ t ∈ [w, PP.dec n], t ≠ [] := by
  intro t ht
  simp only [List.mem_cons, List.not_mem_nil, or_false] at ht
  rcases ht with rfl | rfl
  · exact hw
  · exact dec_nil h0 h1
theorem put_ne3 {n : Int} (h0 : 0 ≤ n) (h1 : n ≤ 2147483647) : ∀ t ∈ [PS.yComma, PP.dec n, PS.yComma], t ≠ [] := by
  intro t ht
  simp only [List.mem_cons, List.not_mem_nil, or_false] at ht
  rcases ht with rfl | rfl | rfl
  · decide
  · exact dec_nil h0 h1
  · decide
theorem list_nd {V : World} {lo g hi m c : Nat} {x : PS.Bs} {k n : Int} {s : ByteArray} {l : List TY.Nd} {A : Option Addr} (hv : NdV V hi (.mk k n s l) (ndv k n s (.slice A m c))) (hE : ∀ t ∈ l, ExprC t) (hP : PrV lo V g x) (hT : TB lo V) (hl : lo ≤ V.heap.size) (hlen : (PP.joins x (PP.lst false l)).length ≤ 100000) :
    Calls Tryz.prog 89 #[.pointer (some ⟨g, 0, none⟩), .slice A m c] V fun e w' => e = .returned (.tuple #[]) ∧ PrV lo w' g (PP.joins x (PP.lst false l)) ∧ QT lo V w' := by
  obtain ⟨A', c', vs, e, h1, hc, hcm, hm, hs, hk, ht⟩ := hv.open_
  injection e with e
  injection e with e
  injection e with _ e
  injection e with _ e
  injection e with _ e
  injection e with e _
  injection e with e e2 e3
  subst e e2 e3
  exact pr_list l hE lo g hi V x A c vs h1 hc hm hk ht hP hT hl hlen
theorem list_one {V : World} {lo g hi : Nat} {x : PS.Bs} {t0 : TY.Nd} {k0 n0 : Int} {s0 : ByteArray} {A0 : Option Addr} {m0 c0 : Nat} (hn : NdV V hi t0 (ndv k0 n0 s0 (.slice A0 m0 c0))) (hE : ExprC t0) (hP : PrV lo V g x) (hT : TB lo V) (hl : lo ≤ V.heap.size) (hlen : (PP.joins x (PP.lst false [t0])).length ≤ 100000) :
    Calls Tryz.prog 89 #[.pointer (some ⟨g, 0, none⟩), .slice (some ⟨V.heap.size, 0, none⟩) 1 1] (V.alloc (.cells #[.int .i64 k0, .int .i64 n0, .string s0, .slice A0 m0 c0] 33)) fun e w' => e = .returned (.tuple #[]) ∧ PrV lo w' g (PP.joins x (PP.lst false [t0])) ∧ QT lo V w' := by
  have hbn : Below V.heap.size V (V.alloc (.cells #[.int .i64 k0, .int .i64 n0, .string s0, .slice A0 m0 c0] 33)) := (Below.refl _ _).alloc (Nat.le_refl _) _
  have hq : QT lo V _ := QT.of_below hbn
  have hnw := World.alloc_heap_new V (.cells #[.int .i64 k0, .int .i64 n0, .string s0, .slice A0 m0 c0] 33)
  refine (pr_list [t0] (fun t ht => by rw [List.mem_singleton.1 ht]; exact hE) lo g (max hi (V.heap.size + 1)) _ x (some ⟨V.heap.size, 0, none⟩) 1 [ndv k0 n0 s0 (.slice A0 m0 c0)] rfl (Nat.le_refl _) (by simp) (.inr ⟨_, 0, _, rfl, by omega, hnw, fun i v hv => ?_⟩) (fun i t v ht hv => ?_) (hP.keep hbn) (hT.qt hq) (by rw [World.size_alloc]; omega) hlen).mono ?_
  · cases i with
    | zero => injection hv with hv; subst hv; exact ⟨k0, n0, s0, _, rfl, rfl, rfl, rfl, rfl⟩
    | succ i => simp at hv
  · cases i with
    | zero => injection hv with hv; injection ht with ht; subst hv ht; exact (hq.nd hn).keep (fun _ _ _ _ => rfl) (by omega)
    | succ i => simp at hv
  rintro e w4 ⟨rfl, h1, h2⟩
  exact ⟨rfl, h1, hq.trans h2⟩
/-- The children behind the first one. -/
theorem NdV.tail {W : World} {hi : Nat} {k n : Int} {s : ByteArray} {x : TY.Nd} {l : List TY.Nd} {b off c : Nat} (h : NdV W hi (.mk k n s (x :: l)) (ndv k n s (.slice (some ⟨b, off, none⟩) (l.length + 1) c))) : NdV W hi (.mk k n s l) (ndv k n s (.slice (if c = 1 then some ⟨b, off, none⟩ else some ⟨b, off + 4, none⟩) l.length (c - 1))) := by
  obtain ⟨A, c', vs, e, hvl, hlc, hcm, hlm, hs, hkd, hkids⟩ := h.open_
  injection e with e
  injection e with e
  injection e with _ e
  injection e with _ e
  injection e with _ e
  injection e with e _
  injection e with eA _ ec
  subst eA ec
  rw [List.length_cons] at hvl hlc hlm
  refine .mk k n s l _ (c - 1) (vs.drop 1) (by rw [List.length_drop]; omega) (by omega) (by omega) (by omega) hs ?_ fun i t v ht hv => ?_
  · rcases hkd with rfl | ⟨b', o', C, e, hb, hc, hx⟩
    · exact .inl rfl
    · injection e with e
      injection e with e1 e2 _
      subst e1 e2
      by_cases h1 : c = 1
      · refine .inl ?_
        apply List.eq_nil_of_length_eq_zero
        rw [List.length_drop]
        omega
      · rw [if_neg h1]
        refine .inr ⟨b, off + 4, C, rfl, hb, hc, fun i v hv => ?_⟩
        rw [List.getElem?_drop] at hv
        obtain ⟨k', n', s', K, rfl, c0, c1, c2, c3⟩ := hx (1 + i) v hv
        have e0 : off + (1 + i) * 4 = off + 4 + i * 4 := by omega
        rw [e0] at c0 c1 c2 c3
        exact ⟨k', n', s', K, rfl, c0, c1, c2, c3⟩
  · rw [List.getElem?_drop] at hv
    exact hkids (1 + i) t v (by rw [Nat.add_comm, List.getElem?_cons_succ]; exact ht) hv
end Go.Proofs.YtlfpaemfhanpiaaGreatDoor
