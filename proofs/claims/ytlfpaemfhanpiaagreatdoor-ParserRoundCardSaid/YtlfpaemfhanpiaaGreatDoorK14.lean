/-
  The tokens of a program can be joined. Plain mathematics.
  How long the source of a generated program is: at most 3000 bytes. Plain mathematics; no function of the program.
  How long the source of a generated program is, its statements: at most 3000 bytes. Plain mathematics; no function of the program.
-/
import Derived.Test.YtlfpaemfhanpiaaGreatDoorK13
import Derived.Test.YtlfpaemfhanpiaaGreatDoorK2
import Derived.Test.YtlfpaemfhanpiaaGreatDoorK12

namespace Go.Proofs.YtlfpaemfhanpiaaGreatDoor.PP
open TY (Nd)
open PS

/-- A row of tokens that may stand anywhere. -/
structure Gd (l : List Bs) : Prop where
  vt : ∀ t ∈ l, VT t
  ad : Ad true l
  st : stt false l = false
theorem Gd.nil : Gd [] := ⟨fun t h => by simp at h, trivial, rfl⟩
theorem stt_ne {l : List Bs} (h : l ≠ []) (p q : Bool) : stt p l = stt q l := by
  cases l with
  | nil => exact absurd rfl h
  | cons x l => rfl
theorem Gd.app {xs ys : List Bs} (h : Gd xs) (k : Gd ys) : Gd (xs ++ ys) := ⟨fun t ht => (List.mem_append.1 ht).elim (h.vt t) (k.vt t), h.ad.app k.ad.weak, by rw [stt_app, h.st, k.st]⟩
/-- With a token between that may begin with an = or be one that an = would lengthen. -/
theorem Gd.mid {xs ys : List Bs} {s : Bs} (h : Gd xs) (hx : xs ≠ []) (hs : VT s) (k : Gd ys) (hy : ys ≠ []) : Gd (xs ++ s :: ys) := by
  refine ⟨fun t ht => ?_, h.ad.app ?_, ?_⟩
  · rcases List.mem_append.1 ht with ht | ht
    · exact h.vt t ht
    · rcases List.mem_cons.1 ht with rfl | ht
      · exact hs
      · exact k.vt t ht
  · rw [stt_ne hx true false, h.st]
    exact ⟨fun e => (by cases e), k.ad.weak⟩
  · rw [stt_app]
    show stt (decide (s ∈ opA)) ys = false
    rw [stt_ne hy _ false, k.st]
/-- One token that is no such symbol and begins with no =. -/
theorem Gd.one {s : Bs} (h : VT s) (h1 : s.head? ≠ some 61) (h2 : s ∉ opA) : Gd [s] := ⟨fun t ht => by rw [List.mem_singleton.1 ht]; exact h, ⟨fun _ => h1, trivial⟩, decide_eq_false h2⟩
/-- A prefix that may be such a symbol. -/
theorem Gd.pre {s : Bs} {ys : List Bs} (h : VT s) (h1 : s.head? ≠ some 61) (k : Gd ys) (hy : ys ≠ []) : Gd (s :: ys) := ⟨fun t ht => (List.mem_cons.1 ht).elim (fun e => e ▸ h) (k.vt t), ⟨fun _ => h1, k.ad.weak⟩, by
  show stt (decide (s ∈ opA)) ys = false
  rw [stt_ne hy _ false, k.st]⟩
theorem isA_head {s : Bs} (hs : ∀ c ∈ s, LX.isA c = true) : s.head? ≠ some 61 := fun h => by
  cases s with
  | nil => cases h
  | cons c l =>
    injection h with h
    have := hs c (by simp)
    rw [h] at this
    exact absurd this (by decide)
theorem isA_op {s : Bs} (hs : ∀ c ∈ s, LX.isA c = true) (hn : s ≠ []) : s ∉ opA := fun h => by
  simp only [opA, List.mem_cons, List.not_mem_nil, or_false] at h
  rcases h with rfl | rfl | rfl | rfl
  all_goals exact absurd (hs _ (List.mem_singleton.2 rfl)) (by decide)
theorem Gd.word {s : Bs} (h10 : s.length ≤ 10) (hw : ∃ c l, s = c :: l ∧ LX.isW c = true) (ha : ∀ c ∈ s, LX.isA c = true) : Gd [s] := .one (.inl ⟨h10, hw, ha⟩) (isA_head ha) (isA_op ha (by obtain ⟨c, l, rfl, _⟩ := hw; simp))
theorem vt_kw {s : Bs} (h : s ∈ kwds ++ bins) : Gd [s] := by
  have hall : ∀ s ∈ kwds ++ bins, s.length ≤ 10 ∧ (∃ c, s.head? = some c ∧ LX.isW c = true) ∧ ∀ c ∈ s, LX.isA c = true := by
    intro s hs
    simp only [kwds, bins, List.cons_append, List.nil_append, List.mem_cons, List.not_mem_nil, or_false] at hs
    rcases hs with rfl | rfl | rfl | rfl | rfl | rfl | rfl | rfl | rfl | rfl | rfl | rfl | rfl | rfl | rfl | rfl | rfl | rfl | rfl | rfl | rfl | rfl | rfl | rfl | rfl | rfl | rfl | rfl
    all_goals exact ⟨by decide, ⟨_, rfl, by decide⟩, by decide⟩
  obtain ⟨h1, ⟨c, hc, hw⟩, h3⟩ := hall s h
  cases s with
  | nil => cases hc
  | cons d l =>
    injection hc with hc
    subst hc
    exact .word h1 ⟨d, l, rfl, hw⟩ h3
theorem vt_dec {n : Nat} (h : n ≤ 2147483647) : Gd [Go.Lib.decDigits n] := by
  obtain ⟨h1, h2, h3⟩ := dd_digit 9 n (by omega)
  have ha : ∀ c ∈ Go.Lib.decDigits n, LX.isA c = true := fun c hc => isD_A (h2 c hc)
  exact .one (.inr (.inl ⟨h1, h2, by omega⟩)) (isA_head ha) (isA_op ha h1)
theorem vt_sym {s : Bs} (h : s ∈ syms) (h1 : s.head? ≠ some 61) (h2 : s ∉ opA) : Gd [s] := .one (.inr (.inr h)) h1 h2
theorem vt_op {s : ByteArray} (h : s ∈ ops12) : VT (ob s) := by
  refine .inr (.inr ?_)
  simp only [ops12, List.mem_cons, List.not_mem_nil, or_false] at h
  rcases h with rfl | rfl | rfl | rfl | rfl | rfl | rfl | rfl | rfl | rfl | rfl | rfl <;> decide
theorem vt_nm {s : Bs} (h : nmOk s = true) : Gd [s] := by
  have hne : s ≠ [] := fun e => by rw [e] at h; exact absurd h (by decide)
  unfold nmOk at h
  simp only [Bool.and_eq_true, decide_eq_true_eq, List.all_eq_true] at h
  obtain ⟨⟨⟨h1, _⟩, _⟩, h2, h3⟩ := h
  obtain ⟨c, l, rfl⟩ := List.exists_cons_of_ne_nil hne
  refine .word h2 ⟨c, l, rfl, ?_⟩ h3
  cases hw : LX.isW c with
  | true => rfl
  | false =>
    rw [kindT, hw] at h1
    simp only [Bool.false_eq_true, if_false] at h1
    split at h1 <;> omega
theorem gLP : Gd [yLP] := vt_sym (by decide) (by decide) (by decide)
theorem gRP : Gd [yRP] := vt_sym (by decide) (by decide) (by decide)
theorem gLB : Gd [yLB] := vt_sym (by decide) (by decide) (by decide)
theorem gRB : Gd [yRB] := vt_sym (by decide) (by decide) (by decide)
theorem gCm : Gd [yComma] := vt_sym (by decide) (by decide) (by decide)
theorem gSm : Gd [ySemi] := vt_sym (by decide) (by decide) (by decide)
theorem gK {s : Bs} (h : s ∈ kwds ++ bins) : Gd [s] := vt_kw h
theorem gd_wrap {b : Bool} {l : List Bs} (h : Gd l) (hn : l ≠ []) : Gd (wrapP b l) ∧ wrapP b l ≠ [] := by
  cases b with
  | false => exact ⟨h, hn⟩
  | true => exact ⟨(gLP.app h).app gRP, by simp [wrapP]⟩
theorem gd_expr (f : Bool) {d : Nat} {t : Nd} (h : WE d t) : ∀ r, Gd (tE f t r) ∧ tE f t r ≠ [] := by
  induction h with
  | int d n h0 h1 => intro r; rw [tE_eq]; exact gd_wrap (vt_dec (n := n.toNat) (by omega)) (by simp [bare])
  | bool d n hn =>
    intro r
    rw [tE_eq]
    refine gd_wrap ?_ (by simp [bare])
    rcases hn with rfl | rfl
    · exact gK (s := wFalse) (by decide)
    · exact gK (s := wTrue) (by decide)
  | var d s hs => intro r; rw [tE_eq]; exact gd_wrap (vt_nm hs) (by simp [bare])
  | name d s hs => intro r; rw [tE_eq]; exact gd_wrap (gK (List.mem_append_right _ hs)) (by simp [bare])
  | draw d x hx ih =>
    intro r
    rw [tE_eq]
    exact gd_wrap (l := [wDraw] ++ ([yLP] ++ tE f x 1 ++ [yRP])) ((gK (by decide)).app ((gLP.app (ih 1).1).app gRP)) (by simp)
  | un d s x hs hx ih =>
    intro r
    rw [tE_eq]
    refine gd_wrap (l := ob s :: tE f x (prec 17 s)) ?_ (by simp)
    rcases hs with rfl | rfl
    · exact .pre (.inr (.inr (by decide))) (by decide) (ih _).1 (ih _).2
    · exact .pre (.inr (.inr (by decide))) (by decide) (ih _).1 (ih _).2
  | bin d s x y hs hx hy i1 i2 =>
    intro r
    rw [tE_eq]
    exact gd_wrap (l := tE f x (if prec 18 s = 4 then 5 else prec 18 s) ++ ob s :: tE f y (prec 18 s + 1)) (.mid (i1 _).1 (i1 _).2 (vt_op hs) (i2 _).1 (i2 _).2) (by simp)
theorem gd_flat {f : Bool} : ∀ l : List Nd, (∀ t ∈ l, Gd (tS f t)) → Gd (l.map (tS f)).flatten
  | [], _ => .nil
  | x :: l, h => by
    rw [List.map_cons, List.flatten_cons]
    exact (h x (by simp)).app (gd_flat l fun t ht => h t (List.mem_cons_of_mem _ ht))
theorem gd_stm (f : Bool) {b : Bool} {d : Nat} {t : Nd} (h : WS b d t) : Gd (tS f t) := by
  induction h with
  | blk d l hl ih => rw [tS_eq]; exact (gLB.app (gd_flat l ih)).app gRB
  | asg d s x hs hx =>
    rw [tS_eq]
    exact Gd.mid (xs := [ob s]) (ys := tE f x 1 ++ [ySemi]) (vt_nm hs) (by simp) (.inr (.inr (by decide))) ((gd_expr f hx 1).1.app gSm) (by simp)
  | ite d c a b hc ha hb i1 i2 =>
    rw [tS_eq]
    have e : stF f 2 0 TY.eps [c, a, b] (List.map (tS f) [c, a, b]) = [wIf] ++ (tE f c 1 ++ (tS f a ++ (if tS f b = [yLB, yRB] then [] else [wElse] ++ tS f b))) := by
      simp [stF, kd, kdS]
    rw [e]
    refine (gK (by decide)).app ((gd_expr f hc 1).1.app (i1.app ?_))
    split
    · exact .nil
    · exact (gK (by decide)).app i2
  | whl d c a hc ha i1 =>
    rw [tS_eq]
    exact (gK (s := wWhile) (by decide)).app ((gd_expr f hc 1).1.app i1)
  | snd d n a b c h0 h1 ha hb hc =>
    rw [tS_eq]
    have e : stF f 4 n TY.eps [a, b, c] (List.map (tS f) [a, b, c]) = [wSend] ++ (tE f a 1 ++ ([yComma] ++ ([dec n] ++ ([yComma] ++ (tE f b 1 ++ ([yComma] ++ (tE f c 1 ++ [ySemi]))))))) := by
      simp [stF, kd, lst]
    rw [e]
    exact (gK (by decide)).app ((gd_expr f ha 1).1.app (gCm.app ((vt_dec (n := n.toNat) (by omega)).app (gCm.app ((gd_expr f hb 1).1.app (gCm.app ((gd_expr f hc 1).1.app gSm)))))))
  | tim d n h0 h1 => rw [tS_eq]; exact ((gK (s := wTimer) (by decide)).app (vt_dec (n := n.toNat) (by omega))).app gSm
  | can d n h0 h1 => rw [tS_eq]; exact ((gK (s := wCancel) (by decide)).app (vt_dec (n := n.toNat) (by omega))).app gSm
  | syn d => rw [tS_eq]; exact (gK (s := wSync) (by decide)).app gSm
  | rep d a b ha hb =>
    rw [tS_eq]
    have e : stF f 8 0 TY.eps [a, b] (List.map (tS f) [a, b]) = [wReply] ++ (tE f a 1 ++ ([yComma] ++ (tE f b 1 ++ [ySemi]))) := by
      simp [stF, lst]
    rw [e]
    exact (gK (by decide)).app ((gd_expr f ha 1).1.app (gCm.app ((gd_expr f hb 1).1.app gSm)))
  | fai d a ha =>
    rw [tS_eq]
    have e : stF f 9 0 TY.eps [a] (List.map (tS f) [a]) = [wFail] ++ (tE f a 1 ++ [ySemi]) := by
      simp [stF, lst]
    rw [e]
    exact (gK (by decide)).app ((gd_expr f ha 1).1.app gSm)
  | stp d => rw [tS_eq]; exact (gK (s := wStop) (by decide)).app gSm
theorem gd_hd (f : Bool) {h : Hd} (hh : HdOk h) : Gd (tH f h) := by
  obtain ⟨n, b⟩ := h
  obtain ⟨h4, d, _, hw⟩ := hh
  have h4 : n < 40 := h4
  have e : tH f (n, b) = [wOn] ++ ((if n = 0 then [wStart] else if n = 1 then [wRequest] else if 10 ≤ n then [wMessage] ++ [Go.Lib.decDigits (n - 10)] else [wTimer] ++ [Go.Lib.decDigits (n - 2)]) ++ tS f b) := rfl
  rw [e]
  refine (gK (by decide)).app (Gd.app ?_ (gd_stm f hw))
  split
  · exact gK (by decide)
  · split
    · exact gK (by decide)
    · split
      · exact (gK (by decide)).app (vt_dec (by omega))
      · exact (gK (by decide)).app (vt_dec (by omega))
theorem gd_tN : ∀ l : List Bs, (∀ s ∈ l, nmOk s = true) → Gd (tN l)
  | [], _ => .nil
  | [x], h => vt_nm (h x (by simp))
  | x :: y :: l, h => (vt_nm (h x (by simp))).app (gCm.app (gd_tN (y :: l) fun s hs => h s (List.mem_cons_of_mem _ hs)))
theorem gd_tD {w : Bs} (hw : w ∈ kwds ++ bins) {l : List Bs} (h : ∀ s ∈ l, nmOk s = true) : Gd (tD w l) := by
  unfold tD
  split
  · exact .nil
  · exact ((gK hw).app (gd_tN l h)).app gSm
theorem gd_on (f : Bool) : ∀ l : List Hd, (∀ h ∈ l, HdOk h) → Gd (l.flatMap (tH f))
  | [], _ => .nil
  | x :: l, h => by
    rw [List.flatMap_cons]
    exact (gd_hd f (h x (by simp))).app (gd_on f l fun y hy => h y (List.mem_cons_of_mem _ hy))
theorem gd_tU {u : Un} (h : WP u) : Gd (tU u) := ((gd_tD (by decide) fun s hs => h.names.nm s (by simp [hs])).app (gd_tD (by decide) fun s hs => h.names.nm s (by simp [hs]))).app (gd_on false _ h.hd)
theorem gd_tL {u : Un} (h : WP u) : Gd (tL u) := ((gd_tD (by decide) fun s hs => h.names.nm s (by simp [hs])).app (gd_tD (by decide) fun s hs => h.names.nm s (by simp [hs]))).app (gd_on true _ fun x hx => h.hd x (List.mem_reverse.1 hx))
/-- The canonical source of a program is parsed to it. -/
theorem parse_of {u : Un} {ts : List Bs} (hg : Gd ts) (hp : ∀ us e, IsE e → Mt ts us → ∃ F, prog F (us ++ [e]) = .ok u [e]) (hl : (joins [] ts).length ≤ 3000) : parse (joins [] ts) = .ok u := by
  obtain ⟨us, e, h1, h2, h3, h4⟩ := lex_joins hg.vt hg.ad.weak
  obtain ⟨F, hF⟩ := hp us e ⟨h3, h4⟩ h2
  have hgood := lex_good h1 (by omega)
  rw [parse, if_neg (by omega), h1]
  simp only
  rw [prog_fuel hgood hF (by simp)]
theorem print_parse {u : Un} (h : WP u) (hl : (print u).length ≤ 3000) : parse (print u) = .ok u := parse_of (gd_tU h) (fun _ _ he hm => prog_tU h he hm) hl
theorem loose_parse {u : Un} (h : WP u) (hl : (loose u).length ≤ 3000) : parse (loose u) = .ok u := parse_of (gd_tL h) (fun _ _ he hm => prog_tL h he hm) hl
end Go.Proofs.YtlfpaemfhanpiaaGreatDoor.PP

namespace Go.Proofs.YtlfpaemfhanpiaaGreatDoor.PP
open TY (Nd pick)
open PS PG

theorem dd_len : ∀ (k u : Nat), u < 10 ^ (k + 1) → (Go.Lib.decDigits u).length ≤ k + 1
  | 0, u, h => by
    rw [Go.Lib.decDigits, dif_pos (by omega)]
    simp
  | k + 1, u, h => by
    rw [Go.Lib.decDigits]
    split
    · simp
    · have := dd_len k (u / 10) (by rw [Nat.pow_succ] at h; omega)
      simp only [List.length_append, List.length_singleton]
      omega
def ef (L : List Int) (i : Nat) : Nat := min i L.length
theorem ef_up (L : List Int) (i : Nat) : ef L i ≤ ef L (i + 1) := by unfold ef; omega
theorem nx_ef {L : List Int} {i m : Nat} (h : nx L i m ≠ 0) : ef L (i + 1) = ef L i + 1 := by
  unfold nx at h
  unfold ef
  cases hz : L[i]? with
  | none => rw [hz] at h; exact absurd rfl h
  | some z =>
    have : i < L.length := by
      rcases Nat.lt_or_ge i L.length with h | h
      · exact h
      · rw [List.getElem?_eq_none h] at hz; cases hz
    omega
/-- What is built costs at most 24 for each number that is taken, and the base. -/
def Lt (L : List Int) (f : Nd → Nat → Prop) (base : Nat) (g : Gen) : Prop := ∀ i c, f (g i).1 c → c + 24 * ef L i ≤ 24 * ef L (g i).2 + base
def EC (t : Nd) (c : Nat) : Prop := ∃ full r, wt (tE full t r) = c
def SC (t : Nd) (c : Nat) : Prop := ∃ full, wt (tS full t) = c
theorem wrap_wt (b : Bool) (l : List Bs) : wt (wrapP b l) ≤ wt l + 4 := by
  unfold wrapP
  split
  · simp only [List.cons_append, wt_cons, wt_append, wt_nil]
    simp only [List.length_cons, List.length_nil]
    omega
  · omega
theorem wrap_leaf {full : Bool} {k : Int} {s : ByteArray} {r : Nat} {l : List Bs} (h : prec k s = 8) (hr : r ≤ 8) : wrapP (decide (prec k s < r) || (full && decide (prec k s < 8))) l = l := by
  rw [h]
  have : decide (8 < r) = false := decide_eq_false (by omega)
  rw [this]
  simp [wrapP]
/-- Costs of expressions, at a required precedence of at most 8. -/
def EC8 (t : Nd) (c : Nat) : Prop := ∃ full r, r ≤ 8 ∧ wt (tE full t r) = c
theorem ob_len (s : ByteArray) : (ob s).length = s.size := rfl
theorem pick_len {l : List ByteArray} {n m : Nat} (h : ∀ x ∈ l, x.size ≤ m) : (pick l n).size ≤ m := by
  unfold pick
  cases hx : l[n]? with
  | none => exact Nat.zero_le _
  | some x => exact h x (List.mem_of_getElem? hx)
theorem gI_wt {L : List Int} {sub : Gen} (hs : Lt L EC8 2 sub) (n i : Nat) (c : Nat) (h : EC8 (gI L sub n i).1 c) : c + 24 * ef L i ≤ 24 * ef L (gI L sub n i).2 + (if n = 0 then 2 else 26) := by
  obtain ⟨full, r, hr, rfl⟩ := h
  have up := ef_up L i
  have hb : 2 ≤ (if n = 0 then 2 else 26) := by split <;> omega
  unfold gI
  split
  · rw [tE_eq, wrap_leaf rfl hr]
    show wt [dec _] + _ ≤ 24 * ef L (i + 1) + _
    rw [wt_cons, wt_nil]
    by_cases hz : nx L i 8 = 0
    · rw [hz]
      have : (dec (pickI 0)).length = 1 := by
        show (Go.Lib.decDigits 0).length = 1
        rw [Go.Lib.decDigits, dif_pos (by omega)]
        rfl
      omega
    · have h1 := nx_ef hz
      have : (dec (pickI (nx L i 8))).length ≤ 10 := by
        refine dd_len 9 _ ?_
        have hx := nx_lt L i (m := 8) (by decide)
        generalize nx L i 8 = x at hx
        match x, hx with
        | 0, _ => decide
        | 1, _ => decide
        | 2, _ => decide
        | 3, _ => decide
        | 4, _ => decide
        | 5, _ => decide
        | 6, _ => decide
        | 7, _ => decide
      omega
  · rename_i hn
    have h26 : (if n = 0 then 2 else 26) = 26 := if_neg (by omega)
    rw [h26]
    split
    · rw [tE_eq, wrap_leaf rfl hr]
      show wt [ob _] + _ ≤ 24 * ef L (i + 1) + _
      rw [wt_cons, wt_nil, ob_len]
      have : (pick vars (nx L i 4)).size ≤ 10 := pick_len (m := 10) (by decide)
      omega
    · split
      · rw [tE_eq, wrap_leaf rfl hr]
        show wt [ob _] + _ ≤ 24 * ef L (i + 1) + _
        rw [wt_cons, wt_nil, ob_len]
        have : (pick TY.bNames (nx L i 9)).size ≤ 10 := pick_len (m := 10) (by decide)
        omega
      · split
        · unfold one
          rw [tE_eq, wrap_leaf rfl hr]
          show wt (wDraw :: yLP :: tE full (sub i).1 1 ++ [yRP]) + _ ≤ _
          have := hs i _ ⟨full, 1, by omega, rfl⟩
          simp only [List.cons_append, wt_cons, wt_append, wt_nil, List.length_cons, List.length_nil]
          show _ ≤ 24 * ef L (sub i).2 + 26
          omega
        · split
          · unfold one
            rw [tE_eq]
            have hw := wrap_wt (decide (prec 17 TY.sMinus < r) || (full && decide (prec 17 TY.sMinus < 8))) (bare 17 0 TY.sMinus ([(sub i).1].map (tE full)))
            have hbq : bare 17 0 TY.sMinus ([(sub i).1].map (tE full)) = [45] :: tE full (sub i).1 7 := rfl
            have := hs i _ ⟨full, 7, by omega, rfl⟩
            rw [hbq] at hw ⊢
            simp only [wt_cons, List.length_cons, List.length_nil] at hw
            show _ ≤ 24 * ef L (sub i).2 + 26
            omega
          · unfold two
            rw [tE_eq]
            obtain ⟨s, hsx⟩ : ∃ s, pick TY.arith (nx L i 4) = s := ⟨_, rfl⟩
            have hsl : s.size ≤ 1 := hsx ▸ pick_len (l := TY.arith) (m := 1) (by decide)
            rw [hsx]
            have hw := wrap_wt (decide (prec 18 s < r) || (full && decide (prec 18 s < 8))) (bare 18 0 s ([(sub (i + 1)).1, (sub (sub (i + 1)).2).1].map (tE full)))
            have hbq : bare 18 0 s ([(sub (i + 1)).1, (sub (sub (i + 1)).2).1].map (tE full)) = tE full (sub (i + 1)).1 (if prec 18 s = 4 then 5 else prec 18 s) ++ ob s :: tE full (sub (sub (i + 1)).2).1 (prec 18 s + 1) := rfl
            have hp : prec 18 s ≤ 6 := bprec_le s
            have h1 := hs (i + 1) _ ⟨full, (if prec 18 s = 4 then 5 else prec 18 s), by split <;> omega, rfl⟩
            have h2 := hs (sub (i + 1)).2 _ ⟨full, prec 18 s + 1, by omega, rfl⟩
            rw [hbq] at hw ⊢
            simp only [wt_append, wt_cons, ob_len] at hw
            show _ ≤ 24 * ef L (sub (sub (i + 1)).2).2 + 26
            omega
theorem none_wt (L : List Int) : Lt L EC8 2 none0 := by
  rintro i c ⟨full, r, hr, rfl⟩
  show wt (tE full (.mk 0 0 ⟨#[]⟩ []) r) + _ ≤ 24 * ef L i + 2
  rw [tE_eq, wrap_leaf rfl hr]
  show 1 + _ ≤ _
  omega
theorem genI_wt (L : List Int) : ∀ d, Lt L EC8 2 (genI L d)
  | 0 => fun i c h => by
    have h1 := gI_wt (none_wt L) _ _ c h
    have up := ef_up L i
    show _ ≤ 24 * ef L (gI L none0 (nx L i 12 % 6) (i + 1)).2 + 2
    by_cases hz : nx L i 12 % 6 = 0
    · rw [if_pos hz] at h1; omega
    · rw [if_neg hz] at h1
      have := nx_ef (L := L) (i := i) (m := 12) (by omega)
      omega
  | d + 1 => fun i c h => by
    have h1 := gI_wt (genI_wt L d) _ _ c h
    have up := ef_up L i
    show _ ≤ 24 * ef L (gI L (genI L d) (nx L i 12) (i + 1)).2 + 2
    by_cases hz : nx L i 12 = 0
    · rw [if_pos hz] at h1; omega
    · rw [if_neg hz] at h1
      have := nx_ef (L := L) (i := i) (m := 12) (by omega)
      omega
theorem gB_wt {L : List Int} {sub subI : Gen} (hs : Lt L EC8 6 sub) (hI : Lt L EC8 2 subI) (n i : Nat) (c : Nat) (h : EC8 (gB L sub subI n i).1 c) : c + 24 * ef L i ≤ 24 * ef L (gB L sub subI n i).2 + (if n = 0 then 6 else 30) := by
  obtain ⟨full, r, hr, rfl⟩ := h
  have up := ef_up L i
  unfold gB
  split
  · rw [tE_eq, wrap_leaf rfl hr]
    show wt [if (nx L i 2 : Int) = 0 then wFalse else wTrue] + _ ≤ 24 * ef L (i + 1) + _
    rw [wt_cons, wt_nil]
    have : (if (nx L i 2 : Int) = 0 then wFalse else wTrue).length ≤ 5 := by split <;> decide
    omega
  · rename_i hn
    split
    · unfold one
      rw [tE_eq]
      have hw := wrap_wt (decide (prec 17 TY.sNot < r) || (full && decide (prec 17 TY.sNot < 8))) (bare 17 0 TY.sNot ([(sub i).1].map (tE full)))
      have hbq : bare 17 0 TY.sNot ([(sub i).1].map (tE full)) = [33] :: tE full (sub i).1 3 := rfl
      have := hs i _ ⟨full, 3, by omega, rfl⟩
      rw [hbq] at hw ⊢
      simp only [wt_cons, List.length_cons, List.length_nil] at hw
      show _ ≤ 24 * ef L (sub i).2 + 30
      omega
    · have both : ∀ (g : Gen) (b : Nat) (hg : Lt L EC8 b g) (s : ByteArray), s.size ≤ 2 → b ≤ 6 → wt (tE full (two g 18 s (i + 1)).1 r) + 24 * ef L i ≤ 24 * ef L (two g 18 s (i + 1)).2 + 30 := fun g b hg s hsl hb6 => by
        unfold two
        rw [tE_eq]
        have hw := wrap_wt (decide (prec 18 s < r) || (full && decide (prec 18 s < 8))) (bare 18 0 s ([(g (i + 1)).1, (g (g (i + 1)).2).1].map (tE full)))
        have hbq : bare 18 0 s ([(g (i + 1)).1, (g (g (i + 1)).2).1].map (tE full)) = tE full (g (i + 1)).1 (if prec 18 s = 4 then 5 else prec 18 s) ++ ob s :: tE full (g (g (i + 1)).2).1 (prec 18 s + 1) := rfl
        have hp : prec 18 s ≤ 6 := bprec_le s
        have h1 := hg (i + 1) _ ⟨full, (if prec 18 s = 4 then 5 else prec 18 s), by split <;> omega, rfl⟩
        have h2 := hg (g (i + 1)).2 _ ⟨full, prec 18 s + 1, by omega, rfl⟩
        rw [hbq] at hw ⊢
        simp only [wt_append, wt_cons, ob_len] at hw
        show _ ≤ 24 * ef L (g (g (i + 1)).2).2 + 30
        omega
      split
      · exact both sub 6 hs _ (pick_len (l := TY.logic) (m := 2) (by decide)) (by omega)
      · exact both subI 2 hI _ (pick_len (l := TY.compar) (m := 2) (by decide)) (by omega)
theorem none_wt6 (L : List Int) : Lt L EC8 6 none0 := fun i c h => Nat.le_trans (none_wt L i c h) (by omega)
theorem genB_wt (L : List Int) : ∀ d, Lt L EC8 6 (genB L d)
  | 0 => fun i c h => by
    have h1 := gB_wt (none_wt6 L) (genI_wt L 0) _ _ c h
    have up := ef_up L i
    show _ ≤ 24 * ef L (gB L none0 (genI L 0) (nx L i 8 % 4) (i + 1)).2 + 6
    by_cases hz : nx L i 8 % 4 = 0
    · rw [if_pos hz] at h1; omega
    · rw [if_neg hz] at h1
      have := nx_ef (L := L) (i := i) (m := 8) (by omega)
      omega
  | d + 1 => fun i c h => by
    have h1 := gB_wt (genB_wt L d) (genI_wt L d) _ _ c h
    have up := ef_up L i
    show _ ≤ 24 * ef L (gB L (genB L d) (genI L d) (nx L i 8) (i + 1)).2 + 6
    by_cases hz : nx L i 8 = 0
    · rw [if_pos hz] at h1; omega
    · rw [if_neg hz] at h1
      have := nx_ef (L := L) (i := i) (m := 8) (by omega)
      omega
end Go.Proofs.YtlfpaemfhanpiaaGreatDoor.PP

namespace Go.Proofs.YtlfpaemfhanpiaaGreatDoor.PP
open TY (Nd pick)
open PS PG

theorem EC8.of (full : Bool) (t : Nd) (r : Nat) (h : r ≤ 8) : EC8 t (wt (tE full t r)) := ⟨full, r, h, rfl⟩
theorem asg_wt (L : List Int) (d i : Nat) (c : Nat) (h : SC (asg L d i).1 c) : c + 24 * ef L i ≤ 24 * ef L (asg L d i).2 + 8 := by
  obtain ⟨full, rfl⟩ := h
  unfold asg
  rw [tS_eq]
  have h1 := genI_wt L d (i + 1) _ (EC8.of full _ 1 (by omega))
  have up := ef_up L i
  have hb : stF full 1 0 (pick vars (nx L i 4)) [(genI L d (i + 1)).1] ([(genI L d (i + 1)).1].map (tS full)) = ob (pick vars (nx L i 4)) :: yAsg :: tE full (genI L d (i + 1)).1 1 ++ [ySemi] := rfl
  rw [hb]
  simp only [List.cons_append, wt_append, wt_cons, wt_nil, ob_len, List.length_cons, List.length_nil]
  show _ ≤ 24 * ef L (genI L d (i + 1)).2 + 8
  by_cases hz : nx L i 4 = 0
  · rw [hz]
    have : (pick vars 0).size = 1 := rfl
    omega
  · have := nx_ef hz
    have : (pick vars (nx L i 4)).size ≤ 3 := pick_len (m := 3) (by decide)
    omega
theorem dd_small {x : Nat} (h : x < 100) : (Go.Lib.decDigits x).length ≤ 2 := dd_len 1 x (by omega)
theorem dec_small {x : Nat} (h : x < 100) : (dec (x : Int)).length ≤ 2 := by
  show (Go.Lib.decDigits (x : Int).toNat).length ≤ 2
  rw [Int.toNat_natCast]
  exact dd_small h
theorem gS_wt {L : List Int} {sub : Gen} (hs : Lt L SC 4 sub) (n i : Nat) (c : Nat) (h : SC (gS L sub n i).1 c) : c + 24 * ef L i ≤ 24 * ef L (gS L sub n i).2 + (if n = 0 then 8 else 32) := by
  have up := ef_up L i
  unfold gS at h ⊢
  by_cases h3 : n < 3
  · rw [if_pos h3] at h ⊢
    have := asg_wt L 2 i c h
    have hb : 8 ≤ (if n = 0 then 8 else 32) := by split <;> omega
    omega
  rw [if_neg h3] at h ⊢
  rw [show (if n = 0 then 8 else 32) = 32 from if_neg (by omega)]
  have k1 : ∀ d j full, wt (tE full (genI L d j).1 1) + 24 * ef L j ≤ 24 * ef L (genI L d j).2 + 2 := fun d j full => genI_wt L d j _ (EC8.of full _ 1 (by omega))
  have k2 : ∀ d j full, wt (tE full (genB L d j).1 1) + 24 * ef L j ≤ 24 * ef L (genB L d j).2 + 6 := fun d j full => genB_wt L d j _ (EC8.of full _ 1 (by omega))
  have k3 : ∀ j full, wt (tS full (sub j).1) + 24 * ef L j ≤ 24 * ef L (sub j).2 + 4 := fun j full => hs j _ ⟨full, rfl⟩
  have small : ∀ {m j : Nat}, 0 < m → m ≤ 100 → (dec ((nx L j m : Nat) : Int)).length ≤ 2 := fun {m j} h0 hm => dec_small (by have := nx_lt L j h0; omega)
  by_cases h5 : n < 5
  · rw [if_pos h5] at h ⊢
    obtain ⟨full, rfl⟩ := h
    dsimp only
    rw [tS_eq]
    have a1 := k1 0 i full
    have a2 := k1 1 ((genI L 0 i).2 + 1) full
    have a3 := k1 1 (genI L 1 ((genI L 0 i).2 + 1)).2 full
    have u2 := ef_up L (genI L 0 i).2
    have sm := small (m := 4) (j := (genI L 0 i).2) (by omega) (by omega)
    generalize (genI L 1 (genI L 1 ((genI L 0 i).2 + 1)).2) = C at *
    generalize (genI L 1 ((genI L 0 i).2 + 1)) = B at *
    generalize (nx L (genI L 0 i).2 4) = x at *
    generalize (genI L 0 i) = A at *
    have hb : stF full 4 (x : Int) TY.eps [A.1, B.1, C.1] ([A.1, B.1, C.1].map (tS full)) = wSend :: tE full A.1 1 ++ yComma :: dec (x : Int) :: yComma :: (tE full B.1 1 ++ yComma :: tE full C.1 1) ++ [ySemi] := rfl
    rw [hb]
    simp only [List.cons_append, wt_append, wt_cons, wt_nil, List.length_cons, List.length_nil]
    omega
  rw [if_neg h5] at h ⊢
  by_cases h5 : n = 5
  · rw [if_pos h5] at h ⊢
    obtain ⟨full, rfl⟩ := h
    dsimp only
    rw [tS_eq]
    have sm := small (m := 3) (j := i) (by omega) (by omega)
    show wt [wTimer, dec _, ySemi] + _ ≤ _
    simp only [wt_cons, wt_nil, List.length_cons, List.length_nil]
    omega
  rw [if_neg h5] at h ⊢
  by_cases h6 : n = 6
  · rw [if_pos h6] at h ⊢
    obtain ⟨full, rfl⟩ := h
    dsimp only
    rw [tS_eq]
    have sm := small (m := 3) (j := i) (by omega) (by omega)
    show wt [wCancel, dec _, ySemi] + _ ≤ _
    simp only [wt_cons, wt_nil, List.length_cons, List.length_nil]
    omega
  rw [if_neg h6] at h ⊢
  by_cases h7 : n = 7
  · rw [if_pos h7] at h ⊢
    obtain ⟨full, rfl⟩ := h
    dsimp only
    rw [tS_eq]
    show wt [wSync, ySemi] + _ ≤ _
    simp only [wt_cons, wt_nil, List.length_cons, List.length_nil]
    omega
  rw [if_neg h7] at h ⊢
  by_cases h8 : n = 8
  · rw [if_pos h8] at h ⊢
    obtain ⟨full, rfl⟩ := h
    dsimp only
    rw [tS_eq]
    have a1 := k1 0 i full
    have a2 := k1 1 (genI L 0 i).2 full
    generalize (genI L 1 (genI L 0 i).2) = B at *
    generalize (genI L 0 i) = A at *
    have hb : stF full 8 0 TY.eps [A.1, B.1] ([A.1, B.1].map (tS full)) = wReply :: (tE full A.1 1 ++ yComma :: tE full B.1 1) ++ [ySemi] := rfl
    rw [hb]
    simp only [List.cons_append, wt_append, wt_cons, wt_nil, List.length_cons, List.length_nil]
    omega
  rw [if_neg h8] at h ⊢
  by_cases h9 : n = 9
  · rw [if_pos h9] at h ⊢
    obtain ⟨full, rfl⟩ := h
    dsimp only
    rw [tS_eq]
    have a1 := k1 1 i full
    generalize (genI L 1 i) = A at *
    have hb : stF full 9 0 TY.eps [A.1] ([A.1].map (tS full)) = wFail :: tE full A.1 1 ++ [ySemi] := rfl
    rw [hb]
    simp only [List.cons_append, wt_append, wt_cons, wt_nil, List.length_cons, List.length_nil]
    omega
  rw [if_neg h9] at h ⊢
  by_cases h10 : n = 10
  · rw [if_pos h10] at h ⊢
    by_cases hp : 0 < nx L i 3
    · rw [if_pos hp] at h ⊢
      have := asg_wt L 1 (i + 1) c h
      omega
    · rw [if_neg hp] at h ⊢
      obtain ⟨full, rfl⟩ := h
      dsimp only
      rw [tS_eq]
      show wt [wStop, ySemi] + _ ≤ _
      simp only [wt_cons, wt_nil, List.length_cons, List.length_nil]
      omega
  rw [if_neg h10] at h ⊢
  by_cases h11 : n = 11
  · rw [if_pos h11] at h ⊢
    obtain ⟨full, rfl⟩ := h
    dsimp only
    rw [tS_eq]
    have a1 := k2 1 i full
    have a2 := k3 (genB L 1 i).2 full
    generalize (sub (genB L 1 i).2) = B at *
    generalize (genB L 1 i) = A at *
    have hb : stF full 3 0 TY.eps [A.1, B.1] ([A.1, B.1].map (tS full)) = wWhile :: tE full A.1 1 ++ tS full B.1 := rfl
    rw [hb]
    simp only [List.cons_append, wt_append, wt_cons, List.length_cons, List.length_nil]
    omega
  rw [if_neg h11] at h ⊢
  dsimp only at h ⊢
  have els : ∀ (full : Bool) (A B C : Nd), wt (stF full 2 0 TY.eps [A, B, C] ([A, B, C].map (tS full))) ≤ 3 + wt (tE full A 1) + wt (tS full B) + 5 + wt (tS full C) := fun full A B C => by
    have hb : stF full 2 0 TY.eps [A, B, C] ([A, B, C].map (tS full)) = wIf :: tE full A 1 ++ tS full B ++ (if tS full C = [yLB, yRB] then [] else wElse :: tS full C) := rfl
    rw [hb]
    split <;> (simp only [List.cons_append, wt_append, wt_cons, wt_nil, List.length_cons, List.length_nil]; omega)
  have a1 := k2 2 i
  have a2 := k3 (genB L 2 i).2
  by_cases hp : nx L (sub (genB L 2 i).2).2 2 = 1
  · rw [if_pos hp] at h ⊢
    obtain ⟨full, rfl⟩ := h
    dsimp only
    rw [tS_eq]
    have a3 := k3 ((sub (genB L 2 i).2).2 + 1) full
    have u2 := ef_up L (sub (genB L 2 i).2).2
    have a1 := a1 full
    have a2 := a2 full
    generalize (sub ((sub (genB L 2 i).2).2 + 1)) = C at *
    generalize (sub (genB L 2 i).2) = B at *
    generalize (genB L 2 i) = A at *
    have := els full A.1 B.1 C.1
    omega
  · rw [if_neg hp] at h ⊢
    obtain ⟨full, rfl⟩ := h
    dsimp only
    rw [tS_eq]
    have u2 := ef_up L (sub (genB L 2 i).2).2
    have a1 := a1 full
    have a2 := a2 full
    have e4 : wt (tS full (.mk 11 0 TY.eps [])) = 4 := by rw [tS_eq]; rfl
    generalize (sub (genB L 2 i).2) = B at *
    generalize (genB L 2 i) = A at *
    have := els full A.1 B.1 (.mk 11 0 TY.eps [])
    omega
theorem many_wt {L : List Int} {g : Gen} {b : Nat} (hg : Lt L SC b g) (full : Bool) : ∀ m i, ((many g m i).1.map fun t => wt (tS full t)).sum + 24 * ef L i ≤ 24 * ef L (many g m i).2 + m * b
  | 0, i => by simp [many]
  | m + 1, i => by
    have h1 := hg i _ ⟨full, rfl⟩
    have h2 := many_wt hg full m (g i).2
    show ((((g i).1 :: (many g m (g i).2).1).map fun t => wt (tS full t)).sum) + _ ≤ 24 * ef L (many g m (g i).2).2 + _
    have h3 : (m + 1) * b = m * b + b := Nat.succ_mul m b
    rw [List.map_cons, List.sum_cons]
    omega
theorem flat_wt (full : Bool) (l : List Nd) : wt ((l.map (tS full)).flatten) = (l.map fun t => wt (tS full t)).sum := by
  induction l with
  | nil => rfl
  | cons x l ih => rw [List.map_cons, List.flatten_cons, wt_append, ih, List.map_cons, List.sum_cons]
theorem blockG_wt {L : List Int} {g : Gen} (hg : Lt L SC 8 g) {most : Nat} (hm : most ≤ 3) : Lt L SC 4 (blockG L g most) := by
  rintro i c ⟨full, rfl⟩
  unfold blockG
  dsimp only
  rw [tS_eq]
  have up := ef_up L i
  have hn := nx_lt L i (m := most + 1) (by omega)
  have h1 := many_wt hg full (nx L i (most + 1)) (i + 1)
  have hz : nx L i (most + 1) ≠ 0 → ef L (i + 1) = ef L i + 1 := nx_ef
  generalize nx L i (most + 1) = m at *
  show wt (yLB :: ((many g m (i + 1)).1.map (tS full)).flatten ++ [yRB]) + _ ≤ _
  simp only [List.cons_append, wt_append, wt_cons, wt_nil, List.length_cons, List.length_nil, flat_wt]
  by_cases h0 : m = 0
  · subst h0
    omega
  · have := hz h0
    omega
theorem none_wtS (L : List Int) : Lt L SC 4 noneB := by
  rintro i c ⟨full, rfl⟩
  show wt (tS full (.mk 11 0 ⟨#[]⟩ [])) + _ ≤ 24 * ef L i + 4
  rw [tS_eq]
  show 4 + _ ≤ _
  omega
theorem genS_wt (L : List Int) : ∀ d, Lt L SC 8 (genS L d)
  | 0 => fun i c h => by
    have h1 := gS_wt (none_wtS L) _ _ c h
    have up := ef_up L i
    show _ ≤ 24 * ef L (gS L noneB (nx L i 14 % 11) (i + 1)).2 + 8
    by_cases hz : nx L i 14 % 11 = 0
    · rw [if_pos hz] at h1; omega
    · rw [if_neg hz] at h1
      have := nx_ef (L := L) (i := i) (m := 14) (by omega)
      omega
  | d + 1 => fun i c h => by
    have h1 := gS_wt (blockG_wt (genS_wt L d) (by omega)) _ _ c h
    have up := ef_up L i
    show _ ≤ 24 * ef L (gS L (blockG L (genS L d) 2) (nx L i 14) (i + 1)).2 + 8
    by_cases hz : nx L i 14 = 0
    · rw [if_pos hz] at h1; omega
    · rw [if_neg hz] at h1
      have := nx_ef (L := L) (i := i) (m := 14) (by omega)
      omega
theorem tH_wt (full : Bool) (n : Nat) (hn : n < 40) (t : Nd) : wt (tH full (n, t)) ≤ 14 + wt (tS full t) := by
  unfold tH
  dsimp only
  split
  · simp only [List.cons_append, wt_append, wt_cons, wt_nil, List.length_cons, List.length_nil]
    omega
  · split
    · simp only [List.cons_append, wt_append, wt_cons, wt_nil, List.length_cons, List.length_nil]
      omega
    · split
      · have := dd_small (x := n - 10) (by omega)
        simp only [List.cons_append, wt_append, wt_cons, wt_nil, List.length_cons, List.length_nil]
        omega
      · have := dd_small (x := n - 2) (by omega)
        simp only [List.cons_append, wt_append, wt_cons, wt_nil, List.length_cons, List.length_nil]
        omega
theorem hnumG (L : List Int) (p h : Nat) : ([0, 1, 2 + nx L (p + 1) 8, 10 + nx L (p + 2) 30] : List Nat)[h]?.getD 0 < 40 := by
  have h1 := nx_lt L (p + 1) (m := 8) (by decide)
  have h2 := nx_lt L (p + 2) (m := 30) (by decide)
  match h with
  | 0 => show 0 < 40; decide
  | 1 => show 1 < 40; decide
  | 2 => show 2 + _ < 40; omega
  | 3 => show 10 + _ < 40; omega
  | h + 4 => show 0 < 40; decide
theorem onG_wt (L : List Int) (full : Bool) : ∀ q h p, ((onG L q h p).map fun x => wt (tH full x)).sum + 24 * ef L p ≤ 24 * L.length
  | 0, h, p => by
    show 0 + _ ≤ _
    unfold ef
    omega
  | q + 1, h, p => by
    unfold onG
    by_cases hp : 0 < nx L p 5
    · rw [if_pos hp]
      dsimp only
      have e1 := nx_ef (L := L) (i := p) (m := 5) (by omega)
      have e2 := ef_up L (p + 1)
      have e3 : ef L (p + 1 + 1) ≤ ef L (p + 3) := ef_up L (p + 1 + 1)
      have hb := blockG_wt (genS_wt L 2) (most := 3) (by omega) (p + 3) _ ⟨full, rfl⟩
      have hr := onG_wt L full q (h + 1) (blockG L (genS L 2) 3 (p + 3)).2
      have hn := tH_wt full _ (hnumG L p h) (blockG L (genS L 2) 3 (p + 3)).1
      rw [List.map_cons, List.sum_cons]
      omega
    · rw [if_neg hp]
      have hr := onG_wt L full q (h + 1) (p + 1)
      have e2 := ef_up L p
      omega
theorem flatH_wt (full : Bool) (l : List Hd) : wt (l.flatMap (tH full)) = (l.map fun t => wt (tH full t)).sum := by
  induction l with
  | nil => rfl
  | cons x l ih => rw [List.flatMap_cons, wt_append, ih, List.map_cons, List.sum_cons]
theorem unit_wt (zs : List Int) : wt (tU (unit zs)) ≤ 2000 := by
  have h := onG_wt (zs.take 70) false 4 0 0
  have hl : (zs.take 70).length ≤ 70 := by rw [List.length_take]; omega
  unfold tU
  rw [wt_append, wt_append, flatH_wt]
  have h1 : wt (tD wDurable (unit zs).dur) = 18 := rfl
  have h2 : wt (tD wVolatile (unit zs).vol) = 18 := rfl
  rw [h1, h2]
  show 18 + 18 + ((onG (zs.take 70) 4 0 0).map fun t => wt (tH false t)).sum ≤ 2000
  omega
theorem print_len (zs : List Int) : (print (unit zs)).length ≤ 2000 := by
  have h1 := joins_len [] (tU (unit zs))
  have h2 := unit_wt zs
  show (joins [] (tU (unit zs))).length ≤ 2000
  simp only [List.length_nil] at h1
  omega
theorem loose_wt (zs : List Int) : wt (tL (unit zs)) ≤ 2000 := by
  have h := onG_wt (zs.take 70) true 4 0 0
  have hl : (zs.take 70).length ≤ 70 := by rw [List.length_take]; omega
  unfold tL
  rw [wt_append, wt_append, flatH_wt, List.map_reverse, List.sum_reverse]
  have h1 : wt (tD wDurable (unit zs).dur) = 18 := rfl
  have h2 : wt (tD wVolatile (unit zs).vol) = 18 := rfl
  rw [h1, h2]
  show 18 + 18 + ((onG (zs.take 70) 4 0 0).map fun t => wt (tH true t)).sum ≤ 2000
  omega
end Go.Proofs.YtlfpaemfhanpiaaGreatDoor.PP
