/-
  The printed tokens of a statement are parsed to it. Plain mathematics.
  The printed tokens of a program are parsed to it. Plain mathematics.
  The printed tokens of a program are parsed to it, whole. Plain mathematics.
  Generated programs are programs that the parser gives. Plain mathematics.
  The joint of tokens is lexed to these tokens. Plain mathematics.
-/
import Derived.Test.YtlfpaemfhanpiaaGreatDoorK12
import Derived.Test.YtlfpaemfhanpiaaGreatDoorK2

namespace Go.Proofs.YtlfpaemfhanpiaaGreatDoor.PP
open TY (Nd)
open PS
open LX (Tok)

def ParS (m : Ms) (lv : Nat) (ts : List Tok) (x : Nd) (r : List Tok) : Prop := ∃ F, ps (pe F (.ex 1)) F m lv ts = .ok x r
theorem ParS.at_ {m : Ms} {lv : Nat} {ts r : List Tok} {x : Nd} (h : ParS m lv ts x r) : ∃ F, ∀ G G', F ≤ G → F ≤ G' → ps (pe G (.ex 1)) G' m lv ts = .ok x r := by
  obtain ⟨F, h⟩ := h
  exact ⟨F, fun G G' hG hG' => (ps_le (fun lv ts => pe_le hG _ lv ts) hG' m lv ts).ok h⟩
theorem ParS.mk {m : Ms} {lv : Nat} {ts r : List Tok} {x : Nd} (h : ∃ F, ∀ G, F ≤ G → stepS (pe (G + 1) (.ex 1)) (ps (pe (G + 1) (.ex 1)) G) m lv ts = .ok x r) : ParS m lv ts x r := by
  obtain ⟨F, h⟩ := h
  exact ⟨F + 1, h F (Nat.le_refl _)⟩
theorem must_ok {s : Bs} {t : Tok} {u : List Tok} (h : IsT t s) : must s (t :: u) = .ok () u := if_pos h.1
theorem numb_ok {n : Int} {lim : Nat} {t : Tok} {u : List Tok} (h : IsT t (dec n)) (h0 : 0 ≤ n) (h1 : n < lim) (h2 : lim ≤ 1000) : numb lim (t :: u) = .ok n.toNat u := by
  obtain ⟨_, hk, hn⟩ := h
  obtain ⟨d1, d2⟩ := dec_tok (n := n.toNat) (by omega)
  have hk : t.kind = 2 := hk.trans d1
  have hn : t.num = n.toNat := hn.trans d2
  show (if t.kind = 2 then _ else _) = _
  rw [if_pos hk, hn, if_neg (by omega)]
theorem stop1 {t : Tok} {s : Bs} (h : IsT t s) (hs : s = ySemi ∨ s = yComma ∨ s = yLB) : Stop 1 t := by
  have ht := h.1
  rcases hs with rfl | rfl | rfl
  all_goals
    refine ⟨fun p _ => ?_, fun _ => by rw [ht]; decide⟩
    rw [ht, opsOf]
    repeat' split
    all_goals decide
/-- An expression ahead of a token that ends it. -/
theorem we1 {full : Bool} {e lv : Nat} {t : Nd} {us rest : List Tok} {t0 : Tok} {s : Bs} (h : WE e t) (hm : Mt (tE full t 1) us) (hlv : lv + 2 * e ≤ 20) (h0 : IsT t0 s) (hs : s = ySemi ∨ s = yComma ∨ s = yLB) : ∃ F, ∀ G, F ≤ G → pe G (.ex 1) lv (us ++ t0 :: rest) = .ok t (t0 :: rest) :=
  (((we_parse full h).2 lv 1 us t0 rest hm hlv (by omega)).2.1 1 (by omega) (by omega) (stop1 h0 hs)).at_
theorem isName_of {s : ByteArray} {t : Tok} (h : nmOk (ob s) = true) (ht : IsT t (ob s)) : isName t = true := by
  unfold isName
  rw [ht.1, ht.2.1]
  unfold nmOk at h
  rw [Bool.and_eq_true] at h
  exact h.1
theorem bs_ne {t : Tok} {x y : Bs} (h : IsT t x) (hn : x ≠ y) : ¬ t.text = y := fun e => hn (h.1 ▸ e)
def StP (full : Bool) (b : Bool) (d : Nat) (t : Nd) : Prop := ∀ (lv : Nat) (us : List Tok) (t0 : Tok) (rest : List Tok), Mt (tS full t) us → lv + d + 8 ≤ 20 → (b = false → t0.text ≠ wElse → ParS .st lv (us ++ t0 :: rest) t (t0 :: rest)) ∧ (b = true → ParS .bl lv (us ++ t0 :: rest) t (t0 :: rest))
theorem sc_asg (full : Bool) (d : Nat) (s : ByteArray) (x : Nd) (hs : nmOk (ob s) = true) (hx : WE 4 x) : StP full false d (.mk 1 0 s [x]) := by
  intro lv us t0 rest hm hlv
  refine ⟨fun _ he => ?_, fun h => (by cases h)⟩
  rw [tS_eq] at hm
  have hm : Mt (ob s :: yAsg :: (tE full x 1 ++ [ySemi])) us := hm
  obtain ⟨a, v, rfl, ha, hm⟩ := hm.uncons
  obtain ⟨b, v, rfl, hb, hm⟩ := hm.uncons
  obtain ⟨v1, v2, rfl, h1, h2⟩ := hm.app
  obtain ⟨z, rfl, hz⟩ := h2.one
  obtain ⟨F, hF⟩ := we1 (lv := lv) (rest := t0 :: rest) hx h1 (by omega) hz (.inl rfl)
  refine .mk ⟨F, fun G hG => ?_⟩
  have k : ∀ y, nmOk y = false → ¬ a.text = y := fun y hy => bs_ne ha (nm_text hs hy)
  show stm _ _ lv (a :: b :: (v1 ++ [z]) ++ t0 :: rest) = _
  rw [List.cons_append, List.cons_append, List.append_assoc]
  rw [stm, if_neg (k _ (by decide)), if_neg (k _ (by decide)), if_neg (k _ (by decide)), if_neg (k _ (by decide)), if_neg (k _ (by decide)), if_neg (k _ (by decide)), if_neg (k _ (by decide)), if_neg (k _ (by decide)), if_neg (k _ (by decide))]
  rw [asgn, if_pos (isName_of hs ha), must_ok hb, PR.bind_ok]
  show ((pe (G + 1) (.ex 1) lv (v1 ++ z :: t0 :: rest)).bind _) = _
  rw [hF _ (by omega), PR.bind_ok, semi, must_ok hz, PR.bind_ok, ha.1, bs_ob]
theorem sc_tim (full : Bool) (d : Nat) (k : Int) (w : Bs) (hk : (k = 5 ∧ w = wTimer) ∨ (k = 6 ∧ w = wCancel)) (n : Int) (h0 : 0 ≤ n) (h1 : n < 8) : StP full false d (.mk k n TY.eps []) := by
  intro lv us t0 rest hm hlv
  refine ⟨fun _ he => ?_, fun h => (by cases h)⟩
  rw [tS_eq] at hm
  have hm : Mt [w, dec n, ySemi] us := by
    rcases hk with ⟨rfl, rfl⟩ | ⟨rfl, rfl⟩ <;> exact hm
  obtain ⟨a, b, z, rfl, ha, hb, hz⟩ := hm.three
  refine .mk ⟨0, fun G hG => ?_⟩
  show stm _ _ lv (a :: b :: z :: t0 :: rest) = _
  rcases hk with ⟨rfl, rfl⟩ | ⟨rfl, rfl⟩
  · have k : ∀ y, wTimer ≠ y → ¬ a.text = y := fun y hy => bs_ne ha hy
    rw [stm, if_neg (k _ (by decide)), if_neg (k _ (by decide)), if_neg (k _ (by decide)), if_pos ha.1, pTimer, numb_ok (lim := 8) hb h0 h1 (by decide), PR.bind_ok, semi, must_ok hz, PR.bind_ok, Int.toNat_of_nonneg h0]
    rfl
  · have k : ∀ y, wCancel ≠ y → ¬ a.text = y := fun y hy => bs_ne ha hy
    rw [stm, if_neg (k _ (by decide)), if_neg (k _ (by decide)), if_neg (k _ (by decide)), if_neg (k _ (by decide)), if_pos ha.1, pTimer, numb_ok (lim := 8) hb h0 h1 (by decide), PR.bind_ok, semi, must_ok hz, PR.bind_ok, Int.toNat_of_nonneg h0]
    rfl
theorem sc_sim (full : Bool) (d : Nat) (k : Int) (w : Bs) (hk : (k = 7 ∧ w = wSync) ∨ (k = 10 ∧ w = wStop)) : StP full false d (.mk k 0 TY.eps []) := by
  intro lv us t0 rest hm hlv
  refine ⟨fun _ he => ?_, fun h => (by cases h)⟩
  rw [tS_eq] at hm
  have hm : Mt [w, ySemi] us := by
    rcases hk with ⟨rfl, rfl⟩ | ⟨rfl, rfl⟩ <;> exact hm
  obtain ⟨a, z, rfl, ha, hz⟩ := hm.two
  refine .mk ⟨0, fun G hG => ?_⟩
  show stm _ _ lv (a :: z :: t0 :: rest) = _
  rcases hk with ⟨rfl, rfl⟩ | ⟨rfl, rfl⟩
  · have k : ∀ y, wSync ≠ y → ¬ a.text = y := fun y hy => bs_ne ha hy
    rw [stm, if_neg (k _ (by decide)), if_neg (k _ (by decide)), if_neg (k _ (by decide)), if_neg (k _ (by decide)), if_neg (k _ (by decide)), if_pos ha.1, pSimple, semi, must_ok hz, PR.bind_ok]
    rfl
  · have k : ∀ y, wStop ≠ y → ¬ a.text = y := fun y hy => bs_ne ha hy
    rw [stm, if_neg (k _ (by decide)), if_neg (k _ (by decide)), if_neg (k _ (by decide)), if_neg (k _ (by decide)), if_neg (k _ (by decide)), if_neg (k _ (by decide)), if_pos ha.1, pSimple, semi, must_ok hz, PR.bind_ok]
    rfl
theorem sc_fai (full : Bool) (d : Nat) (x : Nd) (hx : WE 4 x) : StP full false d (.mk 9 0 TY.eps [x]) := by
  intro lv us t0 rest hm hlv
  refine ⟨fun _ he => ?_, fun h => (by cases h)⟩
  rw [tS_eq] at hm
  have hm : Mt (wFail :: (tE full x 1 ++ [ySemi])) us := hm
  obtain ⟨a, v, rfl, ha, hm⟩ := hm.uncons
  obtain ⟨v1, v2, rfl, h1, h2⟩ := hm.app
  obtain ⟨z, rfl, hz⟩ := h2.one
  obtain ⟨F, hF⟩ := we1 (lv := lv) (rest := t0 :: rest) hx h1 (by omega) hz (.inl rfl)
  refine .mk ⟨F, fun G hG => ?_⟩
  have k : ∀ y, wFail ≠ y → ¬ a.text = y := fun y hy => bs_ne ha hy
  show stm _ _ lv (a :: (v1 ++ [z]) ++ t0 :: rest) = _
  rw [List.cons_append, List.append_assoc]
  rw [stm, if_neg (k _ (by decide)), if_neg (k _ (by decide)), if_neg (k _ (by decide)), if_neg (k _ (by decide)), if_neg (k _ (by decide)), if_neg (k _ (by decide)), if_neg (k _ (by decide)), if_neg (k _ (by decide)), if_pos ha.1, pFail]
  show ((pe (G + 1) (.ex 1) lv (v1 ++ z :: t0 :: rest)).bind _) = _
  rw [hF _ (by omega), PR.bind_ok, semi, must_ok hz, PR.bind_ok]
  rfl
theorem sc_rep (full : Bool) (d : Nat) (x y : Nd) (hx : WE 4 x) (hy : WE 4 y) : StP full false d (.mk 8 0 TY.eps [x, y]) := by
  intro lv us t0 rest hm hlv
  refine ⟨fun _ he => ?_, fun h => (by cases h)⟩
  rw [tS_eq] at hm
  have hm : Mt (wReply :: ((tE full x 1 ++ yComma :: tE full y 1) ++ [ySemi])) us := hm
  obtain ⟨a, v, rfl, ha, hm⟩ := hm.uncons
  obtain ⟨v0, v2, rfl, h1, h2⟩ := hm.app
  obtain ⟨z, rfl, hz⟩ := h2.one
  obtain ⟨v1, v3, rfl, h5, h3⟩ := h1.app
  obtain ⟨c, v4, rfl, hc, h4⟩ := h3.uncons
  obtain ⟨F1, hF1⟩ := we1 (lv := lv) (rest := v4 ++ z :: t0 :: rest) hx h5 (by omega) hc (.inr (.inl rfl))
  obtain ⟨F2, hF2⟩ := we1 (lv := lv) (rest := t0 :: rest) hy h4 (by omega) hz (.inl rfl)
  refine .mk ⟨F1 + F2, fun G hG => ?_⟩
  have k : ∀ y, wReply ≠ y → ¬ a.text = y := fun y hy => bs_ne ha hy
  show stm _ _ lv (a :: (v1 ++ c :: v4 ++ [z]) ++ t0 :: rest) = _
  rw [show a :: (v1 ++ c :: v4 ++ [z]) ++ t0 :: rest = a :: (v1 ++ c :: (v4 ++ z :: t0 :: rest)) by simp]
  rw [stm, if_neg (k _ (by decide)), if_neg (k _ (by decide)), if_neg (k _ (by decide)), if_neg (k _ (by decide)), if_neg (k _ (by decide)), if_neg (k _ (by decide)), if_neg (k _ (by decide)), if_pos ha.1, pReply]
  rw [hF1 _ (by omega), PR.bind_ok, must_ok hc, PR.bind_ok, hF2 _ (by omega), PR.bind_ok, semi, must_ok hz, PR.bind_ok]
  rfl
theorem sc_snd (full : Bool) (d : Nat) (n : Int) (x y w : Nd) (h0 : 0 ≤ n) (h1 : n < 30) (hx : WE 4 x) (hy : WE 4 y) (hw : WE 4 w) : StP full false d (.mk 4 n TY.eps [x, y, w]) := by
  intro lv us t0 rest hm hlv
  refine ⟨fun _ he => ?_, fun h => (by cases h)⟩
  rw [tS_eq] at hm
  have hm : Mt (wSend :: (tE full x 1 ++ yComma :: dec n :: yComma :: (tE full y 1 ++ yComma :: (tE full w 1 ++ [ySemi])))) us := by
    have e : stF full 4 n TY.eps [x, y, w] (List.map (tS full) [x, y, w]) = wSend :: (tE full x 1 ++ yComma :: dec n :: yComma :: (tE full y 1 ++ yComma :: (tE full w 1 ++ [ySemi]))) := by
      simp [stF, kd, lst]
    rwa [e] at hm
  obtain ⟨a, v, rfl, ha, hm⟩ := hm.uncons
  obtain ⟨v1, v2, rfl, k1, hm⟩ := hm.app
  obtain ⟨c1, v3, rfl, hc1, hm⟩ := hm.uncons
  obtain ⟨q, v4, rfl, hq, hm⟩ := hm.uncons
  obtain ⟨c2, v5, rfl, hc2, hm⟩ := hm.uncons
  obtain ⟨v6, v7, rfl, k2, hm⟩ := hm.app
  obtain ⟨c3, v8, rfl, hc3, hm⟩ := hm.uncons
  obtain ⟨v9, v10, rfl, k3, hm⟩ := hm.app
  obtain ⟨z, rfl, hz⟩ := hm.one
  obtain ⟨F1, hF1⟩ := we1 (lv := lv) (rest := q :: c2 :: (v6 ++ c3 :: (v9 ++ z :: t0 :: rest))) hx k1 (by omega) hc1 (.inr (.inl rfl))
  obtain ⟨F2, hF2⟩ := we1 (lv := lv) (rest := v9 ++ z :: t0 :: rest) hy k2 (by omega) hc3 (.inr (.inl rfl))
  obtain ⟨F3, hF3⟩ := we1 (lv := lv) (rest := t0 :: rest) hw k3 (by omega) hz (.inl rfl)
  refine .mk ⟨F1 + F2 + F3, fun G hG => ?_⟩
  have k : ∀ y, wSend ≠ y → ¬ a.text = y := fun y hy => bs_ne ha hy
  rw [show a :: (v1 ++ c1 :: q :: c2 :: (v6 ++ c3 :: (v9 ++ [z]))) ++ t0 :: rest = a :: (v1 ++ c1 :: q :: c2 :: (v6 ++ c3 :: (v9 ++ z :: t0 :: rest))) by simp]
  show stm _ _ lv (a :: _) = _
  rw [stm, if_neg (k _ (by decide)), if_neg (k _ (by decide)), if_pos ha.1, pSend]
  rw [hF1 _ (by omega), PR.bind_ok, must_ok hc1, PR.bind_ok, numb_ok (lim := 30) hq h0 h1 (by decide), PR.bind_ok, must_ok hc2, PR.bind_ok, hF2 _ (by omega), PR.bind_ok, must_ok hc3, PR.bind_ok, hF3 _ (by omega), PR.bind_ok, semi, must_ok hz, PR.bind_ok, Int.toNat_of_nonneg h0]
  rfl
theorem sc_whl (full : Bool) (d : Nat) (c y : Nd) (hc : WE 4 c) (hy : WS true d y) (hS : StP full true d y) : StP full false d (.mk 3 0 TY.eps [c, y]) := by
  intro lv us t0 rest hm hlv
  refine ⟨fun _ he => ?_, fun h => (by cases h)⟩
  rw [tS_eq] at hm
  obtain ⟨e, l, hl, rfl⟩ : ∃ e l, (∀ t ∈ l, WS false e t) ∧ y = .mk 11 0 TY.eps l := by
    cases hy with
    | blk e l hl => exact ⟨e, l, hl, rfl⟩
  have hm : Mt (wWhile :: (tE full c 1 ++ tS full (.mk 11 0 TY.eps l))) us := hm
  obtain ⟨a, v, rfl, ha, hm⟩ := hm.uncons
  obtain ⟨v1, v2, rfl, h1, h2⟩ := hm.app
  have h2' := h2
  rw [tS_eq] at h2'
  obtain ⟨z, v3, rfl, hz, _⟩ := Mt.uncons (show Mt (yLB :: ((l.map (tS full)).flatten ++ [yRB])) v2 from h2')
  obtain ⟨F1, hF1⟩ := we1 (lv := lv) (rest := v3 ++ t0 :: rest) hc h1 (by omega) hz (.inr (.inr rfl))
  obtain ⟨F2, hF2⟩ := ((hS lv (z :: v3) t0 rest h2 hlv).2 rfl).at_
  refine .mk ⟨F1 + F2, fun G hG => ?_⟩
  have k : ∀ y, wWhile ≠ y → ¬ a.text = y := fun y hy => bs_ne ha hy
  rw [show a :: (v1 ++ z :: v3) ++ t0 :: rest = a :: (v1 ++ z :: (v3 ++ t0 :: rest)) by simp]
  show stm _ _ lv (a :: _) = _
  rw [stm, if_neg (k _ (by decide)), if_pos ha.1, pWhile, hF1 _ (by omega), PR.bind_ok]
  rw [show z :: (v3 ++ t0 :: rest) = z :: v3 ++ t0 :: rest from rfl, hF2 _ _ (by omega) (by omega), PR.bind_ok]
  rfl
theorem sc_ite (full : Bool) (d : Nat) (c y w : Nd) (hc : WE 4 c) (hy : WS true d y) (hw : WS true d w) (hS : StP full true d y) (hT : StP full true d w) : StP full false d (.mk 2 0 TY.eps [c, y, w]) := by
  intro lv us t0 rest hm hlv
  refine ⟨fun _ he => ?_, fun h => (by cases h)⟩
  rw [tS_eq] at hm
  obtain ⟨e, l, hl, rfl⟩ : ∃ e l, (∀ t ∈ l, WS false e t) ∧ y = .mk 11 0 TY.eps l := by
    cases hy with
    | blk e l hl => exact ⟨e, l, hl, rfl⟩
  obtain ⟨e', l', hl', rfl⟩ : ∃ e l, (∀ t ∈ l, WS false e t) ∧ w = .mk 11 0 TY.eps l := by
    cases hw with
    | blk e l hl => exact ⟨e, l, hl, rfl⟩
  by_cases h0 : l' = []
  · subst h0
    have hm : Mt (wIf :: (tE full c 1 ++ tS full (.mk 11 0 TY.eps l))) us := by
      have e : stF full 2 0 TY.eps [c, .mk 11 0 TY.eps l, .mk 11 0 TY.eps []] (List.map (tS full) [c, .mk 11 0 TY.eps l, .mk 11 0 TY.eps []]) = wIf :: (tE full c 1 ++ tS full (.mk 11 0 TY.eps l)) := by
        have h2 := (blk_empty full hl').2 rfl
        simp [stF, kd, kdS, h2]
      rwa [e] at hm
    obtain ⟨a, v, rfl, ha, hm⟩ := hm.uncons
    obtain ⟨v1, v2, rfl, h1, h2⟩ := hm.app
    have h2' := h2
    rw [tS_eq] at h2'
    obtain ⟨z, v3, rfl, hz, _⟩ := Mt.uncons (show Mt (yLB :: ((l.map (tS full)).flatten ++ [yRB])) v2 from h2')
    obtain ⟨F1, hF1⟩ := we1 (lv := lv) (rest := v3 ++ t0 :: rest) hc h1 (by omega) hz (.inr (.inr rfl))
    obtain ⟨F2, hF2⟩ := ((hS lv (z :: v3) t0 rest h2 hlv).2 rfl).at_
    refine .mk ⟨F1 + F2, fun G hG => ?_⟩
    rw [show a :: (v1 ++ z :: v3) ++ t0 :: rest = a :: (v1 ++ z :: (v3 ++ t0 :: rest)) by simp]
    show stm _ _ lv (a :: _) = _
    rw [stm, if_pos ha.1, pIf, hF1 _ (by omega), PR.bind_ok]
    rw [show z :: (v3 ++ t0 :: rest) = z :: v3 ++ t0 :: rest from rfl, hF2 _ _ (by omega) (by omega), PR.bind_ok]
    show (if t0.text = wElse then _ else _) = _
    rw [if_neg he]
    rfl
  · have hm : Mt (wIf :: (tE full c 1 ++ (tS full (.mk 11 0 TY.eps l) ++ wElse :: tS full (.mk 11 0 TY.eps l')))) us := by
      have e : stF full 2 0 TY.eps [c, .mk 11 0 TY.eps l, .mk 11 0 TY.eps l'] (List.map (tS full) [c, .mk 11 0 TY.eps l, .mk 11 0 TY.eps l']) = wIf :: (tE full c 1 ++ (tS full (.mk 11 0 TY.eps l) ++ wElse :: tS full (.mk 11 0 TY.eps l'))) := by
        have h2 : ¬ tS full (.mk 11 0 TY.eps l') = [yLB, yRB] := fun e => h0 ((blk_empty full hl').1 e)
        simp [stF, kd, kdS]
        exact h2
      rwa [e] at hm
    obtain ⟨a, v, rfl, ha, hm⟩ := hm.uncons
    obtain ⟨v1, v2, rfl, h1, h2⟩ := hm.app
    obtain ⟨v4, v5, rfl, h3, h4⟩ := h2.app
    obtain ⟨q, v6, rfl, hq, h5⟩ := h4.uncons
    have h3' := h3
    rw [tS_eq] at h3'
    obtain ⟨z, v3, rfl, hz, _⟩ := Mt.uncons (show Mt (yLB :: ((l.map (tS full)).flatten ++ [yRB])) v4 from h3')
    obtain ⟨F1, hF1⟩ := we1 (lv := lv) (rest := v3 ++ q :: (v6 ++ t0 :: rest)) hc h1 (by omega) hz (.inr (.inr rfl))
    obtain ⟨F2, hF2⟩ := ((hS lv (z :: v3) q (v6 ++ t0 :: rest) h3 hlv).2 rfl).at_
    obtain ⟨F3, hF3⟩ := ((hT lv v6 t0 rest h5 hlv).2 rfl).at_
    refine .mk ⟨F1 + F2 + F3, fun G hG => ?_⟩
    rw [show a :: (v1 ++ (z :: v3 ++ q :: v6)) ++ t0 :: rest = a :: (v1 ++ z :: (v3 ++ q :: (v6 ++ t0 :: rest))) by simp]
    show stm _ _ lv (a :: _) = _
    rw [stm, if_pos ha.1, pIf, hF1 _ (by omega), PR.bind_ok]
    rw [show z :: (v3 ++ q :: (v6 ++ t0 :: rest)) = z :: v3 ++ q :: (v6 ++ t0 :: rest) from rfl, hF2 _ _ (by omega) (by omega), PR.bind_ok]
    show (if q.text = wElse then _ else _) = _
    rw [if_pos hq.1, hF3 _ _ (by omega) (by omega), PR.bind_ok]
    rfl
theorem st_first (f : Bool) {d : Nat} {t : Nd} (h : WS false d t) : ∃ x xs, tS f t = x :: xs ∧ x ≠ yRB ∧ x ≠ wElse := by
  generalize hb : false = b at h
  cases h with
  | blk d l hl => cases hb
  | asg _ s x hs hx => rw [tS_eq]; exact ⟨_, _, rfl, nm_text hs (by decide), nm_text hs (by decide)⟩
  | ite c a b hc ha hb => rw [tS_eq]; exact ⟨_, _, rfl, by decide, by decide⟩
  | whl c a hc ha => rw [tS_eq]; exact ⟨_, _, rfl, by decide, by decide⟩
  | snd n a b c h0 h1 ha hb hc => rw [tS_eq]; exact ⟨_, _, rfl, by decide, by decide⟩
  | tim n h0 h1 => rw [tS_eq]; exact ⟨_, _, rfl, by decide, by decide⟩
  | can n h0 h1 => rw [tS_eq]; exact ⟨_, _, rfl, by decide, by decide⟩
  | syn => rw [tS_eq]; exact ⟨_, _, rfl, by decide, by decide⟩
  | rep a b ha hb => rw [tS_eq]; exact ⟨_, _, rfl, by decide, by decide⟩
  | fai a ha => rw [tS_eq]; exact ⟨_, _, rfl, by decide, by decide⟩
  | stp => rw [tS_eq]; exact ⟨_, _, rfl, by decide, by decide⟩
theorem sc_seq (full : Bool) (d lv : Nat) (rb : Tok) (rest : List Tok) (hrb : IsT rb yRB) (hlv : lv + d + 8 ≤ 20) : ∀ (l : List Nd) (acc : List Nd) (us : List Tok), (∀ t ∈ l, WS false d t) → (∀ t ∈ l, StP full false d t) → Mt ((l.map (tS full)).flatten) us → ParS (.sq acc) lv (us ++ rb :: rest) (nBlk (acc ++ l)) (rb :: rest)
  | [], acc, us, _, _, hm => by
    cases hm
    refine .mk ⟨0, fun G _ => ?_⟩
    show (if rb.text = yRB then _ else _) = _
    rw [if_pos hrb.1, List.append_nil]
  | x :: l, acc, us, hl, hS, hm => by
    rw [List.map_cons, List.flatten_cons] at hm
    obtain ⟨v1, v2, rfl, h1, h2⟩ := hm.app
    have ih := sc_seq full d lv rb rest hrb hlv l (acc ++ [x]) v2 (fun t ht => hl t (List.mem_cons_of_mem _ ht)) (fun t ht => hS t (List.mem_cons_of_mem _ ht)) h2
    obtain ⟨F2, hF2⟩ := ih.at_
    obtain ⟨t0, r0, e0, he0⟩ : ∃ t0 r0, v2 ++ rb :: rest = t0 :: r0 ∧ t0.text ≠ wElse := by
      cases l with
      | nil => cases h2; exact ⟨rb, rest, rfl, bs_ne hrb (by decide)⟩
      | cons y l =>
        obtain ⟨z, zs, hz, _, hz2⟩ := st_first full (hl y (by simp))
        rw [List.map_cons, List.flatten_cons, hz, List.cons_append] at h2
        obtain ⟨t0, v3, rfl, ht0, _⟩ := h2.uncons
        exact ⟨t0, _, rfl, bs_ne ht0 hz2⟩
    have hst := (hS x (List.mem_cons_self ..) lv v1 t0 r0 h1 hlv).1 rfl he0
    obtain ⟨F1, hF1⟩ := hst.at_
    obtain ⟨z, zs, hz, hz1, _⟩ := st_first full (hl x (by simp))
    rw [hz] at h1
    obtain ⟨a, v3, rfl, ha, _⟩ := h1.uncons
    refine .mk ⟨F1 + F2, fun G hG => ?_⟩
    rw [List.append_assoc, e0]
    show (if a.text = yRB then _ else (ps _ G .st lv (a :: v3 ++ t0 :: r0)).bind fun x r => ps _ G (.sq (acc ++ [x])) lv r) = _
    rw [if_neg (bs_ne ha hz1), hF1 _ _ (by omega) (by omega), PR.bind_ok, ← e0, hF2 _ _ (by omega) (by omega), List.append_assoc]
    rfl
theorem sc_blk (full : Bool) (d : Nat) (l : List Nd) (hl : ∀ t ∈ l, WS false d t) (hS : ∀ t ∈ l, StP full false d t) : StP full true (d + 1) (.mk 11 0 TY.eps l) := by
  intro lv us t0 rest hm hlv
  refine ⟨fun h => (by cases h), fun _ => ?_⟩
  rw [tS_eq] at hm
  obtain ⟨a, v, rfl, ha, hm⟩ := Mt.uncons (show Mt (yLB :: ((l.map (tS full)).flatten ++ [yRB])) us from hm)
  obtain ⟨v1, v2, rfl, h1, h2⟩ := hm.app
  obtain ⟨z, rfl, hz⟩ := h2.one
  obtain ⟨F, hF⟩ := (sc_seq full d (lv + 1) z (t0 :: rest) hz (by omega) l [] v1 hl hS h1).at_
  refine .mk ⟨F, fun G hG => ?_⟩
  rw [show a :: (v1 ++ [z]) ++ t0 :: rest = a :: (v1 ++ z :: t0 :: rest) by simp]
  show blk _ lv (a :: _) = _
  rw [blk, opn_ok ha.1 (by omega), PR.bind_ok, hF _ _ (by omega) (by omega), PR.bind_ok, must_ok hz, PR.bind_ok]
  rfl
theorem ws_parse (full : Bool) {b : Bool} {d : Nat} {t : Nd} (h : WS b d t) : StP full b d t := by
  induction h with
  | blk d l hl ih => exact sc_blk full d l hl ih
  | asg d s x hs hx => exact sc_asg full d s x hs hx
  | ite d c a b hc ha hb i1 i2 => exact sc_ite full d c a b hc ha hb i1 i2
  | whl d c a hc ha i1 => exact sc_whl full d c a hc ha i1
  | snd d n a b c h0 h1 ha hb hc => exact sc_snd full d n a b c h0 h1 ha hb hc
  | tim d n h0 h1 => exact sc_tim full d 5 wTimer (.inl ⟨rfl, rfl⟩) n h0 h1
  | can d n h0 h1 => exact sc_tim full d 6 wCancel (.inr ⟨rfl, rfl⟩) n h0 h1
  | syn d => exact sc_sim full d 7 wSync (.inl ⟨rfl, rfl⟩)
  | rep d a b ha hb => exact sc_rep full d a b ha hb
  | fai d a ha => exact sc_fai full d a ha
  | stp d => exact sc_sim full d 10 wStop (.inr ⟨rfl, rfl⟩)
end Go.Proofs.YtlfpaemfhanpiaaGreatDoor.PP

namespace Go.Proofs.YtlfpaemfhanpiaaGreatDoor.PP
open TY (Nd)
open PS
open LX (Tok)

theorem isN {s : Bs} {t : Tok} (h : nmOk s = true) (ht : IsT t s) : isName t = true := by
  unfold isName
  rw [ht.1, ht.2.1]
  unfold nmOk at h
  rw [Bool.and_eq_true] at h
  exact h.1
theorem names_ok (other : List Bs) : ∀ (l own : List Bs) (us rest : List Tok), l ≠ [] → Mt (tN l ++ [ySemi]) us → (∀ s ∈ l, nmOk s = true) → (own ++ l).Nodup → (∀ s ∈ l, s ∉ other) → (own ++ l).length + other.length ≤ 16 → names other own (us ++ rest) = .ok (own ++ l) rest
  | [], _, _, _, h, _, _, _, _, _ => absurd rfl h
  | [s], own, us, rest, _, hm, hn, hd, ho, hlen => by
    obtain ⟨t, c, rfl, ht, hc⟩ := Mt.two (show Mt [s, ySemi] us from hm)
    have h1 : t.text ∉ own := by
      rw [ht.1]
      intro h
      exact (List.nodup_append.1 hd).2.2 s h s (by simp) rfl
    show names other own (t :: c :: rest) = _
    rw [names, if_pos (isN (hn s (by simp)) ht), if_neg (by rw [not_or]; exact ⟨h1, by rw [ht.1]; exact ho s (by simp)⟩), if_neg (by simp only [List.length_append, List.length_singleton] at hlen; omega), if_neg (bs_ne hc (by decide)), if_pos hc.1, ht.1]
  | s :: y :: l, own, us, rest, _, hm, hn, hd, ho, hlen => by
    obtain ⟨t, v, rfl, ht, hm⟩ := Mt.uncons (show Mt (s :: yComma :: (tN (y :: l) ++ [ySemi])) us from hm)
    obtain ⟨c, v, rfl, hc, hm⟩ := hm.uncons
    have h1 : t.text ∉ own := by
      rw [ht.1]
      intro h
      exact (List.nodup_append.1 hd).2.2 s h s (by simp) rfl
    have ih := names_ok other (y :: l) (own ++ [s]) v rest (by simp) hm (fun z hz => hn z (List.mem_cons_of_mem _ hz)) (by rw [List.append_assoc]; exact hd) (fun z hz => ho z (List.mem_cons_of_mem _ hz)) (by rw [List.append_assoc]; exact hlen)
    show names other own (t :: c :: (v ++ rest)) = _
    rw [names, if_pos (isN (hn s (by simp)) ht), if_neg (by rw [not_or]; exact ⟨h1, by rw [ht.1]; exact ho s (by simp)⟩), if_neg (by simp only [List.length_append, List.length_cons] at hlen; omega), if_pos hc.1, ht.1, ih, List.append_assoc]
    rfl
/-- The names of a program can be declared. -/
structure NamesOk (d v : List Bs) : Prop where
  nm : ∀ s ∈ d ++ v, nmOk s = true
  nd : (d ++ v).Nodup
  len : d.length + v.length ≤ 16
theorem NamesOk.swap {d v : List Bs} (h : NamesOk d v) : NamesOk v d := ⟨fun s hs => h.nm s (by simp only [List.mem_append] at hs ⊢; exact hs.symm), (List.perm_append_comm.nodup_iff).1 h.nd, by have := h.len; omega⟩
theorem NamesOk.not {d v : List Bs} (h : NamesOk d v) {s : Bs} (hs : s ∈ d) : s ∉ v := fun hv => (List.nodup_append.1 h.nd).2.2 s hs s hv rfl
theorem decl1 {d v : List Bs} (h : NamesOk d v) {us R : List Tok} (hm : Mt (tD wDurable d) us) : ∃ k, ∀ f, decls (f + k) [] v (us ++ R) = decls f d v R := by
  unfold tD at hm
  by_cases h0 : d = []
  · rw [if_pos h0] at hm
    cases hm
    subst h0
    exact ⟨0, fun f => rfl⟩
  · rw [if_neg h0] at hm
    obtain ⟨t, w, rfl, ht, hm⟩ := Mt.uncons (show Mt (wDurable :: (tN d ++ [ySemi])) us from hm)
    have hn := names_ok v d [] w R h0 hm (fun s hs => h.nm s (by simp [hs])) (by have := h.nd; exact (List.nodup_append.1 this).1) (fun s hs => h.not hs) (by have := h.len; simpa using this)
    refine ⟨1, fun f => ?_⟩
    show decls (f + 1) [] v (t :: (w ++ R)) = _
    rw [decls, if_pos ht.1, hn, PR.bind_ok]
    rfl
theorem decl2 {d v : List Bs} (h : NamesOk d v) {us R : List Tok} (hm : Mt (tD wVolatile v) us) : ∃ k, ∀ f, decls (f + k) d [] (us ++ R) = decls f d v R := by
  unfold tD at hm
  by_cases h0 : v = []
  · rw [if_pos h0] at hm
    cases hm
    subst h0
    exact ⟨0, fun f => rfl⟩
  · rw [if_neg h0] at hm
    obtain ⟨t, w, rfl, ht, hm⟩ := Mt.uncons (show Mt (wVolatile :: (tN v ++ [ySemi])) us from hm)
    have hn := names_ok d v [] w R h0 hm (fun s hs => h.nm s (by simp [hs])) (by have := h.nd; exact (List.nodup_append.1 this).2.1) (fun s hs => h.swap.not hs) (by have := h.len; simp only [List.nil_append]; omega)
    refine ⟨1, fun f => ?_⟩
    show decls (f + 1) d [] (t :: (w ++ R)) = _
    rw [decls, if_neg (bs_ne ht (by decide)), if_pos ht.1, hn, PR.bind_ok]
    rfl
theorem NamesOk.left {d v : List Bs} (h : NamesOk d v) : NamesOk d [] := ⟨fun s hs => h.nm s (by simp at hs; simp [hs]), by rw [List.append_nil]; exact (List.nodup_append.1 h.nd).1, by have := h.len; simp; omega⟩
theorem NamesOk.right {d v : List Bs} (h : NamesOk d v) : NamesOk [] v := ⟨fun s hs => h.nm s (by simp at hs; simp [hs]), (List.nodup_append.1 h.nd).2.1, by have := h.len; simp; omega⟩
theorem decls_ok {d v : List Bs} (h : NamesOk d v) {u1 u2 rest : List Tok} {t0 : Tok} (h1 : Mt (tD wDurable d) u1) (h2 : Mt (tD wVolatile v) u2) (n1 : t0.text ≠ wDurable) (n2 : t0.text ≠ wVolatile) : (∃ F, decls F [] [] (u1 ++ (u2 ++ t0 :: rest)) = .ok (d, v) (t0 :: rest)) ∧ (∃ F, decls F [] [] (u2 ++ (u1 ++ t0 :: rest)) = .ok (d, v) (t0 :: rest)) := by
  have e : decls 1 d v (t0 :: rest) = .ok (d, v) (t0 :: rest) := by rw [decls, if_neg n1, if_neg n2]
  obtain ⟨k1, e1⟩ := decl1 h.left (R := u2 ++ t0 :: rest) h1
  obtain ⟨k2, e2⟩ := decl2 h (R := t0 :: rest) h2
  obtain ⟨k3, e3⟩ := decl2 h.right (R := u1 ++ t0 :: rest) h2
  obtain ⟨k4, e4⟩ := decl1 h (R := t0 :: rest) h1
  exact ⟨⟨1 + k2 + k1, by rw [e1, e2, e]⟩, ⟨1 + k4 + k3, by rw [e3, e4, e]⟩⟩
/-- A handler that the parser gives. -/
def HdOk (h : Hd) : Prop := h.1 < 40 ∧ ∃ d, d ≤ 12 ∧ WS true d h.2
theorem hand_ok {full : Bool} {h : Hd} (hh : HdOk h) {on : List Hd} (hn : h.1 ∉ on.map Prod.fst) {us R : List Tok} {t0 : Tok} (hm : Mt (tH full h) us) : ∃ (a : Tok) (v : List Tok), us = a :: v ∧ a.text = wOn ∧ ∃ F, ∀ G, F ≤ G → hand (ps (pe G (.ex 1)) G .bl 0) on (v ++ t0 :: R) = .ok h (t0 :: R) := by
  obtain ⟨n, b⟩ := h
  obtain ⟨hn4, d, hd, hw⟩ := hh
  have hn4 : n < 40 := hn4
  unfold tH at hm
  obtain ⟨a, v, rfl, ha, hm⟩ := Mt.uncons (show Mt (wOn :: ((if n = 0 then [wStart] else if n = 1 then [wRequest] else if 10 ≤ n then [wMessage, Go.Lib.decDigits (n - 10)] else [wTimer, Go.Lib.decDigits (n - 2)]) ++ tS full b)) us from hm)
  refine ⟨a, v, rfl, ha.1, ?_⟩
  obtain ⟨v1, v2, rfl, h1, h2⟩ := hm.app
  obtain ⟨F, hF⟩ := ((ws_parse full hw 0 v2 t0 R h2 (by omega)).2 rfl).at_
  refine ⟨F, fun G hG => ?_⟩
  have key : ∃ c w, v1 = c :: w ∧ hnum (c :: (w ++ (v2 ++ t0 :: R))) = .ok n (v2 ++ t0 :: R) := by
    by_cases h0 : n = 0
    · rw [if_pos h0] at h1
      obtain ⟨c, rfl, hc⟩ := h1.one
      exact ⟨c, [], rfl, by rw [hnum, if_pos hc.1, h0]; rfl⟩
    · rw [if_neg h0] at h1
      by_cases h3 : n = 1
      · rw [if_pos h3] at h1
        obtain ⟨c, rfl, hc⟩ := h1.one
        exact ⟨c, [], rfl, by rw [hnum, if_neg (bs_ne hc (by decide)), if_pos hc.1, h3]; rfl⟩
      · rw [if_neg h3] at h1
        by_cases h4 : 10 ≤ n
        · rw [if_pos h4] at h1
          obtain ⟨c, q, rfl, hc, hq⟩ := h1.two
          refine ⟨c, [q], rfl, ?_⟩
          have := numb_ok (lim := 30) (u := v2 ++ t0 :: R) (n := ((n - 10 : Nat) : Int)) hq (by omega) (by omega) (by decide)
          show hnum (c :: q :: (v2 ++ t0 :: R)) = _
          rw [hnum, if_neg (bs_ne hc (by decide)), if_neg (bs_ne hc (by decide)), if_neg (bs_ne hc (by decide)), if_pos hc.1, this, PR.bind_ok]
          congr 1
          omega
        · rw [if_neg h4] at h1
          obtain ⟨c, q, rfl, hc, hq⟩ := h1.two
          refine ⟨c, [q], rfl, ?_⟩
          have := numb_ok (lim := 8) (u := v2 ++ t0 :: R) (n := ((n - 2 : Nat) : Int)) hq (by omega) (by omega) (by decide)
          show hnum (c :: q :: (v2 ++ t0 :: R)) = _
          rw [hnum, if_neg (bs_ne hc (by decide)), if_neg (bs_ne hc (by decide)), if_pos hc.1, this, PR.bind_ok]
          congr 1
          omega
  obtain ⟨c, w, rfl, hk⟩ := key
  rw [show c :: w ++ v2 ++ t0 :: R = c :: (w ++ (v2 ++ t0 :: R)) by simp]
  rw [hand, hk, PR.bind_ok, if_neg hn, hF _ _ hG hG, PR.bind_ok]
theorem hands_ok (full : Bool) (e : Tok) (R : List Tok) (he : e.kind = 0) (he2 : e.text ≠ wOn) : ∀ (hs acc : List Hd) (us : List Tok), (∀ h ∈ hs, HdOk h) → ((acc ++ hs).map Prod.fst).Nodup → Mt (hs.flatMap (tH full)) us → ∃ F, ∀ G G', F ≤ G → F ≤ G' → hands (ps (pe G (.ex 1)) G .bl 0) G' acc (us ++ e :: R) = .ok (acc ++ hs) (e :: R)
  | [], acc, us, _, _, hm => by
    cases hm
    refine ⟨1, fun G G' _ hG => ?_⟩
    obtain ⟨g, rfl⟩ : ∃ g, G' = g + 1 := ⟨G' - 1, by omega⟩
    show hands _ (g + 1) acc (e :: R) = _
    rw [hands, if_neg he2, if_pos he, List.append_nil]
  | h :: hs, acc, us, hh, hd, hm => by
    rw [List.flatMap_cons] at hm
    obtain ⟨v1, v2, rfl, h1, h2⟩ := hm.app
    obtain ⟨F2, hF2⟩ := hands_ok full e R he he2 hs (acc ++ [h]) v2 (fun x hx => hh x (List.mem_cons_of_mem _ hx)) (by rw [List.append_assoc]; exact hd) h2
    have hn : h.1 ∉ acc.map Prod.fst := fun hm => by
      rw [List.map_append] at hd
      exact (List.nodup_append.1 hd).2.2 _ hm _ (by simp) rfl
    obtain ⟨t0, r0, e0⟩ : ∃ t0 r0, v2 ++ e :: R = t0 :: r0 := by
      cases v2 with
      | nil => exact ⟨_, _, rfl⟩
      | cons x v => exact ⟨_, _, rfl⟩
    obtain ⟨a, v, rfl, ha, F1, hF1⟩ := hand_ok (R := r0) (t0 := t0) (hh h (List.mem_cons_self ..)) hn h1
    refine ⟨F1 + F2 + 1, fun G G' hG hG' => ?_⟩
    obtain ⟨g, rfl⟩ : ∃ g, G' = g + 1 := ⟨G' - 1, by omega⟩
    rw [List.append_assoc, e0]
    show hands _ (g + 1) acc (a :: (v ++ t0 :: r0)) = _
    rw [hands, if_pos ha, hF1 _ (by omega), PR.bind_ok, ← e0, hF2 _ _ (by omega) (by omega), List.append_assoc]
    rfl
end Go.Proofs.YtlfpaemfhanpiaaGreatDoor.PP

namespace Go.Proofs.YtlfpaemfhanpiaaGreatDoor.PP
open TY (Nd)
open PS
open LX (Tok)

/-- A program that the parser gives. -/
structure WP (u : Un) : Prop where
  names : NamesOk u.dur u.vol
  hd : ∀ h ∈ u.on, HdOk h
  ord : Ord u.on
  nd : (u.on.map Prod.fst).Nodup
/-- The end of the input. -/
def IsE (e : Tok) : Prop := e.kind = 0 ∧ e.text = []
theorem IsE.ne {e : Tok} (h : IsE e) {s : Bs} (hs : s ≠ []) : e.text ≠ s := fun x => hs (x ▸ h.2)
theorem first_on (full : Bool) (hs : List Hd) (us : List Tok) (e : Tok) (he : IsE e) (hm : Mt (hs.flatMap (tH full)) us) : ∃ t0 r0, us ++ [e] = t0 :: r0 ∧ t0.text ≠ wDurable ∧ t0.text ≠ wVolatile := by
  cases hs with
  | nil =>
    cases hm
    exact ⟨e, [], rfl, he.ne (by decide), he.ne (by decide)⟩
  | cons h hs =>
    rw [List.flatMap_cons] at hm
    obtain ⟨v1, v2, rfl, h1, h2⟩ := hm.app
    obtain ⟨n, b⟩ := h
    unfold tH at h1
    obtain ⟨a, v, rfl, ha, _⟩ := Mt.uncons (show Mt (wOn :: ((if n = 0 then [wStart] else if n = 1 then [wRequest] else if 10 ≤ n then [wMessage, Go.Lib.decDigits (n - 10)] else [wTimer, Go.Lib.decDigits (n - 2)]) ++ tS full b)) v1 from h1)
    exact ⟨a, _, rfl, bs_ne ha (by decide), bs_ne ha (by decide)⟩
theorem prog_of {F1 F2 : Nat} {us r : List Tok} {e : Tok} {d v : List Bs} {on : List Hd} (h1 : decls F1 [] [] us = .ok (d, v) r) (h2 : ∀ G G', F2 ≤ G → F2 ≤ G' → hands (ps (pe G (.ex 1)) G .bl 0) G' [] r = .ok on [e]) : ∃ F, prog F us = .ok ⟨d, v, sortH on⟩ [e] := by
  refine ⟨F1 + F2, ?_⟩
  have h1' := (decls_le (show F1 ≤ F1 + F2 by omega) [] [] us).ok h1
  unfold prog
  rw [h1', PR.bind_ok, h2 _ _ (by omega) (by omega), PR.bind_ok]
theorem prog_tU {u : Un} (h : WP u) {us : List Tok} {e : Tok} (he : IsE e) (hm : Mt (tU u) us) : ∃ F, prog F (us ++ [e]) = .ok u [e] := by
  unfold tU at hm
  obtain ⟨v0, v3, rfl, h0, h3⟩ := hm.app
  obtain ⟨v1, v2, rfl, h1, h2⟩ := h0.app
  obtain ⟨t0, r0, e0, n1, n2⟩ := first_on false u.on v3 e he h3
  obtain ⟨⟨F1, hF1⟩, _⟩ := decls_ok h.names (rest := r0) h1 h2 n1 n2
  obtain ⟨F2, hF2⟩ := hands_ok false e [] he.1 (he.ne (by decide)) u.on [] v3 h.hd (by simpa using h.nd) h3
  rw [e0] at hF2
  obtain ⟨F, hF⟩ := prog_of hF1 hF2
  refine ⟨F, ?_⟩
  rw [List.append_assoc, List.append_assoc, e0, hF, List.nil_append, ← sortH_eq (List.Perm.refl _) h.ord h.nd]
theorem prog_tL {u : Un} (h : WP u) {us : List Tok} {e : Tok} (he : IsE e) (hm : Mt (tL u) us) : ∃ F, prog F (us ++ [e]) = .ok u [e] := by
  unfold tL at hm
  obtain ⟨v0, v3, rfl, h0, h3⟩ := hm.app
  obtain ⟨v1, v2, rfl, h1, h2⟩ := h0.app
  obtain ⟨t0, r0, e0, n1, n2⟩ := first_on true u.on.reverse v3 e he h3
  obtain ⟨_, F1, hF1⟩ := decls_ok h.names (rest := r0) h2 h1 n1 n2
  have hnr : (u.on.reverse.map Prod.fst).Nodup := ((List.reverse_perm u.on).map Prod.fst).nodup_iff.2 h.nd
  obtain ⟨F2, hF2⟩ := hands_ok true e [] he.1 (he.ne (by decide)) u.on.reverse [] v3 (fun x hx => h.hd x (List.mem_reverse.1 hx)) (by simpa using hnr) h3
  rw [e0] at hF2
  obtain ⟨F, hF⟩ := prog_of hF1 hF2
  refine ⟨F, ?_⟩
  rw [List.append_assoc, List.append_assoc, e0, hF, List.nil_append, ← sortH_eq (List.reverse_perm _) h.ord hnr]
end Go.Proofs.YtlfpaemfhanpiaaGreatDoor.PP

namespace Go.Proofs.YtlfpaemfhanpiaaGreatDoor.PP
open TY (Nd)
open PS
open PG (nx nx_lt genI genB genS gI gB gS blockG many onG unit none0 noneB asg one two)

theorem pick_mem {l : List ByteArray} {n : Nat} (h : n < l.length) : TY.pick l n ∈ l := by
  unfold TY.pick
  rw [List.getElem?_eq_getElem h]
  exact List.getElem_mem h
theorem pickI_ok (n : Nat) : 0 ≤ PG.pickI n ∧ PG.pickI n ≤ 2147483647 := by
  unfold PG.pickI
  cases h : PG.ints[n]? with
  | none => exact ⟨by decide, by decide⟩
  | some z =>
    have := List.mem_of_getElem? h
    have hall : ∀ z ∈ PG.ints, 0 ≤ z ∧ z ≤ 2147483647 := by decide
    exact hall z this
theorem vars_ok : ∀ s ∈ PG.vars, nmOk (ob s) = true := by decide
theorem bn_ok : ∀ s ∈ TY.bNames, ob s ∈ bins := by decide
theorem leaf_ok (L : List Int) (sub : PG.Gen) (n i d : Nat) (h : n < 6) : WE d (gI L sub n i).1 := by
  unfold gI
  split
  · exact .int d _ (pickI_ok _).1 (pickI_ok _).2
  · split
    · exact .var d _ (vars_ok _ (pick_mem (nx_lt L i (by decide))))
    · exact .name d _ (bn_ok _ (pick_mem (nx_lt L i (by decide))))
theorem ar_ok : ∀ s ∈ TY.arith, s ∈ ops12 := by
  intro s hs
  simp only [TY.arith, List.mem_cons, List.not_mem_nil, or_false] at hs
  rcases hs with rfl | rfl | rfl | rfl <;> simp [ops12]
theorem cmp_ok : ∀ s ∈ TY.compar, s ∈ ops12 := by
  intro s hs
  simp only [TY.compar, List.mem_cons, List.not_mem_nil, or_false] at hs
  rcases hs with rfl | rfl | rfl | rfl | rfl | rfl <;> simp [ops12]
theorem log_ok : ∀ s ∈ TY.logic, s ∈ ops12 := by
  intro s hs
  simp only [TY.logic, List.mem_cons, List.not_mem_nil, or_false] at hs
  rcases hs with rfl | rfl <;> simp [ops12]
theorem genI_ok (L : List Int) : ∀ d i, WE d (genI L d i).1
  | 0, i => leaf_ok L _ _ _ 0 (by omega)
  | d + 1, i => by
    show WE (d + 1) (gI L (genI L d) (nx L i 12) (i + 1)).1
    by_cases h : nx L i 12 < 6
    · exact leaf_ok L _ _ _ _ h
    · have h12 := nx_lt L i (m := 12) (by decide)
      unfold gI
      rw [if_neg (by omega), if_neg (by omega), if_neg (by omega)]
      split
      · exact .draw d _ (genI_ok L d _)
      · split
        · exact .un d _ _ (.inl rfl) (genI_ok L d _)
        · refine .bin d _ _ _ ?_ (genI_ok L d _) (genI_ok L d _)
          exact ar_ok _ (pick_mem (nx_lt L _ (by decide)))
theorem genB_ok (L : List Int) : ∀ d i, WE (d + 1) (genB L d i).1
  | 0, i => by
    show WE 1 (gB L none0 (genI L 0) (nx L i 8 % 4) (i + 1)).1
    unfold gB
    split
    · exact .bool 1 _ (by have := nx_lt L (i + 1) (m := 2) (by decide); omega)
    · rw [if_neg (by omega), if_neg (by omega)]
      exact .bin 0 _ _ _ (cmp_ok _ (pick_mem (nx_lt L _ (by decide)))) (genI_ok L 0 _) (genI_ok L 0 _)
  | d + 1, i => by
    show WE (d + 1 + 1) (gB L (genB L d) (genI L d) (nx L i 8) (i + 1)).1
    unfold gB
    split
    · exact .bool _ _ (by have := nx_lt L (i + 1) (m := 2) (by decide); omega)
    · split
      · exact .un (d + 1) _ _ (.inr rfl) (genB_ok L d _)
      · split
        · exact .bin (d + 1) _ _ _ (log_ok _ (pick_mem (nx_lt L _ (by decide)))) (genB_ok L d _) (genB_ok L d _)
        · exact .bin (d + 1) _ _ _ (cmp_ok _ (pick_mem (nx_lt L _ (by decide)))) ((genI_ok L d _).more (by omega)) ((genI_ok L d _).more (by omega))
theorem asg_ok (L : List Int) (d i e : Nat) (hd : d ≤ 4) : WS false e (asg L d i).1 :=
  .asg e _ _ (vars_ok _ (pick_mem (nx_lt L i (by decide)))) ((genI_ok L d _).more hd)
theorem gS_ok (L : List Int) (sub : PG.Gen) (n i d : Nat) (hs : 11 ≤ n → ∀ j, WS true d (sub j).1) (he : 11 ≤ n → 1 ≤ d) : WS false d (gS L sub n i).1 := by
  unfold gS
  by_cases h : n < 3
  · rw [if_pos h]; exact asg_ok L 2 i d (by decide)
  rw [if_neg h]
  by_cases h : n < 5
  · rw [if_pos h]
    refine .snd d _ _ _ _ ?_ ?_ ((genI_ok L 0 _).more (by decide)) ((genI_ok L 1 _).more (by decide)) ((genI_ok L 1 _).more (by decide))
    · omega
    · have := nx_lt L (genI L 0 i).2 (m := 4) (by decide); omega
  rw [if_neg h]
  by_cases h : n = 5
  · rw [if_pos h]; exact .tim d _ (by omega) (by have := nx_lt L i (m := 3) (by decide); omega)
  rw [if_neg h]
  by_cases h : n = 6
  · rw [if_pos h]; exact .can d _ (by omega) (by have := nx_lt L i (m := 3) (by decide); omega)
  rw [if_neg h]
  by_cases h : n = 7
  · rw [if_pos h]; exact .syn d
  rw [if_neg h]
  by_cases h : n = 8
  · rw [if_pos h]; exact .rep d _ _ ((genI_ok L 0 _).more (by decide)) ((genI_ok L 1 _).more (by decide))
  rw [if_neg h]
  by_cases h : n = 9
  · rw [if_pos h]; exact .fai d _ ((genI_ok L 1 _).more (by decide))
  rw [if_neg h]
  by_cases h : n = 10
  · rw [if_pos h]
    by_cases h : 0 < nx L i 3
    · rw [if_pos h]; exact asg_ok L 1 _ d (by decide)
    · rw [if_neg h]; exact .stp d
  rw [if_neg h]
  have h11 : 11 ≤ n := by omega
  by_cases h : n = 11
  · rw [if_pos h]; exact .whl d _ _ ((genB_ok L 1 _).more (by decide)) (hs h11 _)
  rw [if_neg h]
  by_cases h : nx L (sub (genB L 2 i).2).2 2 = 1
  · simp only [h, if_true]
    exact .ite d _ _ _ ((genB_ok L 2 _).more (by decide)) (hs h11 _) (hs h11 _)
  · simp only [h, if_false]
    obtain ⟨e, rfl⟩ : ∃ e, d = e + 1 := ⟨d - 1, by have := he h11; omega⟩
    exact .ite _ _ _ _ ((genB_ok L 2 _).more (by decide)) (hs h11 _) (.blk e [] fun t ht => by simp at ht)
theorem many_ok (g : PG.Gen) (d : Nat) (hg : ∀ j, WS false d (g j).1) : ∀ m i, ∀ t ∈ (many g m i).1, WS false d t
  | 0, i, t, ht => by simp [many] at ht
  | m + 1, i, t, ht => by
    rcases List.mem_cons.1 (show t ∈ (g i).1 :: (many g m (g i).2).1 from ht) with rfl | h
    · exact hg i
    · exact many_ok g d hg m _ t h
theorem blockG_ok (L : List Int) (g : PG.Gen) (d most i : Nat) (hg : ∀ j, WS false d (g j).1) : WS true (d + 1) (blockG L g most i).1 := .blk d _ (many_ok g d hg _ _)
theorem genS_ok (L : List Int) : ∀ d i, WS false d (genS L d i).1
  | 0, i => gS_ok L noneB _ _ 0 (fun h => by omega) (fun h => by omega)
  | d + 1, i => gS_ok L (blockG L (genS L d) 2) _ _ (d + 1) (fun _ j => blockG_ok L _ d 2 j (genS_ok L d)) (fun _ => by omega)
def lb (h : Nat) : Nat := ([0, 1, 2, 10] : List Nat)[h]?.getD 40
theorem onG_ok (L : List Int) : ∀ q h p, q + h = 4 → (∀ x ∈ onG L q h p, HdOk x ∧ lb h ≤ x.1) ∧ (onG L q h p).Pairwise fun a b => a.1 < b.1
  | 0, h, p, _ => ⟨fun x hx => by simp [onG] at hx, by simp [onG]⟩
  | q + 1, h, p, hq => by
    have hlb : ∀ h', h' ≤ 3 → lb h' ≤ lb (h' + 1) := by decide
    unfold onG
    split
    · obtain ⟨i1, i2⟩ := onG_ok L q (h + 1) (blockG L (genS L 2) 3 (p + 3)).2 (by omega)
      have n8 := nx_lt L (p + 1) (m := 8) (by decide)
      have n30 := nx_lt L (p + 2) (m := 30) (by decide)
      obtain ⟨N, hN⟩ : ∃ N, (([0, 1, 2 + nx L (p + 1) 8, 10 + nx L (p + 2) 30] : List Nat)[h]?.getD 0) = N := ⟨_, rfl⟩
      have hb : lb h ≤ N ∧ N < lb (h + 1) ∧ N < 40 := by
        rw [← hN]
        have hh : h = 0 ∨ h = 1 ∨ h = 2 ∨ h = 3 := by omega
        rcases hh with rfl | rfl | rfl | rfl
        · exact ⟨by simp [lb], by simp [lb], by simp⟩
        · exact ⟨by simp [lb], by simp [lb], by simp⟩
        · exact ⟨by simp [lb], by simp [lb]; omega, by simp; omega⟩
        · exact ⟨by simp [lb], by simp [lb]; omega, by simp; omega⟩
      simp only [hN]
      refine ⟨fun x hx => ?_, List.pairwise_cons.2 ⟨fun x hx => ?_, i2⟩⟩
      · rcases List.mem_cons.1 hx with rfl | hx
        · exact ⟨⟨hb.2.2, 3, by decide, blockG_ok L _ 2 3 _ (genS_ok L 2)⟩, hb.1⟩
        · have := i1 x hx
          exact ⟨this.1, by have := this.2; omega⟩
      · have := (i1 x hx).2
        show N < x.1
        omega
    · obtain ⟨i1, i2⟩ := onG_ok L q (h + 1) (p + 1) (by omega)
      refine ⟨fun x hx => ⟨(i1 x hx).1, ?_⟩, i2⟩
      have := (i1 x hx).2
      have := hlb h (by omega)
      omega
theorem unit_ok (zs : List Int) : WP (unit zs) := by
  obtain ⟨h1, h2⟩ := onG_ok (zs.take 70) 4 0 0 rfl
  have hN : NamesOk [[100], [100, 100, 49]] [[118], [119, 50]] := ⟨by decide, by decide, by decide⟩
  refine ⟨hN, fun h hh => (h1 h hh).1, h2.imp fun h => Nat.le_of_lt h, ?_⟩
  show ((onG (zs.take 70) 4 0 0).map Prod.fst).Nodup
  rw [List.nodup_iff_pairwise_ne, List.pairwise_map]
  exact h2.imp fun h => Nat.ne_of_lt h
end Go.Proofs.YtlfpaemfhanpiaaGreatDoor.PP

namespace Go.Proofs.YtlfpaemfhanpiaaGreatDoor.PP
open PS
open LX (Tok isW isD isA isB isOne isTwo)

/-- The symbols that an = would lengthen. -/
def opA : List Bs := [yLt, yGt, yAsg, yNot]
def syms : List Bs := [yOr, yAnd, yNot, yLt, yLe, yGt, yGe, yEq, yNe, yPlus, yMinus, yMul, yDiv, yLP, yRP, yLB, yRB, yComma, ySemi, yAsg]
/-- The text of a token. -/
def VT (t : Bs) : Prop := (t.length ≤ 10 ∧ (∃ c l, t = c :: l ∧ isW c = true) ∧ ∀ c ∈ t, isA c = true) ∨ (t ≠ [] ∧ (∀ c ∈ t, isD c = true) ∧ LX.val t ≤ 2147483647) ∨ t ∈ syms
theorem VT.ne {t : Bs} (h : VT t) : t ≠ [] := by
  rcases h with ⟨_, ⟨c, l, rfl, _⟩, _⟩ | ⟨h, _⟩ | h
  · simp
  · exact h
  · intro e
    subst e
    exact absurd h (by decide)
/-- What may follow a token. -/
def Nx (t rest : Bs) : Prop := (∀ x y, t.getLast? = some x → rest.head? = some y → isA x = true → isA y = false) ∧ (t ∈ opA → rest.head? ≠ some 61)
theorem take_all (p : UInt8 → Bool) (t rest : Bs) (h : ∀ c ∈ t, p c = true) (hr : ∀ y, rest.head? = some y → p y = false) : (t ++ rest).takeWhile p = t := by
  induction t with
  | nil =>
    cases rest with
    | nil => rfl
    | cons y l => rw [List.nil_append, List.takeWhile_cons_of_neg (by rw [hr y rfl]; decide)]
  | cons c t ih =>
    rw [List.cons_append, List.takeWhile_cons_of_pos (h c (by simp)), ih fun c hc => h c (List.mem_cons_of_mem _ hc)]
theorem last_of {t : Bs} (h : t ≠ []) : ∃ x, t.getLast? = some x ∧ x ∈ t := ⟨t.getLast h, by rw [List.getLast?_eq_some_getLast h], List.getLast_mem h⟩
theorem isW_A {c : UInt8} (h : isW c = true) : isA c = true := by simp [isA, h]
theorem isD_A {c : UInt8} (h : isD c = true) : isA c = true := by simp [isA, h]
theorem tok1_vt {t rest : Bs} (h : VT t) (hn : Nx t rest) : LX.tok1 (t ++ rest) = .good (kindT t) t.length (numT t) := by
  rcases h with ⟨h10, ⟨c, l, rfl, hw⟩, ha⟩ | ⟨hne, hd, hv⟩ | hs
  · obtain ⟨x, hx, hm⟩ := last_of (t := c :: l) (by simp)
    have ht := take_all isA (c :: l) rest ha fun y hy => hn.1 x y hx hy (ha x hm)
    rw [List.cons_append] at ht ⊢
    rw [LX.tok1, if_pos hw, ht, if_neg (by omega), kindT, if_pos hw, numT, if_pos hw]
  · obtain ⟨c, l, rfl⟩ := List.exists_cons_of_ne_nil hne
    have hc := hd c (by simp)
    have hw : isW c = false := by
      cases h : isW c with
      | false => rfl
      | true => rw [isW_not_D h] at hc; cases hc
    obtain ⟨x, hx, hm⟩ := last_of (t := c :: l) (by simp)
    have ht := take_all isD (c :: l) rest hd fun y hy => by
      have := hn.1 x y hx hy (isD_A (hd x hm))
      cases h : isD y with
      | false => rfl
      | true => rw [isD_A h] at this; cases this
    rw [List.cons_append] at ht ⊢
    rw [LX.tok1, if_neg (by rw [hw]; decide), if_pos hc, ht, if_neg (by omega), kindT, if_neg (by rw [hw]; decide), if_pos hc, numT, if_neg (by rw [hw]; decide), if_pos hc]
  · simp only [syms, List.mem_cons, List.not_mem_nil, or_false] at hs
    have one : ∀ c : UInt8, isW c = false → isD c = false → isTwo c rest = false → isOne c = true → LX.tok1 ([c] ++ rest) = .good 3 1 0 := fun c h1 h2 h3 h4 => by
      show LX.tok1 (c :: rest) = _
      rw [LX.tok1, if_neg (by rw [h1]; decide), if_neg (by rw [h2]; decide), if_neg (by rw [h3]; decide), if_pos h4]
    have two : ∀ c d : UInt8, isW c = false → isD c = false → isTwo c (d :: rest) = true → LX.tok1 ([c, d] ++ rest) = .good 3 2 0 := fun c d h1 h2 h3 => by
      show LX.tok1 (c :: d :: rest) = _
      rw [LX.tok1, if_neg (by rw [h1]; decide), if_neg (by rw [h2]; decide), if_pos h3]
    have no2 : ∀ c : UInt8, [c] ∈ opA → c.toNat ≠ 124 → c.toNat ≠ 38 → Nx [c] rest → isTwo c rest = false := fun c hc h1 h2 hn => by
      cases rest with
      | nil => rfl
      | cons d u =>
        have h3 : d ≠ 61 := fun e => hn.2 hc (by rw [e]; rfl)
        have h4 : d.toNat ≠ 61 := fun e => h3 (UInt8.toNat_inj.1 e)
        simp [isTwo, h1, h2, h4]
    have no1 : ∀ c : UInt8, c.toNat ≠ 124 → c.toNat ≠ 38 → c.toNat ≠ 60 → c.toNat ≠ 62 → c.toNat ≠ 61 → c.toNat ≠ 33 → isTwo c rest = false := fun c h1 h2 h3 h4 h5 h6 => by
      cases rest with
      | nil => rfl
      | cons d u => simp [isTwo, h1, h2, h3, h4, h5, h6]
    rcases hs with rfl | rfl | rfl | rfl | rfl | rfl | rfl | rfl | rfl | rfl | rfl | rfl | rfl | rfl | rfl | rfl | rfl | rfl | rfl | rfl
    all_goals first
      | exact two _ _ rfl rfl rfl
      | exact one _ rfl rfl (no1 _ (by decide) (by decide) (by decide) (by decide) (by decide) (by decide)) rfl
      | exact one _ rfl rfl (no2 _ (by decide) (by decide) (by decide) hn) rfl
/-- What stands behind a token. -/
def tl : Bs → List Bs → Bs
  | _, [] => []
  | a, t :: l => gap a.getLast? t.head? ++ (t ++ tl t l)
theorem joins_tl (a : Bs) (l : List Bs) (h : ∀ t ∈ l, t ≠ []) : joins a l = a ++ tl a l := by
  induction l generalizing a with
  | nil => simp [joins, tl]
  | cons t l ih =>
    have e : joins a (t :: l) = join a (joins t l) := by
      show joins (join a t) l = _
      rw [joins_join]
    have ht := h t (by simp)
    rw [e, ih t (fun x hx => h x (List.mem_cons_of_mem _ hx)), join_gap, tl]
    have : (t ++ tl t l).head? = t.head? := by
      obtain ⟨c, u, rfl⟩ := List.exists_cons_of_ne_nil ht
      rfl
    rw [this, List.append_assoc]
/-- No = behind a symbol that it would lengthen; p: such a symbol stands ahead. -/
def Ad : Bool → List Bs → Prop
  | _, [] => True
  | p, t :: l => (p = true → t.head? ≠ some 61) ∧ Ad (decide (t ∈ opA)) l
def stt : Bool → List Bs → Bool
  | p, [] => p
  | _, t :: l => stt (decide (t ∈ opA)) l
theorem Ad.weak {p : Bool} {l : List Bs} (h : Ad true l) : Ad p l := by
  cases l with
  | nil => trivial
  | cons t l => exact ⟨fun _ => h.1 rfl, h.2⟩
theorem Ad.app {p : Bool} {xs ys : List Bs} (h : Ad p xs) (k : Ad (stt p xs) ys) : Ad p (xs ++ ys) := by
  induction xs generalizing p with
  | nil => exact k
  | cons x xs ih => exact ⟨h.1, ih h.2 k⟩
theorem stt_app (p : Bool) (xs ys : List Bs) : stt p (xs ++ ys) = stt (stt p xs) ys := by
  induction xs generalizing p with
  | nil => rfl
  | cons x xs ih => exact ih _
theorem tl_nx {a : Bs} {l : List Bs} (ha : VT a) (hl : ∀ t ∈ l, VT t) (hd : Ad (decide (a ∈ opA)) l) : Nx a (tl a l) := by
  cases l with
  | nil => exact ⟨fun x y _ h => (by simp [tl] at h), fun _ => by simp [tl]⟩
  | cons t l =>
    obtain ⟨c, u, rfl⟩ := List.exists_cons_of_ne_nil (hl t (by simp)).ne
    obtain ⟨x, hx, _⟩ := last_of ha.ne
    have e : tl a ((c :: u) :: l) = gap (some x) (some c) ++ (c :: u ++ tl (c :: u) l) := by rw [tl, hx]; rfl
    rw [e]
    by_cases hg : (isA x && isA c) = true
    · have hge : gap (some x) (some c) = [32] := by show (if (isA x && isA c) = true then [32] else []) = ([32] : Bs); rw [if_pos hg]
      rw [hge]
      refine ⟨fun z y _ hy _ => ?_, fun _ h => ?_⟩
      · injection hy with hy
        subst hy
        decide
      · injection h with h
        exact absurd h (by decide)
    · have hge : gap (some x) (some c) = [] := by show (if (isA x && isA c) = true then [32] else []) = ([] : Bs); rw [if_neg hg]
      rw [hge]
      refine ⟨fun z y hz hy hA => ?_, fun ho h => ?_⟩
      · rw [hx] at hz
        injection hz with hz
        injection hy with hy
        subst hz hy
        cases hc : isA c with
        | false => rfl
        | true => exact absurd (by rw [hA, hc]; rfl) hg
      · exact hd.1 (decide_eq_true ho) h
theorem VT.fix {t rest : Bs} (h : VT t) : LX.skip (t ++ rest) = t ++ rest := by
  have key : ∀ c u, t = c :: u → c.toNat ≠ 35 ∧ isB c = false := by
    intro c u e
    have isa : ∀ c : UInt8, isA c = true → c.toNat ≠ 35 ∧ isB c = false := fun c h => by
      simp only [isA, isW, isD, Bool.or_eq_true, Bool.and_eq_true, decide_eq_true_eq] at h
      refine ⟨by omega, ?_⟩
      simp only [isB, Bool.or_eq_false_iff, decide_eq_false_iff_not]
      omega
    rcases h with ⟨_, _, ha⟩ | ⟨_, hd, _⟩ | hs
    · exact isa c (ha c (by rw [e]; simp))
    · exact isa c (isD_A (hd c (by rw [e]; simp)))
    · subst e
      have hall : ∀ s ∈ syms, ∀ c, s.head? = some c → c.toNat ≠ 35 ∧ isB c = false := by
        intro s hs c hc
        simp only [syms, List.mem_cons, List.not_mem_nil, or_false] at hs
        rcases hs with rfl | rfl | rfl | rfl | rfl | rfl | rfl | rfl | rfl | rfl | rfl | rfl | rfl | rfl | rfl | rfl | rfl | rfl | rfl | rfl
        all_goals
          injection hc with hc
          subst hc
          decide
      exact hall _ hs c rfl
  obtain ⟨c, u, rfl⟩ := List.exists_cons_of_ne_nil h.ne
  obtain ⟨h1, h2⟩ := key c u rfl
  exact LX.skip_fix h1 h2
theorem skip_gap (x y : Option UInt8) (L : Bs) : LX.skip (gap x y ++ L) = LX.skip L := by
  unfold gap
  split
  · split
    · rfl
    · rfl
  · rfl
theorem lexF_tl : ∀ (l : List Bs) (a : Bs) (f o : Nat), VT a → (∀ t ∈ l, VT t) → Ad (decide (a ∈ opA)) l → (tl a l).length < f → ∃ us e, LX.lexF f o (tl a l) = .ok (us ++ [e]) ∧ Mt l us ∧ e.kind = 0 ∧ e.text = []
  | l, a, 0, _, _, _, _, h => by omega
  | [], a, f + 1, o, _, _, _, _ => ⟨[], ⟨0, o, [], 0⟩, rfl, .nil, rfl, rfl⟩
  | t :: l, a, f + 1, o, ha, hl, hd, hf => by
    have ht := hl t (by simp)
    have hl' : ∀ x ∈ l, VT x := fun x hx => hl x (List.mem_cons_of_mem _ hx)
    have hnx := tl_nx ht hl' hd.2
    have htk := tok1_vt ht hnx
    have hsk : LX.skip (tl a (t :: l)) = t ++ tl t l := by rw [tl, skip_gap, ht.fix]
    have hlen : (t ++ tl t l).length ≤ (tl a (t :: l)).length := by rw [tl, List.length_append (as := gap _ _)]; omega
    obtain ⟨c, u, hcu⟩ := List.exists_cons_of_ne_nil ht.ne
    have hl0 : 0 < t.length := by rw [hcu]; simp
    obtain ⟨us, e, h1, h2, h3, h4⟩ := lexF_tl l t f (o + ((tl a (t :: l)).length - (t ++ tl t l).length) + t.length) ht hl' hd.2 (by rw [List.length_append] at hlen; omega)
    refine ⟨⟨kindT t, o + ((tl a (t :: l)).length - (t ++ tl t l).length), t, numT t⟩ :: us, e, ?_, .cons ⟨rfl, rfl, rfl⟩ h2, h3, h4⟩
    have hcons : t ++ tl t l = c :: (u ++ tl t l) := by rw [hcu]; rfl
    rw [LX.lexF, hsk, hcons]
    simp only
    rw [← hcons, htk]
    simp only
    rw [List.drop_left, List.take_left, h1]
    rfl
/-- The joint of tokens is lexed to these tokens. -/
theorem lex_joins {ts : List Bs} (h : ∀ t ∈ ts, VT t) (hd : Ad false ts) : ∃ us e, LX.lex (joins [] ts) = .ok (us ++ [e]) ∧ Mt ts us ∧ e.kind = 0 ∧ e.text = [] := by
  cases ts with
  | nil => exact ⟨[], ⟨0, 0, [], 0⟩, rfl, .nil, rfl, rfl⟩
  | cons t l =>
    have ht := h t (by simp)
    have hl : ∀ x ∈ l, VT x := fun x hx => h x (List.mem_cons_of_mem _ hx)
    have e0 : joins [] (t :: l) = t ++ tl t l := by
      show joins (join [] t) l = _
      rw [join_nil_left, joins_tl t l fun x hx => (hl x hx).ne]
    obtain ⟨c, u, hcu⟩ := List.exists_cons_of_ne_nil ht.ne
    have hl0 : 0 < t.length := by rw [hcu]; simp
    have htk := tok1_vt ht (tl_nx ht hl hd.2)
    obtain ⟨us, e, h1, h2, h3, h4⟩ := lexF_tl l t (t ++ tl t l).length (0 + ((t ++ tl t l).length - (t ++ tl t l).length) + t.length) ht hl hd.2 (by rw [List.length_append]; omega)
    refine ⟨⟨kindT t, 0 + ((t ++ tl t l).length - (t ++ tl t l).length), t, numT t⟩ :: us, e, ?_, .cons ⟨rfl, rfl, rfl⟩ h2, h3, h4⟩
    have hcons : t ++ tl t l = c :: (u ++ tl t l) := by rw [hcu]; rfl
    have hsk : LX.skip (t ++ tl t l) = t ++ tl t l := ht.fix
    rw [e0, LX.lex, LX.lexF, hsk, hcons]
    simp only
    rw [← hcons, htk]
    simp only
    rw [List.drop_left, List.take_left, h1]
    rfl
end Go.Proofs.YtlfpaemfhanpiaaGreatDoor.PP
