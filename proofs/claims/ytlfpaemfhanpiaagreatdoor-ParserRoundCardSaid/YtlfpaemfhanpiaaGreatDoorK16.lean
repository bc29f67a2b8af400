/-
  The printer: inWord, put. Conditions: no token is empty; the text's length.
-/
import Derived.Test.YtlfpaemfhanpiaaGreatDoorK15
import Derived.Deep.RegionHeld3
import Derived.Deep.DeepCutAuto

namespace Go.Proofs.YtlfpaemfhanpiaaGreatDoor
open Go Go.RowKit Go.Proofs
attribute [local go_sem] Oper.semAt_some

set_option maxHeartbeats 1000000 in
theorem inWord_any (c : UInt8) (W : World) : Calls Tryz.prog 68 #[.int .u8 ((c.toNat : Nat) : Int)] W fun e w' => e = .returned (.bool (LX.isA c)) ∧ w' = W := by
  obtain ⟨n, hn⟩ : ∃ n, c.toNat = n := ⟨_, rfl⟩
  have hA : LX.isA c = ((decide (97 ≤ n) && decide (n ≤ 122)) || (decide (48 ≤ n) && decide (n ≤ 57))) := by
    unfold LX.isA LX.isW LX.isD
    rw [hn]
  rw [hA, hn]
  clear hA hn
  by_cases h1 : 97 ≤ n
  · have g1 : decide ((97 : Int) ≤ (n : Int)) = true := decide_eq_true (by omega)
    by_cases h2 : n ≤ 122
    · have g2 : decide ((n : Int) ≤ 122) = true := decide_eq_true (by omega)
      rw [decide_eq_true h1, decide_eq_true h2]
      go_enter Tryz.func68, Tryz.ntmps68
      go_wp2_with fail
      go_ret
      exact ⟨rfl, rfl⟩
    · have g2 : decide ((n : Int) ≤ 122) = false := decide_eq_false (by omega)
      have g3 : decide ((48 : Int) ≤ (n : Int)) = true := decide_eq_true (by omega)
      have g4 : decide ((n : Int) ≤ 57) = false := decide_eq_false (by omega)
      rw [decide_eq_true h1, decide_eq_false h2, decide_eq_true (show 48 ≤ n by omega), decide_eq_false (show ¬ n ≤ 57 by omega)]
      go_enter Tryz.func68, Tryz.ntmps68
      go_wp2_with fail
      go_ret
      exact ⟨rfl, rfl⟩
  · have g1 : decide ((97 : Int) ≤ (n : Int)) = false := decide_eq_false (by omega)
    rw [decide_eq_false h1, Bool.false_and, Bool.false_or]
    by_cases h3 : 48 ≤ n
    · have g3 : decide ((48 : Int) ≤ (n : Int)) = true := decide_eq_true (by omega)
      rw [decide_eq_true h3, Bool.true_and]
      by_cases h4 : n ≤ 57
      · have g4 : decide ((n : Int) ≤ 57) = true := decide_eq_true (by omega)
        rw [decide_eq_true h4]
        go_enter Tryz.func68, Tryz.ntmps68
        go_wp2_with fail
        go_ret
        exact ⟨rfl, rfl⟩
      · have g4 : decide ((n : Int) ≤ 57) = false := decide_eq_false (by omega)
        rw [decide_eq_false h4]
        go_enter Tryz.func68, Tryz.ntmps68
        go_wp2_with fail
        go_ret
        exact ⟨rfl, rfl⟩
    · have g3 : decide ((48 : Int) ≤ (n : Int)) = false := decide_eq_false (by omega)
      rw [decide_eq_false h3, Bool.false_and]
      go_enter Tryz.func68, Tryz.ntmps68
      go_wp2_with fail
      go_ret
      exact ⟨rfl, rfl⟩
theorem info_u8 : (Tryz.prog.info? 5).map (fun i => (i.zero, i.size, i.bytes)) = some (some (.int .u8 0), 1, 1) := by kernel_rfl
theorem bs_size (t : PS.Bs) : (PS.bs t).size = t.length := by
  show t.toArray.size = _
  simp
theorem joins_take {x : PS.Bs} {ts : List PS.Bs} {j : Nat} {t : PS.Bs} (h : ts[j]? = some t) : PP.joins x (ts.take (j + 1)) = PP.join (PP.joins x (ts.take j)) t := by
  rw [List.take_add_one, h, PP.joins_append]
  rfl
theorem joins_mono (x : PS.Bs) (xs ys : List PS.Bs) : (PP.joins x xs).length ≤ (PP.joins x (xs ++ ys)).length := by
  rw [PP.joins_append]
  generalize PP.joins x xs = y
  rw [PP.joins_eq]
  exact (PP.join_big _ _).1
/-- What stands behind an append and ahead of the store. -/
theorem put_end {lo g : Nat} {W w2 : World} {x y : PS.Bs} {A : Option Addr} {c : Nat} {v' : Value} (h1 : W.heap[g]? = some (.cells #[.slice A x.length c] 51 (0, 0))) (h2 : W.ownsRow lo 5 1 (.slice A x.length c) x.length (bcells x)) (h0 : lo ≤ g) (hg : W.grownBy w2 (Value.slice A x.length c).ownBlock) (ho : w2.ownsRow lo 5 1 v' y.length (bcells y)) :
    w2.heap[g]? = some (.cells #[.slice A x.length c] 51 (0, 0)) ∧ w2.cell? ⟨g, 0, none⟩ = some (.slice A x.length c) ∧ w2.frozen? ⟨g, 0, none⟩ = false ∧ ∃ A2 c2, v' = .slice A2 y.length c2 ∧ Hid (PrV lo (w2.setCell ⟨g, 0, none⟩ (.slice A2 y.length c2)) g y ∧ QT lo W (w2.setCell ⟨g, 0, none⟩ (.slice A2 y.length c2))) ∧ Hid ((w2.setCell ⟨g, 0, none⟩ (.slice A2 y.length c2)).heap[g]? = some (.cells #[.slice A2 y.length c2] 51 (0, 0))) ∧ Hid ((w2.setCell ⟨g, 0, none⟩ (.slice A2 y.length c2)).ownsRow lo 5 1 (.slice A2 y.length c2) y.length (bcells y)) := by
  have hq := PrV.put h1 h2 h0 hg ho
  obtain ⟨A2, c2, rfl, _, _⟩ := own_slice ho
  have hne : ∀ k, (Value.slice A x.length c).ownBlock = some k → k ≠ g := fun k hk => by
    rcases h2.2 with ⟨e, _⟩ | ⟨q, cap, cur, e, _, hq, _⟩
    · rw [e] at hk; cases hk
    · rw [e] at hk
      injection hk with hk
      subst hk
      exact heapT_ne hq h1 (by decide)
  have hg2 := (hg.block g (heap_lt h1) (fun e => hne g e.symm rfl)).trans h1
  refine ⟨hg2, cell_of_row w2 g 0 _ _ (0, 0) hg2, by simp [World.frozen?, hg2], A2, c2, rfl, hq, row_one hg2 _, own_of_block ho fun b hb => Below.heap_setCell _ _ _ _ ?_⟩
  show b ≠ g
  rcases ho.2 with ⟨e, _⟩ | ⟨q, cap, cur, e, _, hq, _⟩
  · rw [e] at hb; cases hb
  · rw [e] at hb
    injection hb with hb
    subst hb
    exact heapT_ne hq hg2 (by decide)
set_option maxRecDepth 100000 in
set_option maxHeartbeats 8000000 in
theorem put_any (lo g : Nat) (x : PS.Bs) (ts : List PS.Bs) (W : World) (sb m : Nat) (hm : ts.length = m) (hm2 : m ≤ 1000) (hP : PrV lo W g x) (hlo : lo ≤ W.heap.size) (hs : W.heap[sb]? = some (.cells (ts.map fun t => Value.string (PS.bs t)).toArray 9 (0, 0))) (hne : ∀ t ∈ ts, t ≠ []) (hlen : (PP.joins x ts).length ≤ 100000) :
    Calls Tryz.prog 37 #[.pointer (some ⟨g, 0, none⟩), .slice (some ⟨sb, 0, none⟩) m m] W fun e w' => e = .returned (.tuple #[]) ∧ PrV lo w' g (PP.joins x ts) ∧ QT lo W w' := by
  obtain ⟨i0, hi0, hz0, hz1, hz2⟩ := info_parts info_u8
  have HZ := Lib.hid (And.intro hi0 (And.intro hz0 (And.intro hz1 hz2)))
  have HM := Lib.hid hm
  have HS := Lib.hid hs
  have HNE := Lib.hid hne
  have HP := Lib.hid hP
  have HLN := Lib.hid hlen
  clear hm hs hne hP hlen hi0 hz0 hz1 hz2
  go_enter Tryz.func37, Tryz.ntmps37
  go_wp2_with fail
  go_loopw [9] (fun i V => ∃ j : Nat, j ≤ m ∧ i = .int .i64 (j : Int) ∧ Hid (PrV lo V g (PP.joins x (ts.take j))) ∧ Hid (QT lo W V)) (fun i _ => m - (intOf i).toNat)
  case atStart => exact ⟨0, by omega, rfl, HP.out, QT.refl _ _⟩
  case round =>
    obtain ⟨j, hj, rfl, hPr, hQ⟩ := hrel
    by_cases hjm : j < m
    · obtain ⟨t, ht⟩ : ∃ t, ts[j]? = some t := ⟨ts[j]'(by rw [HM.out]; exact hjm), List.getElem?_eq_getElem _⟩
      have hsa := cell_of_row wr sb j _ _ (0, 0) (hQ.out.ty sb _ _ HS.out (by decide) (by decide))
      rw [List.getElem?_toArray, List.getElem?_map, ht] at hsa
      have hs0 : wr.cell? ⟨sb, j, none⟩ = some (.string (PS.bs t)) := hsa
      clear hsa
      obtain ⟨y, hy⟩ : ∃ y, PP.joins x (ts.take j) = y := ⟨_, rfl⟩
      have hyt : PP.joins x (ts.take (j + 1)) = PP.join y t := by rw [joins_take ht, hy]
      have hyl : (PP.join y t).length ≤ 100000 := by
        rw [← hyt]
        have := joins_mono x (ts.take (j + 1)) (ts.drop (j + 1))
        rw [List.take_append_drop] at this
        exact Nat.le_trans this HLN.out
      have htne := HNE.out t (List.mem_of_getElem? ht)
      rw [hy] at hPr
      obtain ⟨A, c, hb, hown, hlg⟩ := hPr.out.form
      have c0 : wr.cell? ⟨g, 0, none⟩ = some (.slice A y.length c) := cell_of_row wr g 0 _ _ (0, 0) hb
      have f0 : wr.frozen? ⟨g, 0, none⟩ = false := by simp [World.frozen?, hb]
      obtain ⟨S, hS⟩ : ∃ S, PS.bs t = S := ⟨_, rfl⟩
      have hSs : S.size = t.length := by rw [← hS, bs_size]
      have hSc : Go.Lib.strCells S = bcells t := by rw [← hS, strCells_bs]
      rw [hS] at hs0
      have hgap := PP.join_gap y t
      obtain ⟨x0, tt, htx⟩ := List.exists_cons_of_ne_nil htne
      have hS0 : 0 < S.size := by rw [hSs, htx]; simp
      have hS1 : S[0]'hS0 = x0 := by subst hS; subst htx; rfl
      have HYT := Lib.hid hyt
      rcases Nat.eq_zero_or_pos y.length with hy0 | hy0
      · -- nothing yet
        obtain rfl : y = [] := List.eq_nil_of_length_eq_zero hy0
        have hj0 : PP.join [] t = t := rfl
        rw [hj0] at hyt hyl
        have HYT := Lib.hid hyt
        have HB := Lib.hid hb
        have HOW := Lib.hid hown
        have hTl : t.length ≤ 100000 := hyl
        clear hyt hyl hgap hj0 hS1 hb hown htne ht hS htx hS0
        go_wp2_with (at_builtin; refine Go.Lib.wpList_append_own_string _ rfl _ _ 49 9 rfl lo 5 i0 Tryz.underlying49 Tryz.underlying9 HZ.out.1 HZ.out.2.1 HZ.out.2.2.1 HZ.out.2.2.2 (.slice A 0 c) 0 [] (by simp [Act.eval]) HOW.out S (by simp [Act.eval]) (by simp only [maxLen]; omega) (by omega) (by have := hQ.out.size; omega) ?_; intro v2 w2 hown2 hgrow2 _; obtain ⟨hg2, hc2, hf2, A2, cc2, rfl, HF, _, _⟩ := put_end (x := []) (y := t) HB.out HOW.out hlg hgrow2 (by rw [hSc, List.nil_append, hSs, Nat.zero_add] at hown2; exact hown2))
        go_roundw
        case rel => exact ⟨j + 1, by omega, by go_num, by show PrV _ _ _ _; rw [HYT.out]; exact HF.out.1, hQ.out.trans HF.out.2⟩
        case measure => simp [intOf]; omega
      · obtain ⟨n, hn⟩ : ∃ n, y.length = n := ⟨_, rfl⟩
        obtain ⟨k, hk⟩ : ∃ k, n = k + 1 := ⟨n - 1, by omega⟩
        obtain ⟨rb, hrb⟩ : ∃ rb, A = some ⟨rb, 0, none⟩ := by
          obtain ⟨q, cap, hv, _, _⟩ := World.ownsRow.form hown hy0
          injection hv with e1 _ _
          exact ⟨q, e1⟩
        obtain ⟨lb, hlb⟩ : ∃ lb, y[k]? = some lb := ⟨y[k]'(by omega), List.getElem?_eq_getElem _⟩
        have hlast : y.getLast? = some lb := by rw [List.getLast?_eq_getElem?, hn, hk]; exact hlb
        have hkc : wr.cell? ⟨rb, k, none⟩ = some (.int .u8 ((lb.toNat : Nat) : Int)) := by
          have := World.ownsRow.cells hown (g := rb) (by rw [hrb]; rfl) k (.int .u8 ((lb.toNat : Nat) : Int)) (by rw [bcells, List.getElem?_map, hlb]; rfl)
          rwa [Addr.add_lit, Nat.zero_add] at this
        have hhead : t.head? = some x0 := by rw [htx]; rfl
        have hks : (n : Int) - 1 = (k : Int) := by omega
        have hkn : k < n := by omega
        rw [hn] at c0 hb hown
        have hn1 : decide ((0 : Int) < (n : Int)) = true := decide_eq_true (by omega)
        have hgl : PP.join y t = y ++ PP.gap (some lb) (some x0) ++ t := by rw [hgap, hlast, hhead]
        rw [hgl] at hyl hyt
        have hnt : n + t.length ≤ 100000 := by simp only [List.length_append, hn] at hyl; omega
        have HB := Lib.hid hb
        have HOW := Lib.hid hown
        have HN := Lib.hid hn
        have HL := Lib.hid (inWord_any lb)
        have HX := Lib.hid (inWord_any x0)
        have HYL := Lib.hid hyl
        have HYT := Lib.hid hyt
        subst hrb
        clear hyt hyl hgap hgl hb hown htne ht hS htx hlast hhead hlb hn hk hn1
        cases e1 : LX.isA lb with
        | false =>
          have hg0 : PP.gap (some lb) (some x0) = [] := by unfold PP.gap; simp [e1]
          rw [hg0, List.append_nil] at HYT HYL
          rw [e1] at HL
          clear hg0 e1 HX
          go_wp2_with (first
            | (go_at_call 68; refine (HL.out _).mono ?_; rintro e wa ⟨rfl, hwa⟩; have hwa := hwa.symm; subst hwa; clear HL)
            | (at_builtin; refine Go.Lib.wpList_append_own_string _ rfl _ _ 49 9 rfl lo 5 i0 Tryz.underlying49 Tryz.underlying9 HZ.out.1 HZ.out.2.1 HZ.out.2.2.1 HZ.out.2.2.2 (.slice (some ⟨rb, 0, none⟩) n c) n (bcells y) (by simp [Act.eval]) HOW.out S (by simp [Act.eval]) (by simp only [maxLen]; omega) (by omega) (by have := hQ.out.size; omega) ?_; intro v2 w2 hown2 hgrow2 _; obtain ⟨hg2, hc2, hf2, A2, cc2, rfl, HF, _, _⟩ := put_end (x := y) (y := y ++ t) (by rw [HN.out]; exact HB.out) (by rw [HN.out]; exact HOW.out) hlg (by rw [HN.out]; exact hgrow2) (by rw [hSc, hSs, ← bcells_append] at hown2; rw [List.length_append, HN.out]; exact hown2); rw [HN.out] at hc2; rw [List.length_append] at HF))
          go_roundw
          case rel => exact ⟨j + 1, by omega, by go_num, by show PrV _ _ _ _; rw [HYT.out]; exact HF.out.1, hQ.out.trans HF.out.2⟩
          case measure => simp [intOf]; omega
        | true =>
          rw [e1] at HL
          cases e2 : LX.isA x0 with
          | false =>
            have hg0 : PP.gap (some lb) (some x0) = [] := by unfold PP.gap; simp [e2]
            rw [hg0, List.append_nil] at HYT HYL
            rw [e2] at HX
            clear hg0 e1 e2
            go_wp2_with (first
              | (go_at_call 68; with_reducible refine (HL.out _).mono ?_; rintro e wa ⟨rfl, hwa⟩; have hwa := hwa.symm; subst hwa; clear HL)
              | (go_at_call 68; with_reducible refine (HX.out _).mono ?_; rintro e wa ⟨rfl, hwa⟩; have hwa := hwa.symm; subst hwa; clear HX)
              | (at_builtin; refine Go.Lib.wpList_append_own_string _ rfl _ _ 49 9 rfl lo 5 i0 Tryz.underlying49 Tryz.underlying9 HZ.out.1 HZ.out.2.1 HZ.out.2.2.1 HZ.out.2.2.2 (.slice (some ⟨rb, 0, none⟩) n c) n (bcells y) (by simp [Act.eval]) HOW.out S (by simp [Act.eval]) (by simp only [maxLen]; omega) (by omega) (by have := hQ.out.size; omega) ?_; intro v2 w2 hown2 hgrow2 _; obtain ⟨hg2, hc2, hf2, A2, cc2, rfl, HF, _, _⟩ := put_end (x := y) (y := y ++ t) (by rw [HN.out]; exact HB.out) (by rw [HN.out]; exact HOW.out) hlg (by rw [HN.out]; exact hgrow2) (by rw [hSc, hSs, ← bcells_append] at hown2; rw [List.length_append, HN.out]; exact hown2); rw [HN.out] at hc2; rw [List.length_append] at HF))
            go_roundw
            case rel => exact ⟨j + 1, by omega, by go_num, by show PrV _ _ _ _; rw [HYT.out]; exact HF.out.1, hQ.out.trans HF.out.2⟩
            case measure => simp [intOf]; omega
          | true =>
            have hg0 : PP.gap (some lb) (some x0) = [32] := by unfold PP.gap; simp [e1, e2]
            rw [hg0] at HYT HYL
            rw [e2] at HX
            have hnt2 : n + 1 + t.length ≤ 100000 := by have := HYL.out; simp only [List.length_append, HN.out, List.length_singleton] at this; omega
            clear hg0 e1 e2
            go_wp2_with fail
            refine (HL.out _).mono ?_
            clear HL
            rintro e wa ⟨rfl, hwa⟩
            have hwa := hwa.symm
            subst hwa
            go_wp2_with fail
            refine (HX.out _).mono ?_
            clear HX
            rintro e wa ⟨rfl, hwa⟩
            have hwa := hwa.symm
            subst hwa
            obtain ⟨Wb, hWb⟩ : ∃ U, wr.alloc (.cells #[.int .u8 32] 5) = U := ⟨_, rfl⟩
            have zb : Wb.heap.size = wr.heap.size + 1 := by rw [← hWb, World.size_alloc]
            have bB : Below wr.heap.size wr Wb := by rw [← hWb]; exact (Below.refl _ _).alloc (Nat.le_refl _) _
            have HBb := Lib.hid ((bB.block g (heap_lt HB.out)).trans HB.out)
            have HOb := Lib.hid (own_of_block HOW.out (fun b hb => bB.block b (World.ownsRow.lt HOW.out b hb).2))
            have HQb := Lib.hid (hQ.out.trans (QT.of_below bB))
            have HCb := Lib.hid (show ∀ j u, ([Value.int .u8 32] : List Value)[j]? = some u → Wb.cell? ((⟨wr.heap.size, 0, none⟩ : Addr).add j) = some u from fun j u hu => by
              match j, hu with
              | 0, hu =>
                injection hu with hu
                subst hu
                rw [Addr.add_lit, ← hWb]
                exact cell_of_row _ _ 0 _ _ (0, 0) (World.alloc_heap_new wr _)
              | j + 1, hu => simp at hu)
            have HWb := Lib.hid hWb
            have cB : Wb.cell? ⟨g, 0, none⟩ = some (.slice (some ⟨rb, 0, none⟩) n c) := cell_of_row Wb g 0 _ _ (0, 0) HBb.out
            have fB : Wb.frozen? ⟨g, 0, none⟩ = false := by simp [World.frozen?, HBb.out]
            have hQb2 : lo ≤ Wb.heap.size := by have := hQ.out.size; omega
            clear hWb
            go_upto_region 5 with fail
            go_upto_region 6 with (at_builtin; rw [HWb.out]; refine wpList_append_own _ rfl _ _ 49 rfl lo 5 i0 _ 1 1 Tryz.underlying49 HZ.out.1 HZ.out.2.1 HZ.out.2.2.1 HZ.out.2.2.2 rfl (by decide) (.slice (some ⟨rb, 0, none⟩) n c) n (bcells y) (by simp [Act.eval]) HOb.out ⟨wr.heap.size, 0, none⟩ 1 1 [.int .u8 32] (by simp [Act.eval]) rfl HCb.out (by simp [Value.oneCell']) (by simp only [maxLen]; omega) (by omega) (by have := hQb2; omega) ?_; intro v2 w2 hown2 hgrow2 _; obtain ⟨hg2, hc2, hf2, A2, cc2, rfl, HF, HR2, HO2⟩ := put_end (x := y) (y := y ++ [32]) (by rw [HN.out]; exact HBb.out) (by rw [HN.out]; exact HOb.out) hlg (by rw [HN.out]; exact hgrow2) (by rw [List.length_append, HN.out]; show World.ownsRow _ _ _ _ _ _ (bcells (y ++ [32])); rw [bcells_append]; exact hown2); rw [HN.out] at hc2; have hl32 : (y ++ [32]).length = n + 1 := (by rw [List.length_append, HN.out]; rfl); rw [hl32] at HF HR2 HO2; clear HWb)
            obtain ⟨U, hU⟩ : ∃ U, w2.setCell ⟨g, 0, none⟩ (.slice A2 (n + 1) cc2) = U := ⟨_, rfl⟩
            rw [hU] at HF HR2 HO2 ⊢
            have c3 : U.cell? ⟨g, 0, none⟩ = some (.slice A2 (n + 1) cc2) := cell_of_row U g 0 _ _ (0, 0) HR2.out
            have f3 : U.frozen? ⟨g, 0, none⟩ = false := by simp [World.frozen?, HR2.out]
            have hQu := Lib.hid (HQb.out.trans HF.out.2)
            have hQu2 : lo ≤ U.heap.size := Nat.le_trans hlo hQu.out.size
            clear hg2 hc2 hf2 hU hgrow2 hown2 HF
            go_wp2_with (at_builtin; refine Go.Lib.wpList_append_own_string _ rfl _ _ 49 9 rfl lo 5 i0 Tryz.underlying49 Tryz.underlying9 HZ.out.1 HZ.out.2.1 HZ.out.2.2.1 HZ.out.2.2.2 (.slice A2 (n + 1) cc2) (n + 1) (bcells (y ++ [32])) (by simp [Act.eval]) HO2.out S (by simp [Act.eval]) (by simp only [maxLen]; omega) (by omega) hQu2 ?_; intro v3 w3 hown3 hgrow3 _; obtain ⟨hg3, hc3, hf3, A3, cc3, rfl, HF3, _, _⟩ := put_end (x := y ++ [32]) (y := y ++ [32] ++ t) (by rw [hl32]; exact HR2.out) (by rw [hl32]; exact HO2.out) hlg (by rw [hl32]; exact hgrow3) (by rw [hSc, hSs, ← bcells_append] at hown3; rw [List.length_append, hl32]; exact hown3); rw [hl32] at hc3; have hl33 : (y ++ [32] ++ t).length = n + 1 + t.length := (by rw [List.length_append, hl32]); rw [hl33] at HF3 ⊢)
            go_roundw
            case rel => exact ⟨j + 1, by omega, by go_num, by show PrV _ _ _ _; rw [HYT.out]; exact HF3.out.1, hQu.out.trans HF3.out.2⟩
            case measure => simp [intOf]; omega
    · obtain rfl : j = m := by omega
      have h := hPr.out
      rw [List.take_of_length_le (by rw [HM.out]; exact Nat.le_refl _)] at h
      have HH := Lib.hid h
      clear h
      go_wp2_with fail
      go_end0
      exact ⟨rfl, HH.out, hQ.out⟩
end Go.Proofs.YtlfpaemfhanpiaaGreatDoor
