/-
  The reference's Write and Same. Conditions: the lengths; the writes' cells are there.
-/
import Derived.Test.YtgdefhlcgmibcaaDkG
import Derived.Test.YtgdefhlcgmibcaaSameI
import Derived.Laws.StructEq
import Derived.ChangeKeysEq
import Derived.BigQuiet
namespace Go.Proofs.Ytgdefhlcgmibcaa
open Go Go.RowKit Go.Proofs
attribute [local go_sem] Oper.semAt_some

theorem refAfter_sp {lo lo' n c m q l : Nat} {A W : Option Addr} {xs : List Int} {ws : List DK.Wr} (w : World) (hl : l ≤ w.heap.size) (hx : Cls lo w A n c xs) (hw : Wrs lo' w W m q ws) (bn : n ≤ 1000) (bm : m ≤ 1000) (hin : ∀ x ∈ ws, 0 ≤ x.1 ∧ x.1 < (n : Int)) :
    Calls Try.prog 36 #[.slice A n c, .slice W m q] w fun e w' => (∃ y, e = .returned y ∧ (RgX.Sp.ints l (DK.app xs ws) n).p w' y) ∧ Below w.heap.size w w' :=
  (refAfter_any w hx hw bn bm hin).mono fun _ _ ⟨⟨B, r, e, ho⟩, hb⟩ => ⟨⟨_, e, B, r, rfl, (show Cls w.heap.size _ B n r _ from Rw.of_own ho).more hl⟩, hb⟩
set_option maxHeartbeats 4000000 in
set_option maxRecDepth 100000 in
theorem refWrite_any {lo : Nat} {x : Value} {d : DK.Dk} (a v : Int) (w : World) (h : DkAt lo w x d) (hin : DK.In d) (bn : d.cells.length ≤ 1000) (bm : d.pend.length ≤ 4) : Calls Try.prog 34 #[x, .int .i64 a, .int .i64 v] w fun e w' => (∃ y, e = .returned y ∧ DkAt 0 w' y (DK.write d a v)) ∧ Below w.heap.size w w' := by
  obtain ⟨A, n, c, P, m, q, rfl, h1, h2⟩ := h
  obtain ⟨U, hU, hbu, k0, k1, hz⟩ := dk_two_boxes w (.cells #[.slice A n c, .slice P m q] 26) (.cells #[.slice none 0 0, .slice none 0 0] 26)
  obtain ⟨c0, c1⟩ := dk_two k0
  have HK := Lib.hid (fun (V : World) (hV : Below U.heap.size U V) => dk_two ((hV.block _ (by omega)).trans k0))
  have HF := Lib.hid (fun (V : World) (hV : Below U.heap.size U V) => (hV.block _ (by omega)).trans k1)
  have HX := Lib.hid (fun (V : World) (hV : Below U.heap.size U V) => And.intro ((h1.keep hbu).keep hV) ((h2.keep hbu).keep hV))
  have HB := Lib.hid (And.intro hbu hz)
  have HN := Lib.hid (And.intro h1.len (And.intro h2.len (show ∀ x ∈ d.pend, 0 ≤ x.1 ∧ x.1 < (n : Int) by rw [← h1.len]; exact hin)))
  have H12 := Lib.hid (And.intro h1 h2)
  have hm3 : m ≤ 4 := by rw [← h2.len]; exact bm
  have hn3 : n ≤ 1000 := by rw [← h1.len]; exact bn
  clear k0 k1 hbu hz h1 h2 hin bn bm
  by_cases hr : 0 ≤ a ∧ a < (n : Int)
  · have HD := Lib.hid (show DK.write d a v = DK.full d a v by unfold DK.write; exact if_pos (by rw [HN.out.1]; exact hr))
    have HR := Lib.hid hr
    have g0 : decide (a < 0) = false := decide_eq_false (by omega)
    have g1 : decide (a ≥ (n : Int)) = false := decide_eq_false (by omega)
    obtain ⟨i0, hi, hz0, hz1, hz2⟩ := dk_info dk_wr
    have HI := Lib.hid (And.intro hi (And.intro hz0 (And.intro hz1 hz2)))
    obtain ⟨Y, hY⟩ : ∃ Y, U.alloc (.cells #[] 46) = Y := ⟨_, rfl⟩
    have hbY : Below U.heap.size U Y := hY ▸ dk_box U _
    have kY : Y.heap[U.heap.size]? = some (.cells #[] 46 (0, 0)) := by rw [← hY]; exact dk_new_at rfl
    obtain ⟨f0, f1⟩ := HK.out Y hbY
    have HS := Lib.hid (And.intro (Rw.src ((HX.out Y hbY).2)) (And.intro (own_empty (sz := 2) (base := U.heap.size) kY (Nat.le_refl _)) (And.intro hbY (And.intro hbY.size (show (DK.wrsC d.pend).length = m * 2 by rw [DK.wrsC_len, HN.out.2.1])))))
    have HM := Lib.hid (And.intro (show 0 + m ≤ maxLen by simp only [maxLen]; omega) (show (0 + m) * 16 ≤ 140737488355328 by omega))
    have HM2 := Lib.hid (And.intro (show m + 1 ≤ maxLen by simp only [maxLen]; omega) (show (m + 1) * 16 ≤ 140737488355328 by omega))
    clear hr hi hz0 hz1 hz2 hbY kY
    go_enter Try.func34, Try.ntmps34
    go_upto_region 4 with (first | (at_builtin; refine RgX.wpList_append_any rfl _ _ 24 rfl U.heap.size 46 i0 _ 2 16 Try.underlying24 HI.out.1 HI.out.2.1 HI.out.2.2.1 HI.out.2.2.2 rfl (by decide) _ 0 [] rfl HS.out.2.1 P m q (DK.wrsC d.pend) rfl HS.out.2.2.2.2 HS.out.1 (DK.wrsC_one _) HM.out.1 HM.out.2 HS.out.2.2.2.1 ?_; intro B2 r2 Z2 ho2 hg2; rw [Nat.zero_add, List.nil_append] at ho2; have HZ2 := Lib.hid (dk_grown HS.out.2.1 HS.out.2.2.1 hg2 HS.out.2.2.2.1); obtain ⟨Y3, hY3, hbY3, hsrc3⟩ := one_wr Z2 a v; have HY3 := Lib.hid (And.intro (dk_own_keep ho2 hbY3) (And.intro hsrc3 (And.intro (HZ2.out.trans (hbY3.mono HZ2.out.size)) (HZ2.out.trans (hbY3.mono HZ2.out.size)).size))); clear ho2 hg2 hbY3 hsrc3) | (at_builtin; refine RgX.wpList_append_any rfl _ _ 24 rfl U.heap.size 46 i0 _ 2 16 Try.underlying24 HI.out.1 HI.out.2.1 HI.out.2.2.1 HI.out.2.2.2 rfl (by decide) _ m (DK.wrsC d.pend) rfl HY3.out.1 (some ⟨Z2.heap.size, 0, none⟩) 1 1 (DK.wrC (a, v)) rfl rfl HY3.out.2.1 (wrC_one a v) HM2.out.1 HM2.out.2 HY3.out.2.2.2 ?_; intro B4 r4 Z4 ho4 hg4))
    obtain ⟨gB, rfl, hr1, hr2⟩ := own_addr ho4 (by omega)
    have HZ := Lib.hid (dk_grown HY3.out.1 HY3.out.2.2.1 hg4 HY3.out.2.2.2)
    have HO := Lib.hid (show Wrs U.heap.size Z4 (some ⟨gB, 0, none⟩) (m + 1) r4 (d.pend ++ [(a, v)]) from Rw.of_own (by rw [DK.wrsC_app]; exact ho4))
    obtain ⟨d0, d1⟩ := HK.out Z4 HZ.out
    clear ho4 hg4 hY hY3 HY3 HS c0 c1 f0 f1 hU
    by_cases h4 : m = 4
    · subst h4
      have HIN := Lib.hid (show ∀ x ∈ (d.pend ++ [(a, v)]).take 1, 0 ≤ x.1 ∧ x.1 < (n : Int) from fun x hx => by
        rcases List.mem_append.1 (List.mem_of_mem_take hx) with hx | hx
        · exact HN.out.2.2 x hx
        · simp at hx; subst hx; exact HR.out)
      go_upto_region 5 with fail
      clear d0 d1
      refine RgX.tail 8 (fun i => ( 30 + i)) (fun ix_ => match ix_ with | 0 => .v (.pointer (some ⟨w.heap.size, 0, none⟩)) | 1 => .v (.slice A n c) | 2 => .v (.slice (some ⟨gB, 0, none⟩) (4 + 1) r4) | 3 => .wrs U.heap.size ((d.pend ++ [(a, v)]).take 1) 1 | 4 => .ints U.heap.size (DK.app d.cells ((d.pend ++ [(a, v)]).take 1)) n | 5 => .v (.slice (some ⟨gB, 0, none⟩) (4 + 1) r4) | 6 => .wrs U.heap.size ((d.pend ++ [(a, v)]).drop 1) 4 | 7 => .dk U.heap.size ⟨DK.app d.cells ((d.pend ++ [(a, v)]).take 1), (d.pend ++ [(a, v)]).drop 1⟩ n 4 | _ => .any) _ (by kernel_rfl) rfl rfl (by kernel_rfl) (by kernel_rfl) (fun i hi => by show ( 30 + i) < 42; (repeat' split) <;> omega) (fun i j hi hj => by show ( 30 + i) = ( 30 + j) → i = j; (repeat' split) <;> omega) ?step ?fin
      case step =>
        intro L_ A_ w3 ix op_ hi hI ho hdep
        have hcase : ix = 0 ∨ ix = 1 ∨ ix = 2 ∨ ix = 3 ∨ ix = 4 ∨ ix = 5 ∨ ix = 6 ∨ ix = 7 := by omega
        have hh := hI.held
        clear hi
        rcases hcase with rfl | rfl | rfl | rfl | rfl | rfl | rfl | rfl
        · simp only [List.getElem?_toArray, List.getElem?_cons_zero, Option.some.injEq] at ho
          subst ho
          refine ⟨rfl, ?_⟩
          have e3 : A_.tmps[3]?.getD undef = .pointer (some ⟨w.heap.size, 0, none⟩) := by rw [hI.low 3 (by decide)]; rfl
          clear hI hdep
          exact .run rfl (.pointer (some ⟨w.heap.size, 0, none⟩)) w3 (by simp [execOp, go_sem, Act.eval, e3]) (Below.refl _ _) rfl
        · simp only [List.getElem?_toArray, List.getElem?_cons_succ, List.getElem?_cons_zero, Option.some.injEq] at ho
          subst ho
          refine ⟨rfl, ?_⟩
          have e30 : A_.tmps[30]?.getD undef = .pointer (some ⟨w.heap.size, 0, none⟩) := getD_of (hI.val_ (i := 0) rfl rfl (by decide) (hdep ⟨0, .data⟩ (by simp) rfl))
          clear hI hdep
          obtain ⟨d0, d1⟩ := HK.out w3 (HZ.out.trans (hh.mono HZ.out.size))
          exact .run rfl (.slice A n c) w3 (by simp [execOp, go_sem, Act.eval, *]) (Below.refl _ _) rfl
        · simp only [List.getElem?_toArray, List.getElem?_cons_succ, List.getElem?_cons_zero, Option.some.injEq] at ho
          subst ho
          refine ⟨rfl, ?_⟩
          have e7 : A_.tmps[7]?.getD undef = .slice (some ⟨gB, 0, none⟩) (4 + 1) r4 := by rw [hI.low 7 (by decide)]; rfl
          clear hI hdep
          exact .run rfl (.slice (some ⟨gB, 0, none⟩) (4 + 1) r4) w3 (by simp [execOp, go_sem, Act.eval, e7]) (Below.refl _ _) rfl
        · simp only [List.getElem?_toArray, List.getElem?_cons_succ, List.getElem?_cons_zero, Option.some.injEq] at ho
          subst ho
          refine ⟨rfl, ?_⟩
          have e32 : A_.tmps[32]?.getD undef = .slice (some ⟨gB, 0, none⟩) (4 + 1) r4 := getD_of (hI.val_ (i := 2) rfl rfl (by decide) (hdep ⟨2, .data⟩ (by simp) rfl))
          clear hI hdep
          have g2 : (1 : Int) ≤ (r4 : Int) := by omega
          exact .run rfl (.slice (some ⟨gB, 0, none⟩) 1 r4) w3 (by simp [execOp, go_sem, Act.eval, e32, g2]) (Below.refl _ _) ⟨_, _, rfl, wrs_front (HO.out.keep hh) (by omega)⟩
        · simp only [List.getElem?_toArray, List.getElem?_cons_succ, List.getElem?_cons_zero, Option.some.injEq] at ho
          subst ho
          refine ⟨rfl, ?_⟩
          have e31 : A_.tmps[31]?.getD undef = .slice A n c := getD_of (hI.val_ (i := 1) rfl rfl (by decide) (hdep ⟨1, .data⟩ (by simp) rfl))
          obtain ⟨_, e33, B33, r33, rfl, h33⟩ := hI.get_ (i := 3) (j := 33) rfl rfl (by decide) (hdep ⟨3, .data⟩ (by simp) rfl)
          clear hI hdep
          exact .call rfl 36 #[.slice A n c, .slice B33 1 r33] (by simp [go_sem, Act.eval, e31, e33]) (refAfter_sp w3 (Nat.le_trans HZ.out.size hh.size) (HX.out w3 (HZ.out.trans (hh.mono HZ.out.size))).1 h33 hn3 (by omega) HIN.out)
        · simp only [List.getElem?_toArray, List.getElem?_cons_succ, List.getElem?_cons_zero, Option.some.injEq] at ho
          subst ho
          refine ⟨rfl, ?_⟩
          have e7 : A_.tmps[7]?.getD undef = .slice (some ⟨gB, 0, none⟩) (4 + 1) r4 := by rw [hI.low 7 (by decide)]; rfl
          clear hI hdep
          exact .run rfl (.slice (some ⟨gB, 0, none⟩) (4 + 1) r4) w3 (by simp [execOp, go_sem, Act.eval, e7]) (Below.refl _ _) rfl
        · simp only [List.getElem?_toArray, List.getElem?_cons_succ, List.getElem?_cons_zero, Option.some.injEq] at ho
          subst ho
          refine ⟨rfl, ?_⟩
          have e35 : A_.tmps[35]?.getD undef = .slice (some ⟨gB, 0, none⟩) (4 + 1) r4 := getD_of (hI.val_ (i := 5) rfl rfl (by decide) (hdep ⟨5, .data⟩ (by simp) rfl))
          clear hI hdep
          have g3 : ¬ r4 = 1 := by omega
          exact .run rfl (.slice (some ⟨gB, 0 + 1 * 2, none⟩) 4 (r4 - 1)) w3 (by simp [execOp, go_sem, Act.eval, e35, g3]) (Below.refl _ _) ⟨_, _, rfl, wrs_part (HO.out.keep hh) (by omega)⟩
        · simp only [List.getElem?_toArray, List.getElem?_cons_succ, List.getElem?_cons_zero, Option.some.injEq] at ho
          subst ho
          refine ⟨rfl, ?_⟩
          obtain ⟨_, e34, B34, r34, rfl, h34⟩ := hI.get_ (i := 4) (j := 34) rfl rfl (by decide) (hdep ⟨4, .data⟩ (by simp) rfl)
          obtain ⟨_, e36, B36, r36, rfl, h36⟩ := hI.get_ (i := 6) (j := 36) rfl rfl (by decide) (hdep ⟨6, .data⟩ (by simp) rfl)
          clear hI hdep
          exact .run rfl (.agg #[.slice B34 n r34, .slice B36 4 r36]) w3 (by simp [execOp, go_sem, Act.eval, e34, e36]) (Below.refl _ _) ⟨_, _, _, _, rfl, h34, h36⟩
      case fin =>
      intro A_ w3 hs hd hlow hS hok
      obtain ⟨_, hy33, B33, r33, rfl, h33⟩ := hok 3 33 _ (by decide) rfl rfl
      obtain ⟨_, hy34, B34, r34, rfl, h34⟩ := hok 4 34 _ (by decide) rfl rfl
      obtain ⟨_, hy36, B36, r36, rfl, h36⟩ := hok 6 36 _ (by decide) rfl rfl
      obtain ⟨_, hy37, A37, c37, P37, q37, rfl, h37, k37⟩ := hok 7 37 _ (by decide) rfl rfl
      obtain rfl : A_ = ⟨#[.agg #[.slice A n c, .slice P 4 q], .int .i64 a, .int .i64 v, .pointer (some ⟨w.heap.size, 0, none⟩), undef, undef, .pointer (some ⟨w.heap.size + 1, 0, none⟩), .slice (some ⟨gB, 0, none⟩) (4 + 1) r4, .int .i64 a, .bool false, .bool false, .int .i64 a, .pointer (some ⟨w.heap.size, 0, none⟩), .slice A n c, .int .i64 (n : Int), .bool false, .bool false, undef, .slice (some ⟨U.heap.size, 0, none⟩) 0 0, .pointer (some ⟨w.heap.size, 1, none⟩), .slice P 4 q, .slice B2 4 r2, .int .i64 a, .int .i64 v, .agg #[.int .i64 a, .int .i64 v], .slice (some ⟨Z2.heap.size, 0, none⟩) 1 1, .slice (some ⟨gB, 0, none⟩) (4 + 1) r4, .slice (some ⟨gB, 0, none⟩) (4 + 1) r4, .int .i64 5, .bool true, .pointer (some ⟨w.heap.size, 0, none⟩), .slice A n c, .slice (some ⟨gB, 0, none⟩) (4 + 1) r4, .slice B33 1 r33, .slice B34 n r34, .slice (some ⟨gB, 0, none⟩) (4 + 1) r4, .slice B36 4 r36, .agg #[.slice A37 n c37, .slice P37 4 q37], undef, undef, undef, undef], []⟩ := act_ext hd hs (fun j hj => match j, hj with | 0, _ => (hlow 0 (by decide)).trans rfl | 1, _ => (hlow 1 (by decide)).trans rfl | 2, _ => (hlow 2 (by decide)).trans rfl | 3, _ => (hlow 3 (by decide)).trans rfl | 4, _ => (hlow 4 (by decide)).trans rfl | 5, _ => (hlow 5 (by decide)).trans rfl | 6, _ => (hlow 6 (by decide)).trans rfl | 7, _ => (hlow 7 (by decide)).trans rfl | 8, _ => (hlow 8 (by decide)).trans rfl | 9, _ => (hlow 9 (by decide)).trans rfl | 10, _ => (hlow 10 (by decide)).trans rfl | 11, _ => (hlow 11 (by decide)).trans rfl | 12, _ => (hlow 12 (by decide)).trans rfl | 13, _ => (hlow 13 (by decide)).trans rfl | 14, _ => (hlow 14 (by decide)).trans rfl | 15, _ => (hlow 15 (by decide)).trans rfl | 16, _ => (hlow 16 (by decide)).trans rfl | 17, _ => (hlow 17 (by decide)).trans rfl | 18, _ => (hlow 18 (by decide)).trans rfl | 19, _ => (hlow 19 (by decide)).trans rfl | 20, _ => (hlow 20 (by decide)).trans rfl | 21, _ => (hlow 21 (by decide)).trans rfl | 22, _ => (hlow 22 (by decide)).trans rfl | 23, _ => (hlow 23 (by decide)).trans rfl | 24, _ => (hlow 24 (by decide)).trans rfl | 25, _ => (hlow 25 (by decide)).trans rfl | 26, _ => (hlow 26 (by decide)).trans rfl | 27, _ => (hlow 27 (by decide)).trans rfl | 28, _ => (hlow 28 (by decide)).trans rfl | 29, _ => (hlow 29 (by decide)).trans rfl | 30, _ => RgX.val_at (hok 0 30 _ (by decide) rfl rfl) | 31, _ => RgX.val_at (hok 1 31 _ (by decide) rfl rfl) | 32, _ => RgX.val_at (hok 2 32 _ (by decide) rfl rfl) | 33, _ => hy33 | 34, _ => hy34 | 35, _ => RgX.val_at (hok 5 35 _ (by decide) rfl rfl) | 36, _ => hy36 | 37, _ => hy37 | 38, _ => (hlow 38 (by decide)).trans rfl | 39, _ => (hlow 39 (by decide)).trans rfl | 40, _ => (hlow 40 (by decide)).trans rfl | 41, _ => (hlow 41 (by decide)).trans rfl | n + 42, h => absurd h (by show ¬ n + 42 < 42; omega))
      clear hs hd hlow hok hy33 hy34 hy36 hy37
      refine dk_store rfl _ _ rfl (w.heap.size + 1) A37 n c37 P37 4 q37 _ _ rfl rfl (HF.out w3 (HZ.out.trans (hS.mono HZ.out.size))) ?_
      intro W4 k4 ho4 hz4 hb4
      have HR4 := Lib.hid (And.intro h37 k37)
      have HS := Lib.hid (And.intro (HZ.out.trans (hS.mono HZ.out.size)) (And.intro ho4 (And.intro hz4 hb4)))
      clear h37 k37 hS ho4 hz4 hb4 h34 h36 h33
      go_wp2_with fail
      refine bodyPost_ret (dk_ret rfl _ rfl k4) rfl ?_
      obtain ⟨hbu, hz⟩ := HB.out
      obtain ⟨hS, ho4, hz4, hb4⟩ := HS.out
      have hD : (⟨DK.app d.cells ((d.pend ++ [(a, v)]).take 1), (d.pend ++ [(a, v)]).drop 1⟩ : DK.Dk) = DK.write d a v := by
        rw [HD.out]
        unfold DK.full
        rw [HN.out.2.1]
      rw [← hD]
      exact ⟨⟨_, rfl, _, _, _, _, _, _, rfl, dk_moveC HR4.out.1 (fun g hg => ho4 g (by omega)) (by omega), dk_moveW HR4.out.2 (fun g hg => ho4 g (by omega)) (by omega)⟩, (hbu.trans (hS.mono hbu.size)).trans (hb4.mono (by omega))⟩
    · have g5 : decide (m + 1 > 4) = false := decide_eq_false (by omega)
      have g6 : decide ((m : Int) + 1 > 4) = false := decide_eq_false (by omega)
      have HF4 := Lib.hid (HF.out Z4 HZ.out)
      go_wp2_with (refine dk_store rfl _ _ rfl (w.heap.size + 1) A n c (some ⟨gB, 0, none⟩) (m + 1) r4 _ _ rfl rfl HF4.out ?_; intro w5 k5 ho5 hz5 hb5)
      refine bodyPost_ret (dk_ret rfl _ rfl k5) rfl ?_
      obtain ⟨hbu, hz⟩ := HB.out
      have hD : (⟨d.cells, d.pend ++ [(a, v)]⟩ : DK.Dk) = DK.write d a v := by
        rw [HD.out]
        unfold DK.full
        rw [HN.out.2.1, show m + 1 - 4 = 0 by omega]
        rfl
      rw [← hD]
      have hfin := (hbu.trans (HZ.out.mono hbu.size)).trans (hb5.mono (by omega))
      exact ⟨⟨_, rfl, _, _, _, _, _, _, rfl, (H12.out.1.keep hfin).more (Nat.zero_le _), dk_moveW HO.out (fun g hg => ho5 g (by omega)) (by omega)⟩, hfin⟩
  · have HD := Lib.hid (show DK.write d a v = d by unfold DK.write; exact if_neg (by rw [HN.out.1]; exact hr))
    have HF4 := Lib.hid (HF.out U (Below.refl _ _))
    by_cases h0 : a < 0
    · have g0 : decide (a < 0) = true := decide_eq_true h0
      clear hr
      go_enter Try.func34, Try.ntmps34
      go_wp2_with (refine dk_store rfl _ _ rfl (w.heap.size + 1) A n c P m q _ _ rfl rfl HF4.out ?_; intro w5 k5 ho5 hz5 hb5)
      refine bodyPost_ret (dk_ret rfl _ rfl k5) rfl ?_
      obtain ⟨hbu, hz⟩ := HB.out
      have hfin := hbu.trans (hb5.mono (by omega))
      rw [HD.out]
      exact ⟨⟨_, rfl, _, _, _, _, _, _, rfl, (H12.out.1.keep hfin).more (Nat.zero_le _), (H12.out.2.keep hfin).more (Nat.zero_le _)⟩, hfin⟩
    · have g0 : decide (a < 0) = false := decide_eq_false h0
      have g1 : decide (a ≥ (n : Int)) = true := decide_eq_true (by omega)
      clear hr
      go_enter Try.func34, Try.ntmps34
      go_wp2_with (refine dk_store rfl _ _ rfl (w.heap.size + 1) A n c P m q _ _ rfl rfl HF4.out ?_; intro w5 k5 ho5 hz5 hb5)
      refine bodyPost_ret (dk_ret rfl _ rfl k5) rfl ?_
      obtain ⟨hbu, hz⟩ := HB.out
      have hfin := hbu.trans (hb5.mono (by omega))
      rw [HD.out]
      exact ⟨⟨_, rfl, _, _, _, _, _, _, rfl, (H12.out.1.keep hfin).more (Nat.zero_le _), (H12.out.2.keep hfin).more (Nat.zero_le _)⟩, hfin⟩
end Go.Proofs.Ytgdefhlcgmibcaa
