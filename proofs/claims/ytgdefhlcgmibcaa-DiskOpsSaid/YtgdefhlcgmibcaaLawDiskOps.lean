/-
  The walk of DiskOps: the package and the reference do the same. No condition.
-/
import Derived.Test.YtgdefhlcgmibcaaDkO
namespace Go.Proofs.Ytgdefhlcgmibcaa.LawDiskOps
open Go Go.RowKit Go.Proofs Go.Proofs.Ytgdefhlcgmibcaa
attribute [local go_sem] Oper.semAt_some

theorem view_sp {lo : Nat} {x : Value} {d : DK.Dk} (w : World) (h : DkAt lo w x d) (hd : DK.Ok d) : Calls Try.prog 19 #[x] w fun e w' => (∃ y, e = .returned y ∧ (RgX.Sp.ints 0 (DK.view d) (DK.view d).length).p w' y) ∧ Below w.heap.size w w' :=
  (view_any w h (by have := hd.size; omega) (by have := hd.pend; omega)).mono fun _ _ ⟨⟨g, e, hl, hg⟩, hb⟩ => ⟨⟨_, e, some ⟨g, 0, none⟩, d.cells.length, by rw [DK.view_len], Cls.of_block hg (Nat.zero_le _) rfl (by rw [DK.view_len]; have := hd.size; omega) |> fun h => by rw [DK.view_len] at h ⊢; exact h⟩, hb⟩
theorem refView_sp {lo : Nat} {x : Value} {d : DK.Dk} (w : World) (h : DkAt lo w x d) (hd : DK.Ok d) : Calls Try.prog 20 #[x] w fun e w' => (∃ y, e = .returned y ∧ (RgX.Sp.ints 0 (DK.view d) (DK.view d).length).p w' y) ∧ Below w.heap.size w w' :=
  (refView_any w h hd.in_ (by have := hd.size; omega) (by have := hd.pend; omega)).mono fun _ _ ⟨⟨B, r, e, ho⟩, hb⟩ => ⟨⟨_, e, B, r, by rw [DK.view_len], by rw [DK.view_len]; exact Rw.more (Rw.of_own ho) (Nat.zero_le _)⟩, hb⟩
theorem same_true {lo lo' : Nat} {x y : Value} {d : DK.Dk} (w : World) (hx : DkAt lo w x d) (hy : DkAt lo' w y d) (hd : DK.Ok d) : Calls Try.prog 17 #[x, y] w fun r w' => r = .returned (.bool true) ∧ Below w.heap.size w w' := by
  have := refSame_any w hx hy (by have := hd.size; omega) (by have := hd.pend; omega)
  rwa [decide_eq_true ⟨rfl, rfl⟩] at this
set_option maxHeartbeats 8000000 in
set_option maxRecDepth 100000 in
theorem walk (a0 : Int) (a1 : Option Addr) (len1 cap1 : Nat) (z1 : List Int) (w : World) (w0 : (Lit.int .i64 a0).wf = true) (w1 : Row .i64 w a1 len1 cap1 z1) :
    Calls Try.prog 3 #[.int .i64 a0, .slice a1 len1 cap1] w fun e w' => e = .returned (.bool true) ∧ Below w.heap.size w w' := by
  have hc : I64 a0 := by have := bounds_i64 w0; unfold I64; omega
  obtain ⟨hz, _, _, hwf⟩ := w1.ints
  obtain ⟨zs, hzs⟩ : ∃ zs, z1.take len1 = zs := ⟨_, rfl⟩
  rw [hzs] at hz hwf
  have h64 := i64_of hwf
  clear w0 w1 hzs hwf
  obtain ⟨k, hk⟩ : ∃ k : Nat, around a0 7 = (k : Int) := ⟨_, (Int.toNat_of_nonneg (around_in a0 7 (by omega)).1).symm⟩
  have hk7 : k < 7 := by have := (around_in a0 7 (by omega)).2; omega
  have HA := Lib.hid (fun V => around_any a0 7 hc (by omega) (by omega) V)
  rw [hk] at HA
  have HZ := Lib.hid (And.intro hz h64)
  have HNW := Lib.hid (new_any k (by omega) w)
  clear hz h64 hc hk
  go_enter Try.func3, Try.ntmps3
  go_upto_region 3 with (first | (go_at_call 11; refine (HA.out _).mono ?_; rintro e w2 ⟨rfl, rfl⟩) | (go_at_call 12; refine HNW.out.mono ?_; rintro e w2 ⟨⟨y, rfl, A2, n2, c2, P2, m2, q2, rfl, j1, j2⟩, hb2⟩; have HJ := Lib.hid (And.intro (show DkAt 0 w2 (.agg #[.slice A2 n2 c2, .slice P2 m2 q2]) (DK.new k) from ⟨A2, n2, c2, P2, m2, q2, rfl, j1.more (Nat.zero_le _), j2.more (Nat.zero_le _)⟩) hb2); clear j1 j2 hb2) | (refine dk_store rfl _ _ rfl w2.heap.size A2 n2 c2 P2 m2 q2 _ _ rfl rfl (dk_new_at rfl) ?_; intro w3 k3 ho3 hz3 hb3))
  have H3 := Lib.hid (And.intro k3 (And.intro (HJ.out.1.keep ((dk_box w2 _).trans hb3)) (And.intro (HJ.out.2.trans (((dk_box w2 _).trans hb3).mono HJ.out.2.size)) (show w3.heap.size = w2.heap.size + 1 by rw [hz3]; simp))))
  clear k3 ho3 hz3 hb3
  have HNR := Lib.hid (refNew_any k (by omega) w3)
  go_upto_region 4 with (first | (go_at_call 13; refine HNR.out.mono ?_; rintro e w4 ⟨⟨y, rfl, A4, n4, c4, P4, m4, q4, rfl, j1, j2⟩, hb4⟩; have HJ4 := Lib.hid (And.intro (show DkAt 0 w4 (.agg #[.slice A4 n4 c4, .slice P4 m4 q4]) (DK.new k) from ⟨A4, n4, c4, P4, m4, q4, rfl, j1.more (Nat.zero_le _), j2.more (Nat.zero_le _)⟩) hb4); clear j1 j2 hb4) | (refine dk_store rfl _ _ rfl w4.heap.size A4 n4 c4 P4 m4 q4 _ _ rfl rfl (dk_new_at rfl) ?_; intro w5 k5 ho5 hz5 hb5))
  have hb35 : Below w3.heap.size w3 w5 := HJ4.out.2.trans (((dk_box w4 _).trans hb5).mono HJ4.out.2.size)
  have H5 := Lib.hid (And.intro ((hb35.block _ (by have := H3.out.2.2.2; omega)).trans H3.out.1) (And.intro (H3.out.2.1.keep hb35) (And.intro k5 (And.intro (HJ4.out.1.keep ((dk_box w4 _).trans hb5)) (And.intro (H3.out.2.2.1.trans (hb35.mono H3.out.2.2.1.size)) (show w2.heap.size < w4.heap.size by have := H3.out.2.2.2; have := HJ4.out.2.size; omega))))))
  clear k5 ho5 hz5 hb5 hb35
  have hz5 := HZ.out.1.below H5.out.2.2.2.2.1
  have HOP := Lib.hid (ops_any w5 (c := cap1) (hz5.more H5.out.2.2.2.2.1.size) HZ.out.2)
  clear hz5
  go_wp2_with (go_at_call 14; refine HOP.out.mono ?_; rintro e w6 ⟨⟨B, r, rfl, jo⟩, hb6⟩)
  obtain ⟨L, hL⟩ : ∃ L, (DK.ops zs).length = L := ⟨_, rfl⟩
  have hL20 : L ≤ 20 := by rw [← hL]; exact ops_le zs
  rw [hL] at jo ⊢
  have HL := Lib.hid hL
  have H6 := Lib.hid (And.intro jo (And.intro ((hb6.block _ (blk_lt H5.out.1)).trans H5.out.1) (And.intro (H5.out.2.1.keep hb6) (And.intro ((hb6.block _ (blk_lt H5.out.2.2.1)).trans H5.out.2.2.1) (And.intro (H5.out.2.2.2.1.keep hb6) (H5.out.2.2.2.2.1.trans (hb6.mono H5.out.2.2.2.2.1.size)))))))
  have hne : w2.heap.size < w4.heap.size := H5.out.2.2.2.2.2
  have hwl : w.heap.size ≤ w2.heap.size := HJ.out.2.size
  clear jo hb6 hL HOP HNW HNR HA
  go_loopw [9] (fun i V => ∃ (j : Nat) (A n c P m q A' n' c' P' m' q' : _), j ≤ L ∧ i = .int .i64 (j : Int) ∧ Hid (V.heap[w2.heap.size]? = some (.cells #[.slice A n c, .slice P m q] 26 (0, 0))) ∧ Hid (DkAt 0 V (.agg #[.slice A n c, .slice P m q]) (DK.steps (DK.new k) ((DK.ops zs).take j))) ∧ Hid (V.heap[w4.heap.size]? = some (.cells #[.slice A' n' c', .slice P' m' q'] 26 (0, 0))) ∧ Hid (DkAt 0 V (.agg #[.slice A' n' c', .slice P' m' q']) (DK.steps (DK.new k) ((DK.ops zs).take j))) ∧ Hid (Below w.heap.size w V) ∧ Hid (KeepD w6 V)) (fun i _ => L - (intOf i).toNat)
  case atStart => exact ⟨0, A2, n2, c2, P2, m2, q2, A4, n4, c4, P4, m4, q4, by omega, rfl, H6.out.2.1, H6.out.2.2.1, H6.out.2.2.2.1, H6.out.2.2.2.2.1, H6.out.2.2.2.2.2, KeepD.refl _⟩
  case round =>
    obtain ⟨j, A, n, c, P, m, q, A', n', c', P', m', q', hj, rfl, HB1, HD1, HB2, HD2, HB, HKD⟩ := hrel
    by_cases hin : j < L
    · have dj : decide (j < L) = true := decide_eq_true hin
      have HOV := Lib.hid (H6.out.1.keepD HKD.out)
      obtain ⟨gO, offO, o, K, kc, rfl, hgO, hoj, hbl, o0, o1, o2, o3⟩ := HOV.out.at_ hin
      have HC := Lib.hid (fun (V : World) (hV : Below wr.heap.size wr V) => And.intro (dk_two ((hV.block _ (blk_lt HB1.out)).trans HB1.out)) (And.intro ((hV.cell (p := ⟨gO, offO + j * 4, none⟩) hgO).trans o0) (And.intro ((hV.cell (p := ⟨gO, offO + j * 4 + 1, none⟩) hgO).trans o1) (And.intro ((hV.cell (p := ⟨gO, offO + j * 4 + 2, none⟩) hgO).trans o2) ((hV.cell (p := ⟨gO, offO + j * 4 + 3, none⟩) hgO).trans o3)))))
      have HOK := Lib.hid (And.intro (show DK.Ok (DK.steps (DK.new k) ((DK.ops zs).take j)) from DK.ok_steps (DK.ok_new _ (by omega)) fun o ho => DK.ops_ok zs o (List.mem_of_mem_take ho)) (DK.ops_ok zs o (List.mem_of_getElem? hoj)))
      have HST := Lib.hid (DK.steps_take (d := DK.new k) hoj)
      have HBL := Lib.hid hbl
      clear o0 o1 o2 o3 hbl
      obtain ⟨dj1, hdj1⟩ : ∃ d1, DK.steps (DK.new k) ((DK.ops zs).take j) = d1 := ⟨_, rfl⟩
      rw [hdj1] at HD1 HD2 HOK HST
      have HOJ := Lib.hid hoj
      clear hdj1 hoj
      go_upto_region 8 with fail
      refine RgX.tail 6 (fun i => ( 24 + i)) (fun ix_ => match ix_ with | 0 => .v (.agg #[.slice A n c, .slice P m q]) | 1 => .v (.slice (some { block := gO, off := offO }) L r) | 2 => .v (.int .i64 (j : Int)) | 3 => .v (.pointer (some ⟨gO, offO + j * 4, none⟩)) | 4 => .v (.agg #[.int .i64 o.op, .int .i64 o.cell, .int .i64 o.value, .slice K o.keep.length kc]) | 5 => .dkv 0 (DK.step dj1 o) | _ => .any) _ (by kernel_rfl) rfl rfl (by kernel_rfl) (by kernel_rfl) (fun i hi => by show ( 24 + i) < 49; (repeat' split) <;> omega) (fun i j hi hj => by show ( 24 + i) = ( 24 + j) → i = j; (repeat' split) <;> omega) ?step ?fin
      case step =>
        intro L_ A_ w3 ix op_ hi hI ho hdep
        have hcase : ix = 0 ∨ ix = 1 ∨ ix = 2 ∨ ix = 3 ∨ ix = 4 ∨ ix = 5 := by omega
        have hh := hI.held
        clear hi
        rcases hcase with rfl | rfl | rfl | rfl | rfl | rfl
        · simp only [List.getElem?_toArray, List.getElem?_cons_zero, Option.some.injEq] at ho
          subst ho
          refine ⟨rfl, ?_⟩
          have e6 : A_.tmps[6]?.getD undef = .pointer (some ⟨w2.heap.size, 0, none⟩) := by rw [hI.low 6 (by decide)]; rfl
          clear hI hdep
          obtain ⟨⟨d0, d1⟩, _⟩ := HC.out w3 hh
          exact .run rfl (.agg #[.slice A n c, .slice P m q]) w3 (by simp [execOp, go_sem, Act.eval, *]) (Below.refl _ _) rfl
        · simp only [List.getElem?_toArray, List.getElem?_cons_succ, List.getElem?_cons_zero, Option.some.injEq] at ho
          subst ho
          refine ⟨rfl, ?_⟩
          have e8 : A_.tmps[8]?.getD undef = .slice (some { block := gO, off := offO }) L r := by rw [hI.low 8 (by decide)]; rfl
          clear hI hdep
          exact .run rfl (.slice (some { block := gO, off := offO }) L r) w3 (by simp [execOp, go_sem, Act.eval, e8]) (Below.refl _ _) rfl
        · simp only [List.getElem?_toArray, List.getElem?_cons_succ, List.getElem?_cons_zero, Option.some.injEq] at ho
          subst ho
          refine ⟨rfl, ?_⟩
          have e9 : A_.tmps[9]?.getD undef = .int .i64 (j : Int) := by rw [hI.low 9 (by decide)]; rfl
          clear hI hdep
          exact .run rfl (.int .i64 (j : Int)) w3 (by simp [execOp, go_sem, Act.eval, e9]) (Below.refl _ _) rfl
        · simp only [List.getElem?_toArray, List.getElem?_cons_succ, List.getElem?_cons_zero, Option.some.injEq] at ho
          subst ho
          refine ⟨rfl, ?_⟩
          have e25 : A_.tmps[25]?.getD undef = .slice (some { block := gO, off := offO }) L r := getD_of (hI.val_ (i := 1) rfl rfl (by decide) (hdep ⟨1, .data⟩ (by simp) rfl))
          have e26 : A_.tmps[26]?.getD undef = .int .i64 (j : Int) := getD_of (hI.val_ (i := 2) rfl rfl (by decide) (hdep ⟨2, .data⟩ (by simp) rfl))
          clear hI hdep
          exact .run rfl (.pointer (some ⟨gO, offO + j * 4, none⟩)) w3 (by simp [execOp, go_sem, Act.eval, e25, e26]; omega) (Below.refl _ _) rfl
        · simp only [List.getElem?_toArray, List.getElem?_cons_succ, List.getElem?_cons_zero, Option.some.injEq] at ho
          subst ho
          refine ⟨rfl, ?_⟩
          have e27 : A_.tmps[27]?.getD undef = .pointer (some ⟨gO, offO + j * 4, none⟩) := getD_of (hI.val_ (i := 3) rfl rfl (by decide) (hdep ⟨3, .data⟩ (by simp) rfl))
          clear hI hdep
          obtain ⟨_, x0, x1, x2, x3⟩ := HC.out w3 hh
          exact .run rfl (.agg #[.int .i64 o.op, .int .i64 o.cell, .int .i64 o.value, .slice K o.keep.length kc]) w3 (by simp [execOp, go_sem, Act.eval, e27, x0, x1, x2, x3]) (Below.refl _ _) rfl
        · simp only [List.getElem?_toArray, List.getElem?_cons_succ, List.getElem?_cons_zero, Option.some.injEq] at ho
          subst ho
          refine ⟨rfl, ?_⟩
          have e24 : A_.tmps[24]?.getD undef = .agg #[.slice A n c, .slice P m q] := getD_of (hI.val_ (i := 0) rfl rfl (by decide) (hdep ⟨0, .data⟩ (by simp) rfl))
          have e28 : A_.tmps[28]?.getD undef = .agg #[.int .i64 o.op, .int .i64 o.cell, .int .i64 o.value, .slice K o.keep.length kc] := getD_of (hI.val_ (i := 4) rfl rfl (by decide) (hdep ⟨4, .data⟩ (by simp) rfl))
          clear hI hdep
          exact .call rfl 15 #[.agg #[.slice A n c, .slice P m q], .agg #[.int .i64 o.op, .int .i64 o.cell, .int .i64 o.value, .slice K o.keep.length kc]] (by simp [go_sem, Act.eval, e24, e28]) (RgX.dkv_calls (do_any w3 (HD1.out.keep hh) HOK.out.1 (HBL.out.keep hh) HOK.out.2) (Nat.zero_le _))
      case fin =>
      intro A_ w3 hs hd hlow hS hok
      obtain ⟨_, hy29, A29, n29, c29, P29, m29, q29, rfl, h29, k29⟩ := hok 5 29 _ (by decide) rfl rfl
      obtain rfl : A_ = ⟨#[.int .i64 a0, .slice a1 len1 cap1, undef, undef, u4, .int .i64 (k : Int), .pointer (some ⟨w2.heap.size, 0, none⟩), .pointer (some ⟨w4.heap.size, 0, none⟩), .slice (some { block := gO, off := offO }) L r, .int .i64 (j : Int), .int .i64 a0, .int .i64 (k : Int), .int .i64 (k : Int), .agg #[.slice A2 n2 c2, .slice P2 m2 q2], .int .i64 (k : Int), .agg #[.slice A4 n4 c4, .slice P4 m4 q4], .slice a1 len1 cap1, .slice (some { block := gO, off := offO }) L r, .int .i64 (j : Int), .slice (some { block := gO, off := offO }) L r, .int .i64 (L : Int), .bool true, u22, u23, .agg #[.slice A n c, .slice P m q], .slice (some { block := gO, off := offO }) L r, .int .i64 (j : Int), .pointer (some ⟨gO, offO + j * 4, none⟩), .agg #[.int .i64 o.op, .int .i64 o.cell, .int .i64 o.value, .slice K o.keep.length kc], .agg #[.slice A29 n29 c29, .slice P29 m29 q29], u30, u31, u32, u33, u34, u35, u36, u37, u38, u39, u40, u41, u42, u43, u44, u45, u46, u47, undef], []⟩ := act_ext hd hs (fun j hj => match j, hj with | 0, _ => (hlow 0 (by decide)).trans rfl | 1, _ => (hlow 1 (by decide)).trans rfl | 2, _ => (hlow 2 (by decide)).trans rfl | 3, _ => (hlow 3 (by decide)).trans rfl | 4, _ => (hlow 4 (by decide)).trans rfl | 5, _ => (hlow 5 (by decide)).trans rfl | 6, _ => (hlow 6 (by decide)).trans rfl | 7, _ => (hlow 7 (by decide)).trans rfl | 8, _ => (hlow 8 (by decide)).trans rfl | 9, _ => (hlow 9 (by decide)).trans rfl | 10, _ => (hlow 10 (by decide)).trans rfl | 11, _ => (hlow 11 (by decide)).trans rfl | 12, _ => (hlow 12 (by decide)).trans rfl | 13, _ => (hlow 13 (by decide)).trans rfl | 14, _ => (hlow 14 (by decide)).trans rfl | 15, _ => (hlow 15 (by decide)).trans rfl | 16, _ => (hlow 16 (by decide)).trans rfl | 17, _ => (hlow 17 (by decide)).trans rfl | 18, _ => (hlow 18 (by decide)).trans rfl | 19, _ => (hlow 19 (by decide)).trans rfl | 20, _ => (hlow 20 (by decide)).trans rfl | 21, _ => (hlow 21 (by decide)).trans rfl | 22, _ => (hlow 22 (by decide)).trans rfl | 23, _ => (hlow 23 (by decide)).trans rfl | 24, _ => RgX.val_at (hok 0 24 _ (by decide) rfl rfl) | 25, _ => RgX.val_at (hok 1 25 _ (by decide) rfl rfl) | 26, _ => RgX.val_at (hok 2 26 _ (by decide) rfl rfl) | 27, _ => RgX.val_at (hok 3 27 _ (by decide) rfl rfl) | 28, _ => RgX.val_at (hok 4 28 _ (by decide) rfl rfl) | 29, _ => hy29 | 30, _ => (hlow 30 (by decide)).trans rfl | 31, _ => (hlow 31 (by decide)).trans rfl | 32, _ => (hlow 32 (by decide)).trans rfl | 33, _ => (hlow 33 (by decide)).trans rfl | 34, _ => (hlow 34 (by decide)).trans rfl | 35, _ => (hlow 35 (by decide)).trans rfl | 36, _ => (hlow 36 (by decide)).trans rfl | 37, _ => (hlow 37 (by decide)).trans rfl | 38, _ => (hlow 38 (by decide)).trans rfl | 39, _ => (hlow 39 (by decide)).trans rfl | 40, _ => (hlow 40 (by decide)).trans rfl | 41, _ => (hlow 41 (by decide)).trans rfl | 42, _ => (hlow 42 (by decide)).trans rfl | 43, _ => (hlow 43 (by decide)).trans rfl | 44, _ => (hlow 44 (by decide)).trans rfl | 45, _ => (hlow 45 (by decide)).trans rfl | 46, _ => (hlow 46 (by decide)).trans rfl | 47, _ => (hlow 47 (by decide)).trans rfl | 48, _ => (hlow 48 (by decide)).trans rfl | n + 49, h => absurd h (by show ¬ n + 49 < 49; omega))
      clear hs hd hlow hok hy29
      have hk1 := (hS.block _ (blk_lt HB1.out)).trans HB1.out
      refine dk_store rfl _ _ rfl w2.heap.size A29 n29 c29 P29 m29 q29 _ _ rfl rfl hk1 ?_
      intro u1 k1 ho1 hz1 hb1
      have hkd1 : KeepD wr u1 := (KeepD.of_below hS).trans (KeepD.of_store hk1 ho1)
      have E1 := Lib.hid (And.intro k1 (And.intro (show DkAt 0 u1 (.agg #[.slice A29 n29 c29, .slice P29 m29 q29]) (DK.step dj1 o) from DkAt.keepD ⟨A29, n29, c29, P29, m29, q29, rfl, h29, k29⟩ (KeepD.of_store hk1 ho1)) (And.intro ((ho1 _ (by omega)).trans ((hS.block _ (blk_lt HB2.out)).trans HB2.out)) (And.intro (HD2.out.keepD hkd1) (And.intro ((HB.out.trans (hS.mono HB.out.size)).trans (hb1.mono (by omega))) (HKD.out.trans hkd1))))))
      have HOV1 := Lib.hid (H6.out.1.keepD (HKD.out.trans hkd1))
      clear h29 k29 hk1 k1 ho1 hz1 hb1 hkd1 hS HC HBL HD1 HB1 HOV
      obtain ⟨gO', offO', o', K', kc', hga, hgO1, hoj1, hbl1, o0, o1, o2, o3⟩ := HOV1.out.at_ hin
      obtain rfl : o = o' := by have := HOJ.out.symm.trans hoj1; injection this
      injection hga with hga
      injection hga with hga1 hga2
      subst hga1
      subst hga2
      have HC1 := Lib.hid (fun (V : World) (hV : Below u1.heap.size u1 V) => And.intro (dk_two ((hV.block _ (blk_lt E1.out.2.2.1)).trans E1.out.2.2.1)) (And.intro ((hV.cell (p := ⟨gO, offO + j * 4, none⟩) hgO1).trans o0) (And.intro ((hV.cell (p := ⟨gO, offO + j * 4 + 1, none⟩) hgO1).trans o1) (And.intro ((hV.cell (p := ⟨gO, offO + j * 4 + 2, none⟩) hgO1).trans o2) ((hV.cell (p := ⟨gO, offO + j * 4 + 3, none⟩) hgO1).trans o3)))))
      have HBL1 := Lib.hid hbl1
      have HE4 := Lib.hid E1.out.2.2.2.1
      clear o0 o1 o2 o3 hbl1 hoj1 hgO hgO1
      go_upto_region 9 with fail
      refine RgX.tail 6 (fun i => ( 30 + i)) (fun ix_ => match ix_ with | 0 => .v (.agg #[.slice A' n' c', .slice P' m' q']) | 1 => .v (.slice (some { block := gO, off := offO }) L r) | 2 => .v (.int .i64 (j : Int)) | 3 => .v (.pointer (some ⟨gO, offO + j * 4, none⟩)) | 4 => .v (.agg #[.int .i64 o.op, .int .i64 o.cell, .int .i64 o.value, .slice K' o.keep.length kc']) | 5 => .dkv 0 (DK.step dj1 o) | _ => .any) _ (by kernel_rfl) rfl rfl (by kernel_rfl) (by kernel_rfl) (fun i hi => by show ( 30 + i) < 49; (repeat' split) <;> omega) (fun i j hi hj => by show ( 30 + i) = ( 30 + j) → i = j; (repeat' split) <;> omega) ?step ?fin
      case step =>
        intro L_ A_ w3 ix op_ hi hI ho hdep
        have hcase : ix = 0 ∨ ix = 1 ∨ ix = 2 ∨ ix = 3 ∨ ix = 4 ∨ ix = 5 := by omega
        have hh := hI.held
        clear hi
        rcases hcase with rfl | rfl | rfl | rfl | rfl | rfl
        · simp only [List.getElem?_toArray, List.getElem?_cons_zero, Option.some.injEq] at ho
          subst ho
          refine ⟨rfl, ?_⟩
          have e7 : A_.tmps[7]?.getD undef = .pointer (some ⟨w4.heap.size, 0, none⟩) := by rw [hI.low 7 (by decide)]; rfl
          clear hI hdep
          obtain ⟨⟨d0, d1⟩, _⟩ := HC1.out w3 hh
          exact .run rfl (.agg #[.slice A' n' c', .slice P' m' q']) w3 (by simp [execOp, go_sem, Act.eval, *]) (Below.refl _ _) rfl
        · simp only [List.getElem?_toArray, List.getElem?_cons_succ, List.getElem?_cons_zero, Option.some.injEq] at ho
          subst ho
          refine ⟨rfl, ?_⟩
          have e8 : A_.tmps[8]?.getD undef = .slice (some { block := gO, off := offO }) L r := by rw [hI.low 8 (by decide)]; rfl
          clear hI hdep
          exact .run rfl (.slice (some { block := gO, off := offO }) L r) w3 (by simp [execOp, go_sem, Act.eval, e8]) (Below.refl _ _) rfl
        · simp only [List.getElem?_toArray, List.getElem?_cons_succ, List.getElem?_cons_zero, Option.some.injEq] at ho
          subst ho
          refine ⟨rfl, ?_⟩
          have e9 : A_.tmps[9]?.getD undef = .int .i64 (j : Int) := by rw [hI.low 9 (by decide)]; rfl
          clear hI hdep
          exact .run rfl (.int .i64 (j : Int)) w3 (by simp [execOp, go_sem, Act.eval, e9]) (Below.refl _ _) rfl
        · simp only [List.getElem?_toArray, List.getElem?_cons_succ, List.getElem?_cons_zero, Option.some.injEq] at ho
          subst ho
          refine ⟨rfl, ?_⟩
          have e31 : A_.tmps[31]?.getD undef = .slice (some { block := gO, off := offO }) L r := getD_of (hI.val_ (i := 1) rfl rfl (by decide) (hdep ⟨1, .data⟩ (by simp) rfl))
          have e32 : A_.tmps[32]?.getD undef = .int .i64 (j : Int) := getD_of (hI.val_ (i := 2) rfl rfl (by decide) (hdep ⟨2, .data⟩ (by simp) rfl))
          clear hI hdep
          exact .run rfl (.pointer (some ⟨gO, offO + j * 4, none⟩)) w3 (by simp [execOp, go_sem, Act.eval, e31, e32]; omega) (Below.refl _ _) rfl
        · simp only [List.getElem?_toArray, List.getElem?_cons_succ, List.getElem?_cons_zero, Option.some.injEq] at ho
          subst ho
          refine ⟨rfl, ?_⟩
          have e33 : A_.tmps[33]?.getD undef = .pointer (some ⟨gO, offO + j * 4, none⟩) := getD_of (hI.val_ (i := 3) rfl rfl (by decide) (hdep ⟨3, .data⟩ (by simp) rfl))
          clear hI hdep
          obtain ⟨_, x0, x1, x2, x3⟩ := HC1.out w3 hh
          exact .run rfl (.agg #[.int .i64 o.op, .int .i64 o.cell, .int .i64 o.value, .slice K' o.keep.length kc']) w3 (by simp [execOp, go_sem, Act.eval, e33, x0, x1, x2, x3]) (Below.refl _ _) rfl
        · simp only [List.getElem?_toArray, List.getElem?_cons_succ, List.getElem?_cons_zero, Option.some.injEq] at ho
          subst ho
          refine ⟨rfl, ?_⟩
          have e30 : A_.tmps[30]?.getD undef = .agg #[.slice A' n' c', .slice P' m' q'] := getD_of (hI.val_ (i := 0) rfl rfl (by decide) (hdep ⟨0, .data⟩ (by simp) rfl))
          have e34 : A_.tmps[34]?.getD undef = .agg #[.int .i64 o.op, .int .i64 o.cell, .int .i64 o.value, .slice K' o.keep.length kc'] := getD_of (hI.val_ (i := 4) rfl rfl (by decide) (hdep ⟨4, .data⟩ (by simp) rfl))
          clear hI hdep
          exact .call rfl 16 #[.agg #[.slice A' n' c', .slice P' m' q'], .agg #[.int .i64 o.op, .int .i64 o.cell, .int .i64 o.value, .slice K' o.keep.length kc']] (by simp [go_sem, Act.eval, e30, e34]) (RgX.dkv_calls (refDo_any w3 (HE4.out.keep hh) HOK.out.1 (HBL1.out.keep hh) HOK.out.2) (Nat.zero_le _))
      case fin =>
      intro A_ w3 hs hd hlow hS hok
      obtain ⟨_, hy35, A35, n35, c35, P35, m35, q35, rfl, h35, k35⟩ := hok 5 35 _ (by decide) rfl rfl
      obtain rfl : A_ = ⟨#[.int .i64 a0, .slice a1 len1 cap1, undef, undef, u4, .int .i64 (k : Int), .pointer (some ⟨w2.heap.size, 0, none⟩), .pointer (some ⟨w4.heap.size, 0, none⟩), .slice (some { block := gO, off := offO }) L r, .int .i64 (j : Int), .int .i64 a0, .int .i64 (k : Int), .int .i64 (k : Int), .agg #[.slice A2 n2 c2, .slice P2 m2 q2], .int .i64 (k : Int), .agg #[.slice A4 n4 c4, .slice P4 m4 q4], .slice a1 len1 cap1, .slice (some { block := gO, off := offO }) L r, .int .i64 (j : Int), .slice (some { block := gO, off := offO }) L r, .int .i64 (L : Int), .bool true, u22, u23, .agg #[.slice A n c, .slice P m q], .slice (some { block := gO, off := offO }) L r, .int .i64 (j : Int), .pointer (some { block := gO, off := offO + j * 4 }), .agg #[.int .i64 o.op, .int .i64 o.cell, .int .i64 o.value, .slice K o.keep.length kc], .agg #[.slice A29 n29 c29, .slice P29 m29 q29], .agg #[.slice A' n' c', .slice P' m' q'], .slice (some { block := gO, off := offO }) L r, .int .i64 (j : Int), .pointer (some ⟨gO, offO + j * 4, none⟩), .agg #[.int .i64 o.op, .int .i64 o.cell, .int .i64 o.value, .slice K' o.keep.length kc'], .agg #[.slice A35 n35 c35, .slice P35 m35 q35], u36, u37, u38, u39, u40, u41, u42, u43, u44, u45, u46, u47, undef], []⟩ := act_ext hd hs (fun j hj => match j, hj with | 0, _ => (hlow 0 (by decide)).trans rfl | 1, _ => (hlow 1 (by decide)).trans rfl | 2, _ => (hlow 2 (by decide)).trans rfl | 3, _ => (hlow 3 (by decide)).trans rfl | 4, _ => (hlow 4 (by decide)).trans rfl | 5, _ => (hlow 5 (by decide)).trans rfl | 6, _ => (hlow 6 (by decide)).trans rfl | 7, _ => (hlow 7 (by decide)).trans rfl | 8, _ => (hlow 8 (by decide)).trans rfl | 9, _ => (hlow 9 (by decide)).trans rfl | 10, _ => (hlow 10 (by decide)).trans rfl | 11, _ => (hlow 11 (by decide)).trans rfl | 12, _ => (hlow 12 (by decide)).trans rfl | 13, _ => (hlow 13 (by decide)).trans rfl | 14, _ => (hlow 14 (by decide)).trans rfl | 15, _ => (hlow 15 (by decide)).trans rfl | 16, _ => (hlow 16 (by decide)).trans rfl | 17, _ => (hlow 17 (by decide)).trans rfl | 18, _ => (hlow 18 (by decide)).trans rfl | 19, _ => (hlow 19 (by decide)).trans rfl | 20, _ => (hlow 20 (by decide)).trans rfl | 21, _ => (hlow 21 (by decide)).trans rfl | 22, _ => (hlow 22 (by decide)).trans rfl | 23, _ => (hlow 23 (by decide)).trans rfl | 24, _ => (hlow 24 (by decide)).trans rfl | 25, _ => (hlow 25 (by decide)).trans rfl | 26, _ => (hlow 26 (by decide)).trans rfl | 27, _ => (hlow 27 (by decide)).trans rfl | 28, _ => (hlow 28 (by decide)).trans rfl | 29, _ => (hlow 29 (by decide)).trans rfl | 30, _ => RgX.val_at (hok 0 30 _ (by decide) rfl rfl) | 31, _ => RgX.val_at (hok 1 31 _ (by decide) rfl rfl) | 32, _ => RgX.val_at (hok 2 32 _ (by decide) rfl rfl) | 33, _ => RgX.val_at (hok 3 33 _ (by decide) rfl rfl) | 34, _ => RgX.val_at (hok 4 34 _ (by decide) rfl rfl) | 35, _ => hy35 | 36, _ => (hlow 36 (by decide)).trans rfl | 37, _ => (hlow 37 (by decide)).trans rfl | 38, _ => (hlow 38 (by decide)).trans rfl | 39, _ => (hlow 39 (by decide)).trans rfl | 40, _ => (hlow 40 (by decide)).trans rfl | 41, _ => (hlow 41 (by decide)).trans rfl | 42, _ => (hlow 42 (by decide)).trans rfl | 43, _ => (hlow 43 (by decide)).trans rfl | 44, _ => (hlow 44 (by decide)).trans rfl | 45, _ => (hlow 45 (by decide)).trans rfl | 46, _ => (hlow 46 (by decide)).trans rfl | 47, _ => (hlow 47 (by decide)).trans rfl | 48, _ => (hlow 48 (by decide)).trans rfl | n + 49, h => absurd h (by show ¬ n + 49 < 49; omega))
      clear hs hd hlow hok hy35
      have hk2 := (hS.block _ (blk_lt E1.out.2.2.1)).trans E1.out.2.2.1
      refine dk_store rfl _ _ rfl w4.heap.size A35 n35 c35 P35 m35 q35 _ _ rfl rfl hk2 ?_
      intro u2 k2 ho2 hz2 hb2
      have hkd2 : KeepD u1 u2 := (KeepD.of_below hS).trans (KeepD.of_store hk2 ho2)
      have E2 := Lib.hid (And.intro ((ho2 _ (by omega)).trans ((hS.block _ (blk_lt E1.out.1)).trans E1.out.1)) (And.intro (E1.out.2.1.keepD hkd2) (And.intro k2 (And.intro (show DkAt 0 u2 (.agg #[.slice A35 n35 c35, .slice P35 m35 q35]) (DK.step dj1 o) from DkAt.keepD ⟨A35, n35, c35, P35, m35, q35, rfl, h35, k35⟩ (KeepD.of_store hk2 ho2)) (And.intro ((E1.out.2.2.2.2.1.trans (hS.mono E1.out.2.2.2.2.1.size)).trans (hb2.mono (by omega))) (E1.out.2.2.2.2.2.trans hkd2))))))
      have HOK2 := Lib.hid (DK.ok_step HOK.out.1 HOK.out.2)
      obtain ⟨dj2, hdj2⟩ : ∃ d2, DK.step dj1 o = d2 := ⟨_, rfl⟩
      rw [hdj2] at E2 HST HOK2
      clear h35 k35 hk2 k2 ho2 hz2 hb2 hkd2 hS HC1 HBL1 HE4 HOV1 E1 hdj2 HB2 HD2 HB HKD
      have HC2 := Lib.hid (fun (V : World) (hV : Below u2.heap.size u2 V) => And.intro (dk_two ((hV.block _ (blk_lt E2.out.1)).trans E2.out.1)) (dk_two ((hV.block _ (blk_lt E2.out.2.2.1)).trans E2.out.2.2.1)))
      have HDa := Lib.hid E2.out.2.1
      have HDb := Lib.hid E2.out.2.2.2.1
      go_upto_region 10 with fail
      refine RgX.region 12 (fun i => ( 36 + i)) (fun ix_ => match ix_ with | 0 => .v (.agg #[.slice A29 n29 c29, .slice P29 m29 q29]) | 1 => .v (.agg #[.slice A35 n35 c35, .slice P35 m35 q35]) | 2 => .v (.bool true) | 3 => .v (.bool false) | 4 => .v (.bool false) | 5 => .v (.agg #[.slice A29 n29 c29, .slice P29 m29 q29]) | 6 => .ints 0 (DK.view dj2) (DK.view dj2).length | 7 => .v (.agg #[.slice A35 n35 c35, .slice P35 m35 q35]) | 8 => .ints 0 (DK.view dj2) (DK.view dj2).length | 9 => .v (.bool true) | 10 => .v (.bool false) | 11 => .v (.bool false) | _ => .any) (by kernel_rfl) rfl (by kernel_rfl)  (fun i hi => by show ( 36 + i) < 49; (repeat' split) <;> omega) (fun i j hi hj => by show ( 36 + i) = ( 36 + j) → i = j; (repeat' split) <;> omega) ?step ?fin
      case step =>
        intro L_ A_ w3 ix op_ hI ho hdep
        have hi : ix < 12 := (Array.getElem?_eq_some_iff.1 ho).1
        have hcase : ix = 0 ∨ ix = 1 ∨ ix = 2 ∨ ix = 3 ∨ ix = 4 ∨ ix = 5 ∨ ix = 6 ∨ ix = 7 ∨ ix = 8 ∨ ix = 9 ∨ ix = 10 ∨ ix = 11 := by omega
        have hh := hI.held
        clear hi
        rcases hcase with rfl | rfl | rfl | rfl | rfl | rfl | rfl | rfl | rfl | rfl | rfl | rfl
        · simp only [List.getElem?_toArray, List.getElem?_cons_zero, Option.some.injEq] at ho
          subst ho
          refine ⟨rfl, ?_⟩
          have e6 : A_.tmps[6]?.getD undef = .pointer (some ⟨w2.heap.size, 0, none⟩) := by rw [hI.low 6 (by decide)]; rfl
          clear hI hdep
          obtain ⟨⟨d0, d1⟩, d2, d3⟩ := HC2.out w3 hh
          exact .run rfl (.agg #[.slice A29 n29 c29, .slice P29 m29 q29]) w3 (by simp [execOp, go_sem, Act.eval, *]) (Below.refl _ _) rfl
        · simp only [List.getElem?_toArray, List.getElem?_cons_succ, List.getElem?_cons_zero, Option.some.injEq] at ho
          subst ho
          refine ⟨rfl, ?_⟩
          have e7 : A_.tmps[7]?.getD undef = .pointer (some ⟨w4.heap.size, 0, none⟩) := by rw [hI.low 7 (by decide)]; rfl
          clear hI hdep
          obtain ⟨⟨d0, d1⟩, d2, d3⟩ := HC2.out w3 hh
          exact .run rfl (.agg #[.slice A35 n35 c35, .slice P35 m35 q35]) w3 (by simp [execOp, go_sem, Act.eval, *]) (Below.refl _ _) rfl
        · simp only [List.getElem?_toArray, List.getElem?_cons_succ, List.getElem?_cons_zero, Option.some.injEq] at ho
          subst ho
          refine ⟨rfl, ?_⟩
          have e36 : A_.tmps[36]?.getD undef = .agg #[.slice A29 n29 c29, .slice P29 m29 q29] := getD_of (hI.val_ (i := 0) rfl rfl (by decide) (hdep ⟨0, .data⟩ (by simp) rfl))
          have e37 : A_.tmps[37]?.getD undef = .agg #[.slice A35 n35 c35, .slice P35 m35 q35] := getD_of (hI.val_ (i := 1) rfl rfl (by decide) (hdep ⟨1, .data⟩ (by simp) rfl))
          clear hI hdep
          exact .call rfl 17 #[.agg #[.slice A29 n29 c29, .slice P29 m29 q29], .agg #[.slice A35 n35 c35, .slice P35 m35 q35]] (by simp [go_sem, Act.eval, e36, e37]) ((same_true w3 (HDa.out.keep hh) (HDb.out.keep hh) HOK2.out).mono fun _ _ ⟨h1_, h2_⟩ => ⟨⟨_, h1_, rfl⟩, h2_⟩)
        · simp only [List.getElem?_toArray, List.getElem?_cons_succ, List.getElem?_cons_zero, Option.some.injEq] at ho
          subst ho
          refine ⟨rfl, ?_⟩
          have e38 : A_.tmps[38]?.getD undef = .bool true := getD_of (hI.val_ (i := 2) rfl rfl (by decide) (hdep ⟨2, .data⟩ (by simp) rfl))
          clear hI hdep
          exact .run rfl (.bool false) w3 (by simp [execOp, go_sem, Act.eval, e38]) (Below.refl _ _) rfl
        · simp only [List.getElem?_toArray, List.getElem?_cons_succ, List.getElem?_cons_zero, Option.some.injEq] at ho
          subst ho
          refine ⟨rfl, ?_⟩
          have e39 : A_.tmps[39]?.getD undef = .bool false := getD_of (hI.val_ (i := 3) rfl rfl (by decide) (hdep ⟨3, .data⟩ (by simp) rfl))
          clear hI hdep
          exact .run rfl (.bool false) w3 (by simp [execOp, go_sem, Act.eval, e39]) (Below.refl _ _) rfl
        · simp only [List.getElem?_toArray, List.getElem?_cons_succ, List.getElem?_cons_zero, Option.some.injEq] at ho
          subst ho
          refine ⟨rfl, ?_⟩
          have q40 : A_.tmps[40]? = some (.bool false) := hI.val_ (i := 4) rfl rfl (by decide) (hdep ⟨4, .guard⟩ (by simp) rfl)
          have e6 : A_.tmps[6]?.getD undef = .pointer (some ⟨w2.heap.size, 0, none⟩) := by rw [hI.low 6 (by decide)]; rfl
          clear hI hdep
          obtain ⟨⟨d0, d1⟩, d2, d3⟩ := HC2.out w3 hh
          exact .run ((wanted_some rfl rfl q40).trans rfl) (.agg #[.slice A29 n29 c29, .slice P29 m29 q29]) w3 (by simp [execOp, go_sem, Act.eval, *]) (Below.refl _ _) rfl
        · simp only [List.getElem?_toArray, List.getElem?_cons_succ, List.getElem?_cons_zero, Option.some.injEq] at ho
          subst ho
          refine ⟨rfl, ?_⟩
          have q40 : A_.tmps[40]? = some (.bool false) := hI.val_ (i := 4) rfl rfl (by decide) (hdep ⟨4, .guard⟩ (by simp) rfl)
          have e41 : A_.tmps[41]?.getD undef = .agg #[.slice A29 n29 c29, .slice P29 m29 q29] := getD_of (hI.val_ (i := 5) rfl rfl (by decide) (hdep ⟨5, .data⟩ (by simp) rfl))
          clear hI hdep
          exact .call ((wanted_some rfl rfl q40).trans rfl) 19 #[.agg #[.slice A29 n29 c29, .slice P29 m29 q29]] (by simp [go_sem, Act.eval, e41]) (view_sp w3 (HDa.out.keep hh) HOK2.out)
        · simp only [List.getElem?_toArray, List.getElem?_cons_succ, List.getElem?_cons_zero, Option.some.injEq] at ho
          subst ho
          refine ⟨rfl, ?_⟩
          have q40 : A_.tmps[40]? = some (.bool false) := hI.val_ (i := 4) rfl rfl (by decide) (hdep ⟨4, .guard⟩ (by simp) rfl)
          have e7 : A_.tmps[7]?.getD undef = .pointer (some ⟨w4.heap.size, 0, none⟩) := by rw [hI.low 7 (by decide)]; rfl
          clear hI hdep
          obtain ⟨⟨d0, d1⟩, d2, d3⟩ := HC2.out w3 hh
          exact .run ((wanted_some rfl rfl q40).trans rfl) (.agg #[.slice A35 n35 c35, .slice P35 m35 q35]) w3 (by simp [execOp, go_sem, Act.eval, *]) (Below.refl _ _) rfl
        · simp only [List.getElem?_toArray, List.getElem?_cons_succ, List.getElem?_cons_zero, Option.some.injEq] at ho
          subst ho
          refine ⟨rfl, ?_⟩
          have q40 : A_.tmps[40]? = some (.bool false) := hI.val_ (i := 4) rfl rfl (by decide) (hdep ⟨4, .guard⟩ (by simp) rfl)
          have e43 : A_.tmps[43]?.getD undef = .agg #[.slice A35 n35 c35, .slice P35 m35 q35] := getD_of (hI.val_ (i := 7) rfl rfl (by decide) (hdep ⟨7, .data⟩ (by simp) rfl))
          clear hI hdep
          exact .call ((wanted_some rfl rfl q40).trans rfl) 20 #[.agg #[.slice A35 n35 c35, .slice P35 m35 q35]] (by simp [go_sem, Act.eval, e43]) (refView_sp w3 (HDb.out.keep hh) HOK2.out)
        · simp only [List.getElem?_toArray, List.getElem?_cons_succ, List.getElem?_cons_zero, Option.some.injEq] at ho
          subst ho
          refine ⟨rfl, ?_⟩
          have q40 : A_.tmps[40]? = some (.bool false) := hI.val_ (i := 4) rfl rfl (by decide) (hdep ⟨4, .guard⟩ (by simp) rfl)
          obtain ⟨_, e42, B42, r42, rfl, h42⟩ := hI.get_ (i := 6) (j := 42) rfl rfl (by decide) (hdep ⟨6, .data⟩ (by simp) rfl)
          obtain ⟨_, e44, B44, r44, rfl, h44⟩ := hI.get_ (i := 8) (j := 44) rfl rfl (by decide) (hdep ⟨8, .data⟩ (by simp) rfl)
          clear hI hdep
          exact .call ((wanted_some rfl rfl q40).trans rfl) 18 #[.slice B42 (DK.view dj2).length r42, .slice B44 (DK.view dj2).length r44] (by simp [go_sem, Act.eval, e42, e44]) ((sameInts_eq (b := true) w3 h42 h44 (by rw [DK.view_len]; have := HOK2.out.size; omega) (by simp)).mono fun _ _ ⟨h1_, h2_⟩ => ⟨⟨_, h1_, rfl⟩, h2_⟩)
        · simp only [List.getElem?_toArray, List.getElem?_cons_succ, List.getElem?_cons_zero, Option.some.injEq] at ho
          subst ho
          refine ⟨rfl, ?_⟩
          have q40 : A_.tmps[40]? = some (.bool false) := hI.val_ (i := 4) rfl rfl (by decide) (hdep ⟨4, .guard⟩ (by simp) rfl)
          have e45 : A_.tmps[45]?.getD undef = .bool true := getD_of (hI.val_ (i := 9) rfl rfl (by decide) (hdep ⟨9, .data⟩ (by simp) rfl))
          clear hI hdep
          exact .run ((wanted_some rfl rfl q40).trans rfl) (.bool false) w3 (by simp [execOp, go_sem, Act.eval, e45]) (Below.refl _ _) rfl
        · simp only [List.getElem?_toArray, List.getElem?_cons_succ, List.getElem?_cons_zero, Option.some.injEq] at ho
          subst ho
          refine ⟨rfl, ?_⟩
          have e40 : A_.tmps[40]?.getD undef = .bool false := getD_of (hI.val_ (i := 4) rfl rfl (by decide) (hdep ⟨4, .data⟩ (by simp) rfl))
          have e46 : A_.tmps[46]?.getD undef = .bool false := getD_of (hI.val_ (i := 10) rfl rfl (by decide) (hdep ⟨10, .data⟩ (by simp) rfl))
          clear hI hdep
          exact .run rfl (.bool false) w3 (by simp [execOp, go_sem, Act.eval, e40, e46]) (Below.refl _ _) rfl
      case fin =>
      intro A_ w3 hs hd hlow hS hok
      obtain ⟨_, hy42, B42, r42, rfl, h42⟩ := hok 6 42 _ (by decide) rfl rfl
      obtain ⟨_, hy44, B44, r44, rfl, h44⟩ := hok 8 44 _ (by decide) rfl rfl
      obtain rfl : A_ = ⟨#[.int .i64 a0, .slice a1 len1 cap1, undef, undef, u4, .int .i64 (k : Int), .pointer (some ⟨w2.heap.size, 0, none⟩), .pointer (some ⟨w4.heap.size, 0, none⟩), .slice (some { block := gO, off := offO }) L r, .int .i64 (j : Int), .int .i64 a0, .int .i64 (k : Int), .int .i64 (k : Int), .agg #[.slice A2 n2 c2, .slice P2 m2 q2], .int .i64 (k : Int), .agg #[.slice A4 n4 c4, .slice P4 m4 q4], .slice a1 len1 cap1, .slice (some { block := gO, off := offO }) L r, .int .i64 (j : Int), .slice (some { block := gO, off := offO }) L r, .int .i64 (L : Int), .bool true, u22, u23, .agg #[.slice A n c, .slice P m q], .slice (some { block := gO, off := offO }) L r, .int .i64 (j : Int), .pointer (some { block := gO, off := offO + j * 4 }), .agg #[.int .i64 o.op, .int .i64 o.cell, .int .i64 o.value, .slice K o.keep.length kc], .agg #[.slice A29 n29 c29, .slice P29 m29 q29], .agg #[.slice A' n' c', .slice P' m' q'], .slice (some { block := gO, off := offO }) L r, .int .i64 (j : Int), .pointer (some { block := gO, off := offO + j * 4 }), .agg #[.int .i64 o.op, .int .i64 o.cell, .int .i64 o.value, .slice K' o.keep.length kc'], .agg #[.slice A35 n35 c35, .slice P35 m35 q35], .agg #[.slice A29 n29 c29, .slice P29 m29 q29], .agg #[.slice A35 n35 c35, .slice P35 m35 q35], .bool true, .bool false, .bool false, .agg #[.slice A29 n29 c29, .slice P29 m29 q29], .slice B42 (DK.view dj2).length r42, .agg #[.slice A35 n35 c35, .slice P35 m35 q35], .slice B44 (DK.view dj2).length r44, .bool true, .bool false, .bool false, undef], []⟩ := act_ext hd hs (fun j hj => match j, hj with | 0, _ => (hlow 0 (by decide)).trans rfl | 1, _ => (hlow 1 (by decide)).trans rfl | 2, _ => (hlow 2 (by decide)).trans rfl | 3, _ => (hlow 3 (by decide)).trans rfl | 4, _ => (hlow 4 (by decide)).trans rfl | 5, _ => (hlow 5 (by decide)).trans rfl | 6, _ => (hlow 6 (by decide)).trans rfl | 7, _ => (hlow 7 (by decide)).trans rfl | 8, _ => (hlow 8 (by decide)).trans rfl | 9, _ => (hlow 9 (by decide)).trans rfl | 10, _ => (hlow 10 (by decide)).trans rfl | 11, _ => (hlow 11 (by decide)).trans rfl | 12, _ => (hlow 12 (by decide)).trans rfl | 13, _ => (hlow 13 (by decide)).trans rfl | 14, _ => (hlow 14 (by decide)).trans rfl | 15, _ => (hlow 15 (by decide)).trans rfl | 16, _ => (hlow 16 (by decide)).trans rfl | 17, _ => (hlow 17 (by decide)).trans rfl | 18, _ => (hlow 18 (by decide)).trans rfl | 19, _ => (hlow 19 (by decide)).trans rfl | 20, _ => (hlow 20 (by decide)).trans rfl | 21, _ => (hlow 21 (by decide)).trans rfl | 22, _ => (hlow 22 (by decide)).trans rfl | 23, _ => (hlow 23 (by decide)).trans rfl | 24, _ => (hlow 24 (by decide)).trans rfl | 25, _ => (hlow 25 (by decide)).trans rfl | 26, _ => (hlow 26 (by decide)).trans rfl | 27, _ => (hlow 27 (by decide)).trans rfl | 28, _ => (hlow 28 (by decide)).trans rfl | 29, _ => (hlow 29 (by decide)).trans rfl | 30, _ => (hlow 30 (by decide)).trans rfl | 31, _ => (hlow 31 (by decide)).trans rfl | 32, _ => (hlow 32 (by decide)).trans rfl | 33, _ => (hlow 33 (by decide)).trans rfl | 34, _ => (hlow 34 (by decide)).trans rfl | 35, _ => (hlow 35 (by decide)).trans rfl | 36, _ => RgX.val_at (hok 0 36 _ (by decide) rfl rfl) | 37, _ => RgX.val_at (hok 1 37 _ (by decide) rfl rfl) | 38, _ => RgX.val_at (hok 2 38 _ (by decide) rfl rfl) | 39, _ => RgX.val_at (hok 3 39 _ (by decide) rfl rfl) | 40, _ => RgX.val_at (hok 4 40 _ (by decide) rfl rfl) | 41, _ => RgX.val_at (hok 5 41 _ (by decide) rfl rfl) | 42, _ => hy42 | 43, _ => RgX.val_at (hok 7 43 _ (by decide) rfl rfl) | 44, _ => hy44 | 45, _ => RgX.val_at (hok 9 45 _ (by decide) rfl rfl) | 46, _ => RgX.val_at (hok 10 46 _ (by decide) rfl rfl) | 47, _ => RgX.val_at (hok 11 47 _ (by decide) rfl rfl) | 48, _ => (hlow 48 (by decide)).trans rfl | n + 49, h => absurd h (by show ¬ n + 49 < 49; omega))
      clear hs hd hlow hok hy42 hy44
      have HF3 := Lib.hid hS
      clear hS
      go_wp2_with fail
      go_roundw
      case rel => exact ⟨j + 1, A29, n29, c29, P29, m29, q29, A35, n35, c35, P35, m35, q35, by omega, by go_num, (HF3.out.block _ (blk_lt E2.out.1)).trans E2.out.1, show DkAt _ _ _ _ by rw [HST.out]; exact E2.out.2.1.keep HF3.out, (HF3.out.block _ (blk_lt E2.out.2.2.1)).trans E2.out.2.2.1, show DkAt _ _ _ _ by rw [HST.out]; exact E2.out.2.2.2.1.keep HF3.out, E2.out.2.2.2.2.1.trans (HF3.out.mono E2.out.2.2.2.2.1.size), E2.out.2.2.2.2.2.trans (KeepD.of_below HF3.out)⟩
      case measure => simp [intOf]; omega
    · have dj : decide (j < L) = false := decide_eq_false hin
      go_wp2_with (go_at_call 21; refine (lives_any _).mono ?_; rintro e w9 ⟨rfl, hb9⟩)
      go_ret
      exact ⟨rfl, HB.out.trans (hb9.mono HB.out.size)⟩
end Go.Proofs.Ytgdefhlcgmibcaa.LawDiskOps
