/-
  The walk of DiskResize. No condition.
-/
import Derived.Test.YtgdefhlcgmibcaaDkP
namespace Go.Proofs.Ytgdefhlcgmibcaa.LawDiskResize
open Go Go.RowKit Go.Proofs Go.Proofs.Ytgdefhlcgmibcaa
attribute [local go_sem] Oper.semAt_some

set_option maxHeartbeats 8000000 in
set_option maxRecDepth 100000 in
theorem walk (a0 : Int) (a1 : Option Addr) (len1 cap1 : Nat) (z1 : List Int) (a2 : Int) (w : World) (w0 : (Lit.int .i64 a0).wf = true) (w1 : Row .i64 w a1 len1 cap1 z1) (w2 : (Lit.int .i64 a2).wf = true) :
    Calls Try.prog 8 #[.int .i64 a0, .slice a1 len1 cap1, .int .i64 a2] w fun e w' => e = .returned (.bool true) ∧ Below w.heap.size w w' := by
  have hc2 : I64 a2 := by have := bounds_i64 w2; unfold I64; omega
  obtain ⟨d, HBU, hok⟩ := built_got cap1 w w0 w1
  clear w0 w1 w2
  obtain ⟨k, hk⟩ : ∃ k : Nat, around a2 17 = (k : Int) := ⟨_, (Int.toNat_of_nonneg (around_in a2 17 (by omega)).1).symm⟩
  have hk16 : k ≤ 16 := by have := (around_in a2 17 (by omega)).2; omega
  have HA := Lib.hid (fun V => around_any a2 17 hc2 (by omega) (by omega) V)
  rw [hk] at HA
  have HD := Lib.hid hok
  have hn16 : d.cells.length ≤ 16 := hok.size
  clear hc2 hk hok
  go_enter Try.func8, Try.ntmps8
  go_upto_region 2 with (first | (go_at_call 22; refine HBU.out.mono ?_; rintro e w2 ⟨⟨y, rfl, A2, n2, c2, P2, m2, q2, rfl, j1, j2⟩, hb2⟩; have HJ := Lib.hid (And.intro (show DkAt 0 w2 (.agg #[.slice A2 n2 c2, .slice P2 m2 q2]) d from ⟨A2, n2, c2, P2, m2, q2, rfl, j1.more (Nat.zero_le _), j2.more (Nat.zero_le _)⟩) (And.intro hb2 (And.intro j1.len j2.len))); clear j1 j2 hb2) | (refine dk_store rfl _ _ rfl w2.heap.size A2 n2 c2 P2 m2 q2 _ _ rfl rfl (dk_new_at rfl) ?_; intro w3 k3 ho3 hz3 hb3))
  obtain ⟨rfl, rfl⟩ := HJ.out.2.2
  have H3 := Lib.hid (And.intro k3 (And.intro (HJ.out.1.keep ((dk_box w2 _).trans hb3)) (HJ.out.2.1.trans (((dk_box w2 _).trans hb3).mono HJ.out.2.1.size))))
  have HK3 := Lib.hid (fun (V : World) (hV : Below w3.heap.size w3 V) => dk_two ((hV.block _ (blk_lt H3.out.1)).trans H3.out.1))
  clear k3 ho3 hz3 hb3 HBU
  go_upto_region 3 with (go_at_call 11; refine (HA.out _).mono ?_; rintro e w4 ⟨rfl, rfl⟩)
  have HR := Lib.hid (resize_any k hk16 w3 H3.out.2.1 (by omega) (by have := HD.out.pend; omega))
  obtain ⟨d0, d1⟩ := HK3.out w3 (Below.refl _ _)
  go_upto_region 4 with (first | (go_at_call 26; refine HR.out.mono ?_; rintro e w4 ⟨⟨y, rfl, A4, n4, c4, P4, m4, q4, rfl, j1, j2⟩, hb4⟩; have HJ4 := Lib.hid (And.intro (show DkAt 0 w4 (.agg #[.slice A4 n4 c4, .slice P4 m4 q4]) (DK.resize d k) from ⟨A4, n4, c4, P4, m4, q4, rfl, j1.more (Nat.zero_le _), j2.more (Nat.zero_le _)⟩) (And.intro hb4 (And.intro (show n4 = k from j1.len.symm.trans (DK.fit_len _ _)) (show m4 = 0 from j2.len.symm)))); clear j1 j2 hb4) | (refine dk_store rfl _ _ rfl w4.heap.size A4 n4 c4 P4 m4 q4 _ _ rfl rfl (dk_new_at rfl) ?_; intro w5 k5 ho5 hz5 hb5))
  obtain ⟨rfl, rfl⟩ := HJ4.out.2.2
  have H5 := Lib.hid (And.intro k5 (And.intro (HJ4.out.1.keep ((dk_box w4 _).trans hb5)) (HJ4.out.2.1.trans (((dk_box w4 _).trans hb5).mono HJ4.out.2.1.size))))
  have HK5 := Lib.hid (fun (V : World) (hV : Below w5.heap.size w5 V) => And.intro (dk_two ((hV.block _ (blk_lt H5.out.1)).trans H5.out.1)) (HK3.out V (H5.out.2.2.trans (hV.mono H5.out.2.2.size))))
  clear k5 ho5 hz5 hb5 d0 d1 HR
  obtain ⟨_, d0, d1⟩ := HK5.out w5 (Below.refl _ _)
  have HVW := Lib.hid (view_any w5 (H3.out.2.1.keep H5.out.2.2) (by omega) (by have := HD.out.pend; omega))
  go_upto_region 5 with (go_at_call 19; refine HVW.out.mono ?_; rintro e w6 ⟨⟨gV, rfl, lV, kV⟩, hb6⟩)
  have H6 := Lib.hid (And.intro hb6 kV)
  obtain ⟨⟨e0, e1⟩, _⟩ := HK5.out w6 hb6
  have hne1 : ((n4 : Int) != (n4 : Int)) = false := by simp
  clear d0 d1 HVW kV lV hb6
  go_wp2_with fail
  go_loopw [11] (fun i V => ∃ j : Nat, j ≤ n4 ∧ i = .int .i64 (j : Int) ∧ V = w6) (fun i _ => n4 - (intOf i).toNat)
  case atStart => exact ⟨0, by omega, rfl, rfl⟩
  case round =>
    obtain ⟨j, hj, rfl, rfl⟩ := hrel
    by_cases hin : j < n4
    · have dj : decide (j < n4) = true := decide_eq_true hin
      have hrc := (H5.out.2.1.keep H6.out.1)
      obtain ⟨gR, offR, x, hAR, hgR, hxR, hcR⟩ := resize_at hrc hin
      subst hAR
      by_cases hjv : j < d.cells.length
      · have djv : decide (j < d.cells.length) = true := decide_eq_true hjv
        have hcV : wr.cell? ⟨gV, j, none⟩ = some (.int .i64 x) := by
          rw [cell_of_row wr gV j _ _ (0, 0) H6.out.2]
          rw [if_pos (by rw [DK.view_len]; exact hjv)] at hxR
          exact dk_cell (DK.view_len d) hjv hxR
        have hnx : (x != x) = false := by simp
        have HX := Lib.hid hxR
        clear hxR hrc
        go_wp2_with fail
        go_roundw
        case rel => exact ⟨j + 1, by omega, by go_num, trivial⟩
        case measure => simp [intOf]; omega
      · have djv : decide (j < d.cells.length) = false := decide_eq_false hjv
        rw [if_neg (by rw [DK.view_len]; exact hjv)] at hxR
        subst hxR
        clear hrc
        go_wp2_with fail
        go_roundw
        case rel => exact ⟨j + 1, by omega, by go_num, trivial⟩
        case measure => simp [intOf]; omega
    · have dj : decide (j < n4) = false := decide_eq_false hin
      have hvs := d.cells.length
      go_upto_region 15 with fail
      refine RgX.region 12 (fun i => (if i = 11 then 6 else 54 + i)) (fun ix_ => match ix_ with | 0 => .v (.agg #[.slice A2 d.cells.length c2, .slice P2 d.pend.length q2]) | 1 => .v (.pointer (some ⟨w2.heap.size, 0, none⟩)) | 2 => .v (.slice A2 d.cells.length c2) | 3 => .v (.int .i64 (d.cells.length : Int)) | 4 => .dkv 0 (DK.sync d) | 5 => .v (.agg #[.slice A2 d.cells.length c2, .slice P2 d.pend.length q2]) | 6 => .dkv 0 (DK.sync d) | 7 => .v (.bool true) | 8 => .v (.bool true) | 9 => .v (.bool true) | 10 => .v (.bool true) | 11 => .v (.bool true) | _ => .any) (by kernel_rfl) rfl (by kernel_rfl)  (fun i hi => by show (if i = 11 then 6 else 54 + i) < 65; (repeat' split) <;> omega) (fun i j hi hj => by show (if i = 11 then 6 else 54 + i) = (if j = 11 then 6 else 54 + j) → i = j; (repeat' split) <;> omega) ?step ?fin
      case step =>
        intro L_ A_ w3 ix op_ hI ho hdep
        have hi : ix < 12 := (Array.getElem?_eq_some_iff.1 ho).1
        have hcase : ix = 0 ∨ ix = 1 ∨ ix = 2 ∨ ix = 3 ∨ ix = 4 ∨ ix = 5 ∨ ix = 6 ∨ ix = 7 ∨ ix = 8 ∨ ix = 9 ∨ ix = 10 ∨ ix = 11 := by omega
        have hh := hI.held
        clear hi
        rcases hcase with rfl | rfl | rfl | rfl | rfl | rfl | rfl | rfl | rfl | rfl | rfl | rfl
        · simp only [List.getElem?_toArray, List.getElem?_cons_zero, Option.some.injEq] at ho
          subst ho
          refine ⟨rfl, ?_⟩
          have e7 : A_.tmps[7]?.getD undef = .pointer (some ⟨w2.heap.size, 0, none⟩) := by rw [hI.low 7 (by decide)]; rfl
          clear hI hdep
          obtain ⟨_, d0, d1⟩ := HK5.out w3 (H6.out.1.trans (hh.mono H6.out.1.size))
          exact .run rfl (.agg #[.slice A2 d.cells.length c2, .slice P2 d.pend.length q2]) w3 (by simp [execOp, go_sem, Act.eval, *]) (Below.refl _ _) rfl
        · simp only [List.getElem?_toArray, List.getElem?_cons_succ, List.getElem?_cons_zero, Option.some.injEq] at ho
          subst ho
          refine ⟨rfl, ?_⟩
          have e7 : A_.tmps[7]?.getD undef = .pointer (some ⟨w2.heap.size, 0, none⟩) := by rw [hI.low 7 (by decide)]; rfl
          clear hI hdep
          exact .run rfl (.pointer (some ⟨w2.heap.size, 0, none⟩)) w3 (by simp [execOp, go_sem, Act.eval, e7]) (Below.refl _ _) rfl
        · simp only [List.getElem?_toArray, List.getElem?_cons_succ, List.getElem?_cons_zero, Option.some.injEq] at ho
          subst ho
          refine ⟨rfl, ?_⟩
          have e55 : A_.tmps[55]?.getD undef = .pointer (some ⟨w2.heap.size, 0, none⟩) := getD_of (hI.val_ (i := 1) rfl rfl (by decide) (hdep ⟨1, .data⟩ (by simp) rfl))
          clear hI hdep
          obtain ⟨_, d0, d1⟩ := HK5.out w3 (H6.out.1.trans (hh.mono H6.out.1.size))
          exact .run rfl (.slice A2 d.cells.length c2) w3 (by simp [execOp, go_sem, Act.eval, *]) (Below.refl _ _) rfl
        · simp only [List.getElem?_toArray, List.getElem?_cons_succ, List.getElem?_cons_zero, Option.some.injEq] at ho
          subst ho
          refine ⟨rfl, ?_⟩
          have e56 : A_.tmps[56]?.getD undef = .slice A2 d.cells.length c2 := getD_of (hI.val_ (i := 2) rfl rfl (by decide) (hdep ⟨2, .data⟩ (by simp) rfl))
          clear hI hdep
          exact .run rfl (.int .i64 (d.cells.length : Int)) w3 (by simp [go_sem, Act.eval, e56]) (Below.refl _ _) rfl
        · simp only [List.getElem?_toArray, List.getElem?_cons_succ, List.getElem?_cons_zero, Option.some.injEq] at ho
          subst ho
          refine ⟨rfl, ?_⟩
          have e54 : A_.tmps[54]?.getD undef = .agg #[.slice A2 d.cells.length c2, .slice P2 d.pend.length q2] := getD_of (hI.val_ (i := 0) rfl rfl (by decide) (hdep ⟨0, .data⟩ (by simp) rfl))
          have e57 : A_.tmps[57]?.getD undef = .int .i64 (d.cells.length : Int) := getD_of (hI.val_ (i := 3) rfl rfl (by decide) (hdep ⟨3, .data⟩ (by simp) rfl))
          clear hI hdep
          exact .call rfl 26 #[.agg #[.slice A2 d.cells.length c2, .slice P2 d.pend.length q2], .int .i64 (d.cells.length : Int)] (by simp [go_sem, Act.eval, e54, e57]) (RgX.dkv_calls (resize_len hn16 w3 ((H3.out.2.1.keep H5.out.2.2).keep (H6.out.1.trans (hh.mono H6.out.1.size))) HD.out) (Nat.zero_le _))
        · simp only [List.getElem?_toArray, List.getElem?_cons_succ, List.getElem?_cons_zero, Option.some.injEq] at ho
          subst ho
          refine ⟨rfl, ?_⟩
          have e7 : A_.tmps[7]?.getD undef = .pointer (some ⟨w2.heap.size, 0, none⟩) := by rw [hI.low 7 (by decide)]; rfl
          clear hI hdep
          obtain ⟨_, d0, d1⟩ := HK5.out w3 (H6.out.1.trans (hh.mono H6.out.1.size))
          exact .run rfl (.agg #[.slice A2 d.cells.length c2, .slice P2 d.pend.length q2]) w3 (by simp [execOp, go_sem, Act.eval, *]) (Below.refl _ _) rfl
        · simp only [List.getElem?_toArray, List.getElem?_cons_succ, List.getElem?_cons_zero, Option.some.injEq] at ho
          subst ho
          refine ⟨rfl, ?_⟩
          have e59 : A_.tmps[59]?.getD undef = .agg #[.slice A2 d.cells.length c2, .slice P2 d.pend.length q2] := getD_of (hI.val_ (i := 5) rfl rfl (by decide) (hdep ⟨5, .data⟩ (by simp) rfl))
          clear hI hdep
          exact .call rfl 24 #[.agg #[.slice A2 d.cells.length c2, .slice P2 d.pend.length q2]] (by simp [go_sem, Act.eval, e59]) (RgX.dkv_calls (sync_any w3 ((H3.out.2.1.keep H5.out.2.2).keep (H6.out.1.trans (hh.mono H6.out.1.size))) (by omega) (by have := HD.out.pend; omega)) (Nat.zero_le _))
        · simp only [List.getElem?_toArray, List.getElem?_cons_succ, List.getElem?_cons_zero, Option.some.injEq] at ho
          subst ho
          refine ⟨rfl, ?_⟩
          obtain ⟨_, e58, A58, n58, c58, P58, m58, q58, rfl, h58, k58⟩ := hI.get_ (i := 4) (j := 58) rfl rfl (by decide) (hdep ⟨4, .data⟩ (by simp) rfl)
          obtain ⟨_, e60, A60, n60, c60, P60, m60, q60, rfl, h60, k60⟩ := hI.get_ (i := 6) (j := 60) rfl rfl (by decide) (hdep ⟨6, .data⟩ (by simp) rfl)
          clear hI hdep
          exact .call rfl 17 #[.agg #[.slice A58 n58 c58, .slice P58 m58 q58], .agg #[.slice A60 n60 c60, .slice P60 m60 q60]] (by simp [go_sem, Act.eval, e58, e60]) ((same_true w3 ⟨_, _, _, _, _, _, rfl, h58, k58⟩ ⟨_, _, _, _, _, _, rfl, h60, k60⟩ (DK.ok_sync HD.out)).mono fun _ _ ⟨h1_, h2_⟩ => ⟨⟨_, h1_, rfl⟩, h2_⟩)
        · simp only [List.getElem?_toArray, List.getElem?_cons_succ, List.getElem?_cons_zero, Option.some.injEq] at ho
          subst ho
          refine ⟨rfl, ?_⟩
          have e61 : A_.tmps[61]?.getD undef = .bool true := getD_of (hI.val_ (i := 7) rfl rfl (by decide) (hdep ⟨7, .data⟩ (by simp) rfl))
          clear hI hdep
          exact .run rfl (.bool true) w3 (by simp [execOp, go_sem, Act.eval, e61]) (Below.refl _ _) rfl
        · simp only [List.getElem?_toArray, List.getElem?_cons_succ, List.getElem?_cons_zero, Option.some.injEq] at ho
          subst ho
          refine ⟨rfl, ?_⟩
          have q62 : A_.tmps[62]? = some (.bool true) := hI.val_ (i := 8) rfl rfl (by decide) (hdep ⟨8, .guard⟩ (by simp) rfl)
          clear hI hdep
          exact .call ((wanted_some rfl rfl q62).trans rfl) 21 #[] (by simp [go_sem]) ((lives_any w3).mono fun _ _ ⟨h1_, h2_⟩ => ⟨⟨_, h1_, rfl⟩, h2_⟩)
        · simp only [List.getElem?_toArray, List.getElem?_cons_succ, List.getElem?_cons_zero, Option.some.injEq] at ho
          subst ho
          refine ⟨rfl, ?_⟩
          have e62 : A_.tmps[62]?.getD undef = .bool true := getD_of (hI.val_ (i := 8) rfl rfl (by decide) (hdep ⟨8, .data⟩ (by simp) rfl))
          have e63 : A_.tmps[63]?.getD undef = .bool true := getD_of (hI.val_ (i := 9) rfl rfl (by decide) (hdep ⟨9, .data⟩ (by simp) rfl))
          clear hI hdep
          exact .run rfl (.bool true) w3 (by simp [execOp, go_sem, Act.eval, e62, e63]) (Below.refl _ _) rfl
        · simp only [List.getElem?_toArray, List.getElem?_cons_succ, List.getElem?_cons_zero, Option.some.injEq] at ho
          subst ho
          refine ⟨rfl, ?_⟩
          have e64 : A_.tmps[64]?.getD undef = .bool true := getD_of (hI.val_ (i := 10) rfl rfl (by decide) (hdep ⟨10, .data⟩ (by simp) rfl))
          clear hI hdep
          exact .run rfl (.bool true) w3 (by simp [execOp, go_sem, Act.eval, e64]) (Below.refl _ _) rfl
      case fin =>
      intro A_ w3 hs hd hlow hS hok
      obtain ⟨_, hy58, A58, n58, c58, P58, m58, q58, rfl, h58, k58⟩ := hok 4 58 _ (by decide) rfl rfl
      obtain ⟨_, hy60, A60, n60, c60, P60, m60, q60, rfl, h60, k60⟩ := hok 6 60 _ (by decide) rfl rfl
      obtain rfl : A_ = ⟨#[.int .i64 a0, .slice a1 len1 cap1, .int .i64 a2, undef, undef, undef, .bool true, .pointer (some ⟨w2.heap.size, 0, none⟩), .int .i64 (n4 : Int), .pointer (some ⟨w4.heap.size, 0, none⟩), .slice (some ⟨gV, 0, none⟩) d.cells.length d.cells.length, .int .i64 (j : Int), u12, .int .i64 a0, .slice a1 len1 cap1, .agg #[.slice A2 d.cells.length c2, .slice P2 d.pend.length q2], .int .i64 a2, .int .i64 (n4 : Int), .agg #[.slice A2 d.cells.length c2, .slice P2 d.pend.length q2], .int .i64 (n4 : Int), .agg #[.slice A4 n4 c4, .slice P4 0 q4], .agg #[.slice A2 d.cells.length c2, .slice P2 d.pend.length q2], .slice (some ⟨gV, 0, none⟩) d.cells.length d.cells.length, .pointer (some ⟨w4.heap.size, 0, none⟩), .slice A4 n4 c4, .int .i64 (n4 : Int), .int .i64 (n4 : Int), .bool false, .bool false, .pointer (some ⟨w4.heap.size, 1, none⟩), .slice P4 0 q4, .int .i64 0, .bool false, .bool false, .int .i64 (j : Int), .int .i64 (n4 : Int), .bool false, u37, u38, u39, u40, u41, u42, u43, u44, u45, u46, u47, u48, u49, u50, u51, u52, u53, .agg #[.slice A2 d.cells.length c2, .slice P2 d.pend.length q2], .pointer (some ⟨w2.heap.size, 0, none⟩), .slice A2 d.cells.length c2, .int .i64 (d.cells.length : Int), .agg #[.slice A58 n58 c58, .slice P58 m58 q58], .agg #[.slice A2 d.cells.length c2, .slice P2 d.pend.length q2], .agg #[.slice A60 n60 c60, .slice P60 m60 q60], .bool true, .bool true, .bool true, .bool true], []⟩ := act_ext hd hs (fun j hj => match j, hj with | 0, _ => (hlow 0 (by decide)).trans rfl | 1, _ => (hlow 1 (by decide)).trans rfl | 2, _ => (hlow 2 (by decide)).trans rfl | 3, _ => (hlow 3 (by decide)).trans rfl | 4, _ => (hlow 4 (by decide)).trans rfl | 5, _ => (hlow 5 (by decide)).trans rfl | 6, _ => RgX.val_at (hok 11 6 _ (by decide) rfl rfl) | 7, _ => (hlow 7 (by decide)).trans rfl | 8, _ => (hlow 8 (by decide)).trans rfl | 9, _ => (hlow 9 (by decide)).trans rfl | 10, _ => (hlow 10 (by decide)).trans rfl | 11, _ => (hlow 11 (by decide)).trans rfl | 12, _ => (hlow 12 (by decide)).trans rfl | 13, _ => (hlow 13 (by decide)).trans rfl | 14, _ => (hlow 14 (by decide)).trans rfl | 15, _ => (hlow 15 (by decide)).trans rfl | 16, _ => (hlow 16 (by decide)).trans rfl | 17, _ => (hlow 17 (by decide)).trans rfl | 18, _ => (hlow 18 (by decide)).trans rfl | 19, _ => (hlow 19 (by decide)).trans rfl | 20, _ => (hlow 20 (by decide)).trans rfl | 21, _ => (hlow 21 (by decide)).trans rfl | 22, _ => (hlow 22 (by decide)).trans rfl | 23, _ => (hlow 23 (by decide)).trans rfl | 24, _ => (hlow 24 (by decide)).trans rfl | 25, _ => (hlow 25 (by decide)).trans rfl | 26, _ => (hlow 26 (by decide)).trans rfl | 27, _ => (hlow 27 (by decide)).trans rfl | 28, _ => (hlow 28 (by decide)).trans rfl | 29, _ => (hlow 29 (by decide)).trans rfl | 30, _ => (hlow 30 (by decide)).trans rfl | 31, _ => (hlow 31 (by decide)).trans rfl | 32, _ => (hlow 32 (by decide)).trans rfl | 33, _ => (hlow 33 (by decide)).trans rfl | 34, _ => (hlow 34 (by decide)).trans rfl | 35, _ => (hlow 35 (by decide)).trans rfl | 36, _ => (hlow 36 (by decide)).trans rfl | 37, _ => (hlow 37 (by decide)).trans rfl | 38, _ => (hlow 38 (by decide)).trans rfl | 39, _ => (hlow 39 (by decide)).trans rfl | 40, _ => (hlow 40 (by decide)).trans rfl | 41, _ => (hlow 41 (by decide)).trans rfl | 42, _ => (hlow 42 (by decide)).trans rfl | 43, _ => (hlow 43 (by decide)).trans rfl | 44, _ => (hlow 44 (by decide)).trans rfl | 45, _ => (hlow 45 (by decide)).trans rfl | 46, _ => (hlow 46 (by decide)).trans rfl | 47, _ => (hlow 47 (by decide)).trans rfl | 48, _ => (hlow 48 (by decide)).trans rfl | 49, _ => (hlow 49 (by decide)).trans rfl | 50, _ => (hlow 50 (by decide)).trans rfl | 51, _ => (hlow 51 (by decide)).trans rfl | 52, _ => (hlow 52 (by decide)).trans rfl | 53, _ => (hlow 53 (by decide)).trans rfl | 54, _ => RgX.val_at (hok 0 54 _ (by decide) rfl rfl) | 55, _ => RgX.val_at (hok 1 55 _ (by decide) rfl rfl) | 56, _ => RgX.val_at (hok 2 56 _ (by decide) rfl rfl) | 57, _ => RgX.val_at (hok 3 57 _ (by decide) rfl rfl) | 58, _ => hy58 | 59, _ => RgX.val_at (hok 5 59 _ (by decide) rfl rfl) | 60, _ => hy60 | 61, _ => RgX.val_at (hok 7 61 _ (by decide) rfl rfl) | 62, _ => RgX.val_at (hok 8 62 _ (by decide) rfl rfl) | 63, _ => RgX.val_at (hok 9 63 _ (by decide) rfl rfl) | 64, _ => RgX.val_at (hok 10 64 _ (by decide) rfl rfl) | n + 65, h => absurd h (by show ¬ n + 65 < 65; omega))
      clear hs hd hlow hok hy58 hy60
      go_wp2_with fail
      go_ret
      exact ⟨rfl, (H3.out.2.2.trans (H5.out.2.2.mono H3.out.2.2.size)).trans ((H6.out.1.trans (hS.mono H6.out.1.size)).mono (by have := H3.out.2.2.size; have := H5.out.2.2.size; omega))⟩
end Go.Proofs.Ytgdefhlcgmibcaa.LawDiskResize
