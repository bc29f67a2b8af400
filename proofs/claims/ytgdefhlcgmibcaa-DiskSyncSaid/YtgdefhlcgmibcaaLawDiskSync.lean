/-
  The walk of DiskSync. No condition.
-/
import Derived.Test.YtgdefhlcgmibcaaDkQ
namespace Go.Proofs.Ytgdefhlcgmibcaa.LawDiskSync
open Go Go.RowKit Go.Proofs Go.Proofs.Ytgdefhlcgmibcaa
attribute [local go_sem] Oper.semAt_some

set_option maxHeartbeats 8000000 in
set_option maxRecDepth 100000 in
theorem walk (a0 : Int) (a1 : Option Addr) (len1 cap1 : Nat) (z1 : List Int) (a2 : Option Addr) (len2 cap2 : Nat) (B2 : Nat → Bool) (w : World) (w0 : (Lit.int .i64 a0).wf = true) (w1 : Row .i64 w a1 len1 cap1 z1) (w2 : BRow w a2 len2 cap2 B2) :
    Calls Try.prog 5 #[.int .i64 a0, .slice a1 len1 cap1, .slice a2 len2 cap2] w fun e w' => e = .returned (.bool true) ∧ Below w.heap.size w w' := by
  obtain ⟨d, HBU, hok⟩ := built_got cap1 w w0 w1
  obtain ⟨hlc, hcm⟩ := w2.le
  have HBR := Lib.hid w2
  clear w0 w1 w2
  have HD := Lib.hid hok
  have hn16 : d.cells.length ≤ 16 := hok.size
  have hm4 : d.pend.length ≤ 4 := hok.pend
  clear hok
  obtain ⟨i1, hi1, hy0, hy1, hy2⟩ := dk_info dk_bool
  have HJ1 := Lib.hid (And.intro hi1 (And.intro hy0 (And.intro hy1 hy2)))
  clear hi1 hy0 hy1 hy2
  obtain ⟨m, hm⟩ : ∃ m, min len2 8 = m := ⟨_, rfl⟩
  have hm1 : m ≤ len2 := by omega
  have hm8 : m ≤ 8 := by omega
  have hmn : (if 8 < (len2 : Int) then (8 : Int) else (len2 : Int)) = (m : Int) := by split <;> omega
  clear hm
  go_enter Try.func5, Try.ntmps5
  go_upto_region 2 with (first | (go_at_call 22; refine HBU.out.mono ?_; rintro e w2 ⟨⟨y, rfl, A2, n2, c2, P2, m2, q2, rfl, j1, j2⟩, hb2⟩; have HJ := Lib.hid (And.intro (show DkAt 0 w2 (.agg #[.slice A2 n2 c2, .slice P2 m2 q2]) d from ⟨A2, n2, c2, P2, m2, q2, rfl, j1.more (Nat.zero_le _), j2.more (Nat.zero_le _)⟩) (And.intro hb2 (And.intro j1.len j2.len))); clear j1 j2 hb2) | (refine dk_store rfl _ _ rfl w2.heap.size A2 n2 c2 P2 m2 q2 _ _ rfl rfl (dk_new_at rfl) ?_; intro w3 k3 ho3 hz3 hb3))
  obtain ⟨rfl, rfl⟩ := HJ.out.2.2
  have H3 := Lib.hid (And.intro k3 (And.intro (HJ.out.1.keep ((dk_box w2 _).trans hb3)) (HJ.out.2.1.trans (((dk_box w2 _).trans hb3).mono HJ.out.2.1.size))))
  have HK3 := Lib.hid (fun (V : World) (hV : Below w3.heap.size w3 V) => dk_two ((hV.block _ (blk_lt H3.out.1)).trans H3.out.1))
  clear k3 ho3 hz3 hb3 HBU
  have HSY := Lib.hid (sync_any w3 H3.out.2.1 (by omega) (by omega))
  obtain ⟨d0, d1⟩ := HK3.out w3 (Below.refl _ _)
  go_upto_region 3 with (first | (go_at_call 24; refine HSY.out.mono ?_; rintro e w4 ⟨⟨y, rfl, A4, n4, c4, P4, m4, q4, rfl, j1, j2⟩, hb4⟩; have HJ4 := Lib.hid (And.intro (show DkAt 0 w4 (.agg #[.slice A4 n4 c4, .slice P4 m4 q4]) (DK.sync d) from ⟨A4, n4, c4, P4, m4, q4, rfl, j1.more (Nat.zero_le _), j2.more (Nat.zero_le _)⟩) (And.intro hb4 (And.intro (show n4 = d.cells.length from j1.len.symm.trans (DK.view_len _)) (show m4 = 0 from j2.len.symm)))); clear j1 j2 hb4) | (refine dk_store rfl _ _ rfl w4.heap.size A4 n4 c4 P4 m4 q4 _ _ rfl rfl (dk_new_at rfl) ?_; intro w5 k5 ho5 hz5 hb5))
  obtain ⟨rfl, rfl⟩ := HJ4.out.2.2
  have H5 := Lib.hid (And.intro k5 (And.intro (HJ4.out.1.keep ((dk_box w4 _).trans hb5)) (HJ4.out.2.1.trans (((dk_box w4 _).trans hb5).mono HJ4.out.2.1.size))))
  have HK5 := Lib.hid (fun (V : World) (hV : Below w5.heap.size w5 V) => And.intro (dk_two ((hV.block _ (blk_lt H5.out.1)).trans H5.out.1)) (HK3.out V (H5.out.2.2.trans (hV.mono H5.out.2.2.size))))
  clear k5 ho5 hz5 hb5 d0 d1 HSY
  obtain ⟨U, hU⟩ : ∃ U, w5.alloc (.cells #[] 4) = U := ⟨_, rfl⟩
  have hbU : Below w5.heap.size w5 U := hU ▸ dk_box w5 _
  have kU : U.heap[w5.heap.size]? = some (.cells #[] 4 (0, 0)) := by rw [← hU]; exact dk_new_at rfl
  have hw5 := H3.out.2.2.trans (H5.out.2.2.mono H3.out.2.2.size)
  have HS := Lib.hid (And.intro (HBR.out.src hm1 (hw5.trans (hbU.mono hw5.size))) (And.intro (own_empty (sz := 1) (base := w5.heap.size) kU (Nat.le_refl _)) (And.intro hbU (And.intro hbU.size (show (DK.blsC ((List.range m).map B2)).length = m * 1 by simp [DK.blsC])))))
  have HM := Lib.hid (And.intro (show 0 + m ≤ maxLen by simp only [maxLen]; omega) (show (0 + m) * 1 ≤ 140737488355328 by omega))
  have hmc : m ≤ cap2 := by omega
  clear hbU kU hw5
  go_upto_region 4 with (at_builtin; refine RgX.wpList_append_any rfl _ _ 31 rfl w5.heap.size 4 i1 _ 1 1 Try.underlying31 HJ1.out.1 HJ1.out.2.1 HJ1.out.2.2.1 HJ1.out.2.2.2 rfl (by decide) _ 0 [] rfl HS.out.2.1 a2 m cap2 (DK.blsC ((List.range m).map B2)) rfl HS.out.2.2.2.2 HS.out.1 (DK.blsC_one _) HM.out.1 HM.out.2 HS.out.2.2.2.1 ?_; intro B6 r6 w6 ho6 hg6)
  rw [Nat.zero_add, List.nil_append] at ho6
  have H6 := Lib.hid (And.intro (dk_grown HS.out.2.1 HS.out.2.2.1 hg6 HS.out.2.2.2.1) (show Bls 0 w6 B6 m r6 ((List.range m).map B2) from Rw.more (bls_of_own ho6) (Nat.zero_le _)))
  clear ho6 hg6 hU HS
  refine RgX.region 29 (fun i => (if i = 28 then 6 else 22 + i)) (fun ix_ => match ix_ with | 0 => .v (.pointer (some ⟨w4.heap.size, 1, none⟩)) | 1 => .v (.slice P4 0 q4) | 2 => .v (.int .i64 (0 : Int)) | 3 => .v (.bool true) | 4 => .v (.bool true) | 5 => .v (.agg #[.slice A4 d.cells.length c4, .slice P4 0 q4]) | 6 => .ints 0 (DK.view d) (DK.view d).length | 7 => .v (.agg #[.slice A2 d.cells.length c2, .slice P2 d.pend.length q2]) | 8 => .ints 0 (DK.view d) (DK.view d).length | 9 => .v (.bool true) | 10 => .v (.bool true) | 11 => .v (.bool true) | 12 => .v (.pointer (some ⟨w4.heap.size, 0, none⟩)) | 13 => .v (.slice A4 d.cells.length c4) | 14 => .v (.agg #[.slice A2 d.cells.length c2, .slice P2 d.pend.length q2]) | 15 => .ints 0 (DK.view d) (DK.view d).length | 16 => .v (.bool true) | 17 => .v (.bool true) | 18 => .v (.bool true) | 19 => .v (.agg #[.slice A4 d.cells.length c4, .slice P4 0 q4]) | 20 => .v (.slice B6 m r6) | 21 => .dkv 0 (DK.sync d) | 22 => .v (.agg #[.slice A4 d.cells.length c4, .slice P4 0 q4]) | 23 => .v (.bool true) | 24 => .v (.bool true) | 25 => .v (.bool true) | 26 => .v (.bool true) | 27 => .v (.bool true) | 28 => .v (.bool true) | _ => .any) (by kernel_rfl) rfl (by kernel_rfl)  (fun i hi => by show (if i = 28 then 6 else 22 + i) < 50; (repeat' split) <;> omega) (fun i j hi hj => by show (if i = 28 then 6 else 22 + i) = (if j = 28 then 6 else 22 + j) → i = j; (repeat' split) <;> omega) ?step ?fin
  case step =>
    intro L_ A_ w3 ix op_ hI ho hdep
    have hi : ix < 29 := (Array.getElem?_eq_some_iff.1 ho).1
    have hcase : ix = 0 ∨ ix = 1 ∨ ix = 2 ∨ ix = 3 ∨ ix = 4 ∨ ix = 5 ∨ ix = 6 ∨ ix = 7 ∨ ix = 8 ∨ ix = 9 ∨ ix = 10 ∨ ix = 11 ∨ ix = 12 ∨ ix = 13 ∨ ix = 14 ∨ ix = 15 ∨ ix = 16 ∨ ix = 17 ∨ ix = 18 ∨ ix = 19 ∨ ix = 20 ∨ ix = 21 ∨ ix = 22 ∨ ix = 23 ∨ ix = 24 ∨ ix = 25 ∨ ix = 26 ∨ ix = 27 ∨ ix = 28 := by omega
    have hh := hI.held
    clear hi
    rcases hcase with rfl | rfl | rfl | rfl | rfl | rfl | rfl | rfl | rfl | rfl | rfl | rfl | rfl | rfl | rfl | rfl | rfl | rfl | rfl | rfl | rfl | rfl | rfl | rfl | rfl | rfl | rfl | rfl | rfl
    · simp only [List.getElem?_toArray, List.getElem?_cons_zero, Option.some.injEq] at ho
      subst ho
      refine ⟨rfl, ?_⟩
      have e8 : A_.tmps[8]?.getD undef = .pointer (some ⟨w4.heap.size, 0, none⟩) := by rw [hI.low 8 (by decide)]; rfl
      clear hI hdep
      exact .run rfl (.pointer (some ⟨w4.heap.size, 1, none⟩)) w3 (by simp [execOp, go_sem, Act.eval, e8]) (Below.refl _ _) rfl
    · simp only [List.getElem?_toArray, List.getElem?_cons_succ, List.getElem?_cons_zero, Option.some.injEq] at ho
      subst ho
      refine ⟨rfl, ?_⟩
      have e22 : A_.tmps[22]?.getD undef = .pointer (some ⟨w4.heap.size, 1, none⟩) := getD_of (hI.val_ (i := 0) rfl rfl (by decide) (hdep ⟨0, .data⟩ (by simp) rfl))
      clear hI hdep
      obtain ⟨⟨d2, d3⟩, d0, d1⟩ := HK5.out w3 (H6.out.1.trans (hh.mono H6.out.1.size))
      exact .run rfl (.slice P4 0 q4) w3 (by simp [execOp, go_sem, Act.eval, *]) (Below.refl _ _) rfl
    · simp only [List.getElem?_toArray, List.getElem?_cons_succ, List.getElem?_cons_zero, Option.some.injEq] at ho
      subst ho
      refine ⟨rfl, ?_⟩
      have e23 : A_.tmps[23]?.getD undef = .slice P4 0 q4 := getD_of (hI.val_ (i := 1) rfl rfl (by decide) (hdep ⟨1, .data⟩ (by simp) rfl))
      clear hI hdep
      exact .run rfl (.int .i64 (0 : Int)) w3 (by simp [go_sem, Act.eval, e23]) (Below.refl _ _) rfl
    · simp only [List.getElem?_toArray, List.getElem?_cons_succ, List.getElem?_cons_zero, Option.some.injEq] at ho
      subst ho
      refine ⟨rfl, ?_⟩
      have e24 : A_.tmps[24]?.getD undef = .int .i64 (0 : Int) := getD_of (hI.val_ (i := 2) rfl rfl (by decide) (hdep ⟨2, .data⟩ (by simp) rfl))
      clear hI hdep
      exact .run rfl (.bool true) w3 (by simp [execOp, go_sem, Act.eval, *]) (Below.refl _ _) rfl
    · simp only [List.getElem?_toArray, List.getElem?_cons_succ, List.getElem?_cons_zero, Option.some.injEq] at ho
      subst ho
      refine ⟨rfl, ?_⟩
      have e25 : A_.tmps[25]?.getD undef = .bool true := getD_of (hI.val_ (i := 3) rfl rfl (by decide) (hdep ⟨3, .data⟩ (by simp) rfl))
      clear hI hdep
      exact .run rfl (.bool true) w3 (by simp [execOp, go_sem, Act.eval, e25]) (Below.refl _ _) rfl
    · simp only [List.getElem?_toArray, List.getElem?_cons_succ, List.getElem?_cons_zero, Option.some.injEq] at ho
      subst ho
      refine ⟨rfl, ?_⟩
      have q26 : A_.tmps[26]? = some (.bool true) := hI.val_ (i := 4) rfl rfl (by decide) (hdep ⟨4, .guard⟩ (by simp) rfl)
      have e8 : A_.tmps[8]?.getD undef = .pointer (some ⟨w4.heap.size, 0, none⟩) := by rw [hI.low 8 (by decide)]; rfl
      clear hI hdep
      obtain ⟨⟨d2, d3⟩, d0, d1⟩ := HK5.out w3 (H6.out.1.trans (hh.mono H6.out.1.size))
      exact .run ((wanted_some rfl rfl q26).trans rfl) (.agg #[.slice A4 d.cells.length c4, .slice P4 0 q4]) w3 (by simp [execOp, go_sem, Act.eval, *]) (Below.refl _ _) rfl
    · simp only [List.getElem?_toArray, List.getElem?_cons_succ, List.getElem?_cons_zero, Option.some.injEq] at ho
      subst ho
      refine ⟨rfl, ?_⟩
      have q26 : A_.tmps[26]? = some (.bool true) := hI.val_ (i := 4) rfl rfl (by decide) (hdep ⟨4, .guard⟩ (by simp) rfl)
      have e27 : A_.tmps[27]?.getD undef = .agg #[.slice A4 d.cells.length c4, .slice P4 0 q4] := getD_of (hI.val_ (i := 5) rfl rfl (by decide) (hdep ⟨5, .data⟩ (by simp) rfl))
      clear hI hdep
      exact .call ((wanted_some rfl rfl q26).trans rfl) 19 #[.agg #[.slice A4 d.cells.length c4, .slice P4 0 q4]] (by simp [go_sem, Act.eval, e27]) (view_sp (d := DK.sync d) w3 (H5.out.2.1.keep (H6.out.1.trans (hh.mono H6.out.1.size))) (DK.ok_sync HD.out))
    · simp only [List.getElem?_toArray, List.getElem?_cons_succ, List.getElem?_cons_zero, Option.some.injEq] at ho
      subst ho
      refine ⟨rfl, ?_⟩
      have q26 : A_.tmps[26]? = some (.bool true) := hI.val_ (i := 4) rfl rfl (by decide) (hdep ⟨4, .guard⟩ (by simp) rfl)
      have e7 : A_.tmps[7]?.getD undef = .pointer (some ⟨w2.heap.size, 0, none⟩) := by rw [hI.low 7 (by decide)]; rfl
      clear hI hdep
      obtain ⟨⟨d2, d3⟩, d0, d1⟩ := HK5.out w3 (H6.out.1.trans (hh.mono H6.out.1.size))
      exact .run ((wanted_some rfl rfl q26).trans rfl) (.agg #[.slice A2 d.cells.length c2, .slice P2 d.pend.length q2]) w3 (by simp [execOp, go_sem, Act.eval, *]) (Below.refl _ _) rfl
    · simp only [List.getElem?_toArray, List.getElem?_cons_succ, List.getElem?_cons_zero, Option.some.injEq] at ho
      subst ho
      refine ⟨rfl, ?_⟩
      have q26 : A_.tmps[26]? = some (.bool true) := hI.val_ (i := 4) rfl rfl (by decide) (hdep ⟨4, .guard⟩ (by simp) rfl)
      have e29 : A_.tmps[29]?.getD undef = .agg #[.slice A2 d.cells.length c2, .slice P2 d.pend.length q2] := getD_of (hI.val_ (i := 7) rfl rfl (by decide) (hdep ⟨7, .data⟩ (by simp) rfl))
      clear hI hdep
      exact .call ((wanted_some rfl rfl q26).trans rfl) 19 #[.agg #[.slice A2 d.cells.length c2, .slice P2 d.pend.length q2]] (by simp [go_sem, Act.eval, e29]) (view_sp w3 ((H3.out.2.1.keep H5.out.2.2).keep (H6.out.1.trans (hh.mono H6.out.1.size))) HD.out)
    · simp only [List.getElem?_toArray, List.getElem?_cons_succ, List.getElem?_cons_zero, Option.some.injEq] at ho
      subst ho
      refine ⟨rfl, ?_⟩
      have q26 : A_.tmps[26]? = some (.bool true) := hI.val_ (i := 4) rfl rfl (by decide) (hdep ⟨4, .guard⟩ (by simp) rfl)
      obtain ⟨_, e28, B28, r28, rfl, h28⟩ := hI.get_ (i := 6) (j := 28) rfl rfl (by decide) (hdep ⟨6, .data⟩ (by simp) rfl)
      obtain ⟨_, e30, B30, r30, rfl, h30⟩ := hI.get_ (i := 8) (j := 30) rfl rfl (by decide) (hdep ⟨8, .data⟩ (by simp) rfl)
      clear hI hdep
      exact .call ((wanted_some rfl rfl q26).trans rfl) 18 #[.slice B28 (DK.view d).length r28, .slice B30 (DK.view d).length r30] (by simp [go_sem, Act.eval, e28, e30]) ((sameInts_eq (b := true) w3 h28 h30 (by rw [DK.view_len]; omega) (by simp)).mono fun _ _ ⟨h1_, h2_⟩ => ⟨⟨_, h1_, rfl⟩, h2_⟩)
    · simp only [List.getElem?_toArray, List.getElem?_cons_succ, List.getElem?_cons_zero, Option.some.injEq] at ho
      subst ho
      refine ⟨rfl, ?_⟩
      have e26 : A_.tmps[26]?.getD undef = .bool true := getD_of (hI.val_ (i := 4) rfl rfl (by decide) (hdep ⟨4, .data⟩ (by simp) rfl))
      have e31 : A_.tmps[31]?.getD undef = .bool true := getD_of (hI.val_ (i := 9) rfl rfl (by decide) (hdep ⟨9, .data⟩ (by simp) rfl))
      clear hI hdep
      exact .run rfl (.bool true) w3 (by simp [execOp, go_sem, Act.eval, e26, e31]) (Below.refl _ _) rfl
    · simp only [List.getElem?_toArray, List.getElem?_cons_succ, List.getElem?_cons_zero, Option.some.injEq] at ho
      subst ho
      refine ⟨rfl, ?_⟩
      have e32 : A_.tmps[32]?.getD undef = .bool true := getD_of (hI.val_ (i := 10) rfl rfl (by decide) (hdep ⟨10, .data⟩ (by simp) rfl))
      clear hI hdep
      exact .run rfl (.bool true) w3 (by simp [execOp, go_sem, Act.eval, e32]) (Below.refl _ _) rfl
    · simp only [List.getElem?_toArray, List.getElem?_cons_succ, List.getElem?_cons_zero, Option.some.injEq] at ho
      subst ho
      refine ⟨rfl, ?_⟩
      have q33 : A_.tmps[33]? = some (.bool true) := hI.val_ (i := 11) rfl rfl (by decide) (hdep ⟨11, .guard⟩ (by simp) rfl)
      have e8 : A_.tmps[8]?.getD undef = .pointer (some ⟨w4.heap.size, 0, none⟩) := by rw [hI.low 8 (by decide)]; rfl
      clear hI hdep
      exact .run ((wanted_some rfl rfl q33).trans rfl) (.pointer (some ⟨w4.heap.size, 0, none⟩)) w3 (by simp [execOp, go_sem, Act.eval, e8]) (Below.refl _ _) rfl
    · simp only [List.getElem?_toArray, List.getElem?_cons_succ, List.getElem?_cons_zero, Option.some.injEq] at ho
      subst ho
      refine ⟨rfl, ?_⟩
      have q33 : A_.tmps[33]? = some (.bool true) := hI.val_ (i := 11) rfl rfl (by decide) (hdep ⟨11, .guard⟩ (by simp) rfl)
      have e34 : A_.tmps[34]?.getD undef = .pointer (some ⟨w4.heap.size, 0, none⟩) := getD_of (hI.val_ (i := 12) rfl rfl (by decide) (hdep ⟨12, .data⟩ (by simp) rfl))
      clear hI hdep
      obtain ⟨⟨d2, d3⟩, d0, d1⟩ := HK5.out w3 (H6.out.1.trans (hh.mono H6.out.1.size))
      exact .run ((wanted_some rfl rfl q33).trans rfl) (.slice A4 d.cells.length c4) w3 (by simp [execOp, go_sem, Act.eval, *]) (Below.refl _ _) rfl
    · simp only [List.getElem?_toArray, List.getElem?_cons_succ, List.getElem?_cons_zero, Option.some.injEq] at ho
      subst ho
      refine ⟨rfl, ?_⟩
      have q33 : A_.tmps[33]? = some (.bool true) := hI.val_ (i := 11) rfl rfl (by decide) (hdep ⟨11, .guard⟩ (by simp) rfl)
      have e7 : A_.tmps[7]?.getD undef = .pointer (some ⟨w2.heap.size, 0, none⟩) := by rw [hI.low 7 (by decide)]; rfl
      clear hI hdep
      obtain ⟨⟨d2, d3⟩, d0, d1⟩ := HK5.out w3 (H6.out.1.trans (hh.mono H6.out.1.size))
      exact .run ((wanted_some rfl rfl q33).trans rfl) (.agg #[.slice A2 d.cells.length c2, .slice P2 d.pend.length q2]) w3 (by simp [execOp, go_sem, Act.eval, *]) (Below.refl _ _) rfl
    · simp only [List.getElem?_toArray, List.getElem?_cons_succ, List.getElem?_cons_zero, Option.some.injEq] at ho
      subst ho
      refine ⟨rfl, ?_⟩
      have q33 : A_.tmps[33]? = some (.bool true) := hI.val_ (i := 11) rfl rfl (by decide) (hdep ⟨11, .guard⟩ (by simp) rfl)
      have e36 : A_.tmps[36]?.getD undef = .agg #[.slice A2 d.cells.length c2, .slice P2 d.pend.length q2] := getD_of (hI.val_ (i := 14) rfl rfl (by decide) (hdep ⟨14, .data⟩ (by simp) rfl))
      clear hI hdep
      exact .call ((wanted_some rfl rfl q33).trans rfl) 19 #[.agg #[.slice A2 d.cells.length c2, .slice P2 d.pend.length q2]] (by simp [go_sem, Act.eval, e36]) (view_sp w3 ((H3.out.2.1.keep H5.out.2.2).keep (H6.out.1.trans (hh.mono H6.out.1.size))) HD.out)
    · simp only [List.getElem?_toArray, List.getElem?_cons_succ, List.getElem?_cons_zero, Option.some.injEq] at ho
      subst ho
      refine ⟨rfl, ?_⟩
      have q33 : A_.tmps[33]? = some (.bool true) := hI.val_ (i := 11) rfl rfl (by decide) (hdep ⟨11, .guard⟩ (by simp) rfl)
      have e35 : A_.tmps[35]?.getD undef = .slice A4 d.cells.length c4 := getD_of (hI.val_ (i := 13) rfl rfl (by decide) (hdep ⟨13, .data⟩ (by simp) rfl))
      obtain ⟨_, e37, B37, r37, rfl, h37⟩ := hI.get_ (i := 15) (j := 37) rfl rfl (by decide) (hdep ⟨15, .data⟩ (by simp) rfl)
      clear hI hdep
      exact .call ((wanted_some rfl rfl q33).trans rfl) 18 #[.slice A4 d.cells.length c4, .slice B37 (DK.view d).length r37] (by simp [go_sem, Act.eval, e35, e37]) ((sameInts_eq (b := true) w3 (dk_cells (H5.out.2.1.keep (H6.out.1.trans (hh.mono H6.out.1.size)))) h37 (by omega) (by simp [DK.sync])).mono fun _ _ ⟨h1_, h2_⟩ => ⟨⟨_, h1_, rfl⟩, h2_⟩)
    · simp only [List.getElem?_toArray, List.getElem?_cons_succ, List.getElem?_cons_zero, Option.some.injEq] at ho
      subst ho
      refine ⟨rfl, ?_⟩
      have e33 : A_.tmps[33]?.getD undef = .bool true := getD_of (hI.val_ (i := 11) rfl rfl (by decide) (hdep ⟨11, .data⟩ (by simp) rfl))
      have e38 : A_.tmps[38]?.getD undef = .bool true := getD_of (hI.val_ (i := 16) rfl rfl (by decide) (hdep ⟨16, .data⟩ (by simp) rfl))
      clear hI hdep
      exact .run rfl (.bool true) w3 (by simp [execOp, go_sem, Act.eval, e33, e38]) (Below.refl _ _) rfl
    · simp only [List.getElem?_toArray, List.getElem?_cons_succ, List.getElem?_cons_zero, Option.some.injEq] at ho
      subst ho
      refine ⟨rfl, ?_⟩
      have e39 : A_.tmps[39]?.getD undef = .bool true := getD_of (hI.val_ (i := 17) rfl rfl (by decide) (hdep ⟨17, .data⟩ (by simp) rfl))
      clear hI hdep
      exact .run rfl (.bool true) w3 (by simp [execOp, go_sem, Act.eval, e39]) (Below.refl _ _) rfl
    · simp only [List.getElem?_toArray, List.getElem?_cons_succ, List.getElem?_cons_zero, Option.some.injEq] at ho
      subst ho
      refine ⟨rfl, ?_⟩
      have q40 : A_.tmps[40]? = some (.bool true) := hI.val_ (i := 18) rfl rfl (by decide) (hdep ⟨18, .guard⟩ (by simp) rfl)
      have e8 : A_.tmps[8]?.getD undef = .pointer (some ⟨w4.heap.size, 0, none⟩) := by rw [hI.low 8 (by decide)]; rfl
      clear hI hdep
      obtain ⟨⟨d2, d3⟩, d0, d1⟩ := HK5.out w3 (H6.out.1.trans (hh.mono H6.out.1.size))
      exact .run ((wanted_some rfl rfl q40).trans rfl) (.agg #[.slice A4 d.cells.length c4, .slice P4 0 q4]) w3 (by simp [execOp, go_sem, Act.eval, *]) (Below.refl _ _) rfl
    · simp only [List.getElem?_toArray, List.getElem?_cons_succ, List.getElem?_cons_zero, Option.some.injEq] at ho
      subst ho
      refine ⟨rfl, ?_⟩
      have q40 : A_.tmps[40]? = some (.bool true) := hI.val_ (i := 18) rfl rfl (by decide) (hdep ⟨18, .guard⟩ (by simp) rfl)
      have e9 : A_.tmps[9]?.getD undef = .slice B6 m r6 := by rw [hI.low 9 (by decide)]; rfl
      clear hI hdep
      exact .run ((wanted_some rfl rfl q40).trans rfl) (.slice B6 m r6) w3 (by simp [execOp, go_sem, Act.eval, e9]) (Below.refl _ _) rfl
    · simp only [List.getElem?_toArray, List.getElem?_cons_succ, List.getElem?_cons_zero, Option.some.injEq] at ho
      subst ho
      refine ⟨rfl, ?_⟩
      have q40 : A_.tmps[40]? = some (.bool true) := hI.val_ (i := 18) rfl rfl (by decide) (hdep ⟨18, .guard⟩ (by simp) rfl)
      have e41 : A_.tmps[41]?.getD undef = .agg #[.slice A4 d.cells.length c4, .slice P4 0 q4] := getD_of (hI.val_ (i := 19) rfl rfl (by decide) (hdep ⟨19, .data⟩ (by simp) rfl))
      have e42 : A_.tmps[42]?.getD undef = .slice B6 m r6 := getD_of (hI.val_ (i := 20) rfl rfl (by decide) (hdep ⟨20, .data⟩ (by simp) rfl))
      clear hI hdep
      exact .call ((wanted_some rfl rfl q40).trans rfl) 25 #[.agg #[.slice A4 d.cells.length c4, .slice P4 0 q4], .slice B6 m r6] (by simp [go_sem, Act.eval, e41, e42]) (RgX.dkv_calls (crash_same w3 (H5.out.2.1.keep (H6.out.1.trans (hh.mono H6.out.1.size))) HD.out (H6.out.2.keep hh) (by omega)) (Nat.zero_le _))
    · simp only [List.getElem?_toArray, List.getElem?_cons_succ, List.getElem?_cons_zero, Option.some.injEq] at ho
      subst ho
      refine ⟨rfl, ?_⟩
      have q40 : A_.tmps[40]? = some (.bool true) := hI.val_ (i := 18) rfl rfl (by decide) (hdep ⟨18, .guard⟩ (by simp) rfl)
      have e8 : A_.tmps[8]?.getD undef = .pointer (some ⟨w4.heap.size, 0, none⟩) := by rw [hI.low 8 (by decide)]; rfl
      clear hI hdep
      obtain ⟨⟨d2, d3⟩, d0, d1⟩ := HK5.out w3 (H6.out.1.trans (hh.mono H6.out.1.size))
      exact .run ((wanted_some rfl rfl q40).trans rfl) (.agg #[.slice A4 d.cells.length c4, .slice P4 0 q4]) w3 (by simp [execOp, go_sem, Act.eval, *]) (Below.refl _ _) rfl
    · simp only [List.getElem?_toArray, List.getElem?_cons_succ, List.getElem?_cons_zero, Option.some.injEq] at ho
      subst ho
      refine ⟨rfl, ?_⟩
      have q40 : A_.tmps[40]? = some (.bool true) := hI.val_ (i := 18) rfl rfl (by decide) (hdep ⟨18, .guard⟩ (by simp) rfl)
      obtain ⟨_, e43, A43, n43, c43, P43, m43, q43, rfl, h43, k43⟩ := hI.get_ (i := 21) (j := 43) rfl rfl (by decide) (hdep ⟨21, .data⟩ (by simp) rfl)
      have e44 : A_.tmps[44]?.getD undef = .agg #[.slice A4 d.cells.length c4, .slice P4 0 q4] := getD_of (hI.val_ (i := 22) rfl rfl (by decide) (hdep ⟨22, .data⟩ (by simp) rfl))
      clear hI hdep
      exact .call ((wanted_some rfl rfl q40).trans rfl) 17 #[.agg #[.slice A43 n43 c43, .slice P43 m43 q43], .agg #[.slice A4 d.cells.length c4, .slice P4 0 q4]] (by simp [go_sem, Act.eval, e43, e44]) ((same_true w3 ⟨_, _, _, _, _, _, rfl, h43, k43⟩ (H5.out.2.1.keep (H6.out.1.trans (hh.mono H6.out.1.size))) (DK.ok_sync HD.out)).mono fun _ _ ⟨h1_, h2_⟩ => ⟨⟨_, h1_, rfl⟩, h2_⟩)
    · simp only [List.getElem?_toArray, List.getElem?_cons_succ, List.getElem?_cons_zero, Option.some.injEq] at ho
      subst ho
      refine ⟨rfl, ?_⟩
      have e40 : A_.tmps[40]?.getD undef = .bool true := getD_of (hI.val_ (i := 18) rfl rfl (by decide) (hdep ⟨18, .data⟩ (by simp) rfl))
      have e45 : A_.tmps[45]?.getD undef = .bool true := getD_of (hI.val_ (i := 23) rfl rfl (by decide) (hdep ⟨23, .data⟩ (by simp) rfl))
      clear hI hdep
      exact .run rfl (.bool true) w3 (by simp [execOp, go_sem, Act.eval, e40, e45]) (Below.refl _ _) rfl
    · simp only [List.getElem?_toArray, List.getElem?_cons_succ, List.getElem?_cons_zero, Option.some.injEq] at ho
      subst ho
      refine ⟨rfl, ?_⟩
      have e46 : A_.tmps[46]?.getD undef = .bool true := getD_of (hI.val_ (i := 24) rfl rfl (by decide) (hdep ⟨24, .data⟩ (by simp) rfl))
      clear hI hdep
      exact .run rfl (.bool true) w3 (by simp [execOp, go_sem, Act.eval, e46]) (Below.refl _ _) rfl
    · simp only [List.getElem?_toArray, List.getElem?_cons_succ, List.getElem?_cons_zero, Option.some.injEq] at ho
      subst ho
      refine ⟨rfl, ?_⟩
      have q47 : A_.tmps[47]? = some (.bool true) := hI.val_ (i := 25) rfl rfl (by decide) (hdep ⟨25, .guard⟩ (by simp) rfl)
      clear hI hdep
      exact .call ((wanted_some rfl rfl q47).trans rfl) 21 #[] (by simp [go_sem]) ((lives_any w3).mono fun _ _ ⟨h1_, h2_⟩ => ⟨⟨_, h1_, rfl⟩, h2_⟩)
    · simp only [List.getElem?_toArray, List.getElem?_cons_succ, List.getElem?_cons_zero, Option.some.injEq] at ho
      subst ho
      refine ⟨rfl, ?_⟩
      have e47 : A_.tmps[47]?.getD undef = .bool true := getD_of (hI.val_ (i := 25) rfl rfl (by decide) (hdep ⟨25, .data⟩ (by simp) rfl))
      have e48 : A_.tmps[48]?.getD undef = .bool true := getD_of (hI.val_ (i := 26) rfl rfl (by decide) (hdep ⟨26, .data⟩ (by simp) rfl))
      clear hI hdep
      exact .run rfl (.bool true) w3 (by simp [execOp, go_sem, Act.eval, e47, e48]) (Below.refl _ _) rfl
    · simp only [List.getElem?_toArray, List.getElem?_cons_succ, List.getElem?_cons_zero, Option.some.injEq] at ho
      subst ho
      refine ⟨rfl, ?_⟩
      have e49 : A_.tmps[49]?.getD undef = .bool true := getD_of (hI.val_ (i := 27) rfl rfl (by decide) (hdep ⟨27, .data⟩ (by simp) rfl))
      clear hI hdep
      exact .run rfl (.bool true) w3 (by simp [execOp, go_sem, Act.eval, e49]) (Below.refl _ _) rfl
  case fin =>
  intro A_ w3 hs hd hlow hS hok
  obtain ⟨_, hy28, B28, r28, rfl, h28⟩ := hok 6 28 _ (by decide) rfl rfl
  obtain ⟨_, hy30, B30, r30, rfl, h30⟩ := hok 8 30 _ (by decide) rfl rfl
  obtain ⟨_, hy37, B37, r37, rfl, h37⟩ := hok 15 37 _ (by decide) rfl rfl
  obtain ⟨_, hy43, A43, n43, c43, P43, m43, q43, rfl, h43, k43⟩ := hok 21 43 _ (by decide) rfl rfl
  obtain rfl : A_ = ⟨#[.int .i64 a0, .slice a1 len1 cap1, .slice a2 len2 cap2, undef, undef, undef, .bool true, .pointer (some ⟨w2.heap.size, 0, none⟩), .pointer (some ⟨w4.heap.size, 0, none⟩), .slice B6 m r6, .int .i64 a0, .slice a1 len1 cap1, .agg #[.slice A2 d.cells.length c2, .slice P2 d.pend.length q2], .agg #[.slice A2 d.cells.length c2, .slice P2 d.pend.length q2], .agg #[.slice A4 d.cells.length c4, .slice P4 0 q4], .slice (some ⟨w5.heap.size, 0, none⟩) 0 0, .slice a2 len2 cap2, .slice a2 len2 cap2, .int .i64 (len2 : Int), .int .i64 (m : Int), .slice a2 m cap2, .slice B6 m r6, .pointer (some ⟨w4.heap.size, 1, none⟩), .slice P4 0 q4, .int .i64 (0 : Int), .bool true, .bool true, .agg #[.slice A4 d.cells.length c4, .slice P4 0 q4], .slice B28 (DK.view d).length r28, .agg #[.slice A2 d.cells.length c2, .slice P2 d.pend.length q2], .slice B30 (DK.view d).length r30, .bool true, .bool true, .bool true, .pointer (some ⟨w4.heap.size, 0, none⟩), .slice A4 d.cells.length c4, .agg #[.slice A2 d.cells.length c2, .slice P2 d.pend.length q2], .slice B37 (DK.view d).length r37, .bool true, .bool true, .bool true, .agg #[.slice A4 d.cells.length c4, .slice P4 0 q4], .slice B6 m r6, .agg #[.slice A43 n43 c43, .slice P43 m43 q43], .agg #[.slice A4 d.cells.length c4, .slice P4 0 q4], .bool true, .bool true, .bool true, .bool true, .bool true], []⟩ := act_ext hd hs (fun j hj => match j, hj with | 0, _ => (hlow 0 (by decide)).trans rfl | 1, _ => (hlow 1 (by decide)).trans rfl | 2, _ => (hlow 2 (by decide)).trans rfl | 3, _ => (hlow 3 (by decide)).trans rfl | 4, _ => (hlow 4 (by decide)).trans rfl | 5, _ => (hlow 5 (by decide)).trans rfl | 6, _ => RgX.val_at (hok 28 6 _ (by decide) rfl rfl) | 7, _ => (hlow 7 (by decide)).trans rfl | 8, _ => (hlow 8 (by decide)).trans rfl | 9, _ => (hlow 9 (by decide)).trans rfl | 10, _ => (hlow 10 (by decide)).trans rfl | 11, _ => (hlow 11 (by decide)).trans rfl | 12, _ => (hlow 12 (by decide)).trans rfl | 13, _ => (hlow 13 (by decide)).trans rfl | 14, _ => (hlow 14 (by decide)).trans rfl | 15, _ => (hlow 15 (by decide)).trans rfl | 16, _ => (hlow 16 (by decide)).trans rfl | 17, _ => (hlow 17 (by decide)).trans rfl | 18, _ => (hlow 18 (by decide)).trans rfl | 19, _ => (hlow 19 (by decide)).trans rfl | 20, _ => (hlow 20 (by decide)).trans rfl | 21, _ => (hlow 21 (by decide)).trans rfl | 22, _ => RgX.val_at (hok 0 22 _ (by decide) rfl rfl) | 23, _ => RgX.val_at (hok 1 23 _ (by decide) rfl rfl) | 24, _ => RgX.val_at (hok 2 24 _ (by decide) rfl rfl) | 25, _ => RgX.val_at (hok 3 25 _ (by decide) rfl rfl) | 26, _ => RgX.val_at (hok 4 26 _ (by decide) rfl rfl) | 27, _ => RgX.val_at (hok 5 27 _ (by decide) rfl rfl) | 28, _ => hy28 | 29, _ => RgX.val_at (hok 7 29 _ (by decide) rfl rfl) | 30, _ => hy30 | 31, _ => RgX.val_at (hok 9 31 _ (by decide) rfl rfl) | 32, _ => RgX.val_at (hok 10 32 _ (by decide) rfl rfl) | 33, _ => RgX.val_at (hok 11 33 _ (by decide) rfl rfl) | 34, _ => RgX.val_at (hok 12 34 _ (by decide) rfl rfl) | 35, _ => RgX.val_at (hok 13 35 _ (by decide) rfl rfl) | 36, _ => RgX.val_at (hok 14 36 _ (by decide) rfl rfl) | 37, _ => hy37 | 38, _ => RgX.val_at (hok 16 38 _ (by decide) rfl rfl) | 39, _ => RgX.val_at (hok 17 39 _ (by decide) rfl rfl) | 40, _ => RgX.val_at (hok 18 40 _ (by decide) rfl rfl) | 41, _ => RgX.val_at (hok 19 41 _ (by decide) rfl rfl) | 42, _ => RgX.val_at (hok 20 42 _ (by decide) rfl rfl) | 43, _ => hy43 | 44, _ => RgX.val_at (hok 22 44 _ (by decide) rfl rfl) | 45, _ => RgX.val_at (hok 23 45 _ (by decide) rfl rfl) | 46, _ => RgX.val_at (hok 24 46 _ (by decide) rfl rfl) | 47, _ => RgX.val_at (hok 25 47 _ (by decide) rfl rfl) | 48, _ => RgX.val_at (hok 26 48 _ (by decide) rfl rfl) | 49, _ => RgX.val_at (hok 27 49 _ (by decide) rfl rfl) | n + 50, h => absurd h (by show ¬ n + 50 < 50; omega))
  clear hs hd hlow hok hy28 hy30 hy37 hy43
  go_wp2_with fail
  go_ret
  have h5 := H3.out.2.2.trans (H5.out.2.2.mono H3.out.2.2.size)
  have h6 := h5.trans (H6.out.1.mono h5.size)
  exact ⟨rfl, h6.trans (hS.mono h6.size)⟩
end Go.Proofs.Ytgdefhlcgmibcaa.LawDiskSync
