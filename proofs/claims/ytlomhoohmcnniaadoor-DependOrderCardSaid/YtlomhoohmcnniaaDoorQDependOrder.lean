/-
  The walk of DependOrder: Less of the order is the reference's matrix.
  The tied card of the statement DependOrder: for every input the law answers true and leaves its arguments as they were; the condition is the listed table of math/bits, which the card ties to the program's text. The frame of this proof was written by the guide's program, the walk is the text LawDependOrder's.
-/
import Derived.Test.YtlomhoohmcnniaaDoorK14
import Derived.Test.YtlomhoohmcnniaaDoorK21
import Derived.Test.YtlomhoohmcnniaaDoorK22
import Derived.Test.YtlomhoohmcnniaaDoorK27
import Derived.Deep.Cut
import Derived.Test.YtlomhoohmcnniaaDoorRows
import Derived.Test.YtlomhoohmcnniaaDoorCards
import Derived.Test.YtlomhoohmcnniaaDoorTie
import Derived.Test.YtlomhoohmcnniaaDoorK4
import Derived.SevenTiedPlain
import Derived.SevenTiedAt
import Derived.WalkKit
import Derived.ProofKit
import Derived.OpenShut
import Derived.ShutString
import Derived.ChangeOld
import Derived.Below

namespace Go.Proofs.YtlomhoohmcnniaaDoor.LawDependOrder
open Go Go.RowKit Go.Proofs Go.Proofs.YtlomhoohmcnniaaDoor
attribute [local go_sem] Oper.semAt_some

set_option maxRecDepth 100000 in
set_option maxHeartbeats 8000000 in
theorem walk (a0 : Option Addr) (len0 cap0 : Nat) (z0 : List Int) (w : World) (w0 : Row .i64 w a0 len0 cap0 z0) (hT : Tab w) :
    Calls Tryd.prog 3 #[.slice a0 len0 cap0] w fun e w' => e = .returned (.bool true) ∧ Below w.heap.size w w' := by
  have htl := hT.lt
  have HRUN := Lib.hid (run_row w0)
  have HT := Lib.hid hT
  clear w0 hT
  go_enter Tryd.func3, Tryd.ntmps3
  go_wp2_with (first
    | (go_at_call 10
       refine HRUN.out.mono ?_
       clear HRUN
       rintro e w1 ⟨A, m, c, R, rfl, hr1, hm, hgd, hb1⟩
       have HR1 := Lib.hid hr1
       have HB1 := Lib.hid hb1
       have HORD := Lib.hid (order_any hr1 hm (HT.out.below htl hb1))
       clear hr1 hb1 hgd)
    | (go_at_call 11
       refine HORD.out.mono ?_
       clear HORD
       rintro e w2 ⟨p, rfl, ho2, hb2⟩
       have HO2 := Lib.hid ho2
       have HB2 := Lib.hid (HB1.out.trans (hb2.mono HB1.out.size))
       have HR2 := Lib.hid (HR1.out.keep hb2)
       have HRL := Lib.hid (refLess_any (HR1.out.keep hb2) hm)
       clear ho2 hb2)
    | (go_at_call 12
       refine HRL.out.mono ?_
       clear HRL
       rintro e w4 ⟨gm, gs, rfl, hml4, hb4⟩
       have HML := Lib.hid hml4
       have HB4 := Lib.hid hb4
       clear hml4 hb4))
  have hR14 : R.length ≤ 14 := by have := HR2.out.sl.len; omega
  have HLEN := Lib.hid HR2.out.sl.len
  have HB24 := Lib.hid (HB2.out.trans (HB4.out.mono HB2.out.size))
  have hod := HO2.out.below HB4.out
  have HO4 := Lib.hid (hod.more HB4.out.size)
  have HLE : Hid (∀ (V : World) (i k : Nat), Below w4.heap.size w4 V → Calls Tryd.prog 13 #[.pointer (some ⟨p, 0, none⟩), .int .i64 (i : Int), .int .i64 (k : Int)] V fun e w' => e = .returned (.bool (DP.hb R i k)) ∧ Below V.heap.size V w') := fun V i k hV => (less_hb (HO4.out.below hV) hR14 i k).mono fun _ _ ⟨h1, h2⟩ => ⟨h1, by subst h2; exact Below.refl _ _⟩
  have HLN : Hid (∀ V : World, Below w4.heap.size w4 V → Calls Tryd.prog 14 #[.pointer (some ⟨p, 0, none⟩)] V fun e w' => e = .returned (.int .i64 (m : Int)) ∧ V = w') := fun V hV => by
    have h := len_any (HO4.out.below hV)
    rwa [DP.ordD_len hR14, HLEN.out] at h
  have HLV : Hid (∀ V, Below w4.heap.size w4 V → Calls Tryd.prog 15 #[] V fun e w' => e = .returned (.bool true) ∧ Below V.heap.size V w') := fun V hV => lives_any V ((HT.out.below htl HB24.out).below (Nat.lt_of_lt_of_le htl HB24.out.size) hV)
  clear HO2 HO4 hod HR1 HR2 HB1 HB2 HT hR14 HLEN
  go_loopw [6] (fun i V => ∃ k : Nat, i = .int .i64 (k : Int) ∧ k ≤ m ∧ Hid (Below w4.heap.size w4 V)) (fun i _ => m - (intOf i).toNat)
  case atStart => exact ⟨0, rfl, Nat.zero_le _, Below.refl _ _⟩
  case round =>
    obtain ⟨i, rfl, him, hbl⟩ := hrel
    obtain ⟨wo, hwo⟩ : ∃ W, W = wr := ⟨_, rfl⟩
    subst hwo
    by_cases hi : i < m
    · go_wp2_with fail
      go_loopw [7] (fun k V => ∃ j : Nat, k = .int .i64 (j : Int) ∧ j ≤ m ∧ Hid (Below w4.heap.size w4 V)) (fun k _ => m - (intOf k).toNat)
      case atStart => exact ⟨0, rfl, Nat.zero_le _, hbl.out⟩
      case round =>
        obtain ⟨k, rfl, hkm, hbk⟩ := hrel
        obtain ⟨wp, hwp⟩ : ∃ W, W = wr := ⟨_, rfl⟩
        subst hwp
        by_cases hk : k < m
        · obtain ⟨y, hy⟩ : ∃ y, DP.hb R i k = y := ⟨_, rfl⟩
          have HL1 : Hid (∀ V, Below wp.heap.size wp V → Calls Tryd.prog 13 #[.pointer (some ⟨p, 0, none⟩), .int .i64 (i : Int), .int .i64 (k : Int)] V fun e w' => e = .returned (.bool y) ∧ Below V.heap.size V w') := fun V hV => hy ▸ HLE.out V i k (hbk.out.trans (hV.mono hbk.out.size))
          have HC : Hid (∀ V, Below wp.heap.size wp V → V.cell? ⟨gm, i, none⟩ = some (.slice (some ⟨gs i, 0, none⟩) m m) ∧ V.cell? ⟨gs i, k, none⟩ = some (.bool y)) := fun V hV => by
            have h := (HML.out.keep hbk.out).keep hV
            exact ⟨h.at_ (Nat.zero_le _) hi, by rw [h.bit (Nat.zero_le _) hi hk, hy]⟩
          clear hy
          go_upto_region 12 with (fail)
          refine RgX.region 12 (fun i => ( 28 + i)) (fun ix_ => match ix_ with | 0 => .v (.pointer (some ⟨p, 0, none⟩)) | 1 => .v (.int .i64 (i : Int)) | 2 => .v (.int .i64 (k : Int)) | 3 => .v (.bool y) | 4 => .v (.slice (some ⟨gm, 0, none⟩) m m) | 5 => .v (.int .i64 (i : Int)) | 6 => .v (.pointer (some ⟨gm, i, none⟩)) | 7 => .v (.slice (some ⟨gs i, 0, none⟩) m m) | 8 => .v (.int .i64 (k : Int)) | 9 => .v (.pointer (some ⟨gs i, k, none⟩)) | 10 => .v (.bool y) | 11 => .v (.bool false) | _ => .any) (by kernel_rfl) rfl (by kernel_rfl)  (fun i hi => by show ( 28 + i) < 48; (repeat' split) <;> omega) (fun i j hi hj => by show ( 28 + i) = ( 28 + j) → i = j; (repeat' split) <;> omega) ?step ?fin
          case step =>
            intro L_ A_ w3 ix op_ hI ho hdep
            have hi : ix < 12 := (Array.getElem?_eq_some_iff.1 ho).1
            have hcase : ix = 0 ∨ ix = 1 ∨ ix = 2 ∨ ix = 3 ∨ ix = 4 ∨ ix = 5 ∨ ix = 6 ∨ ix = 7 ∨ ix = 8 ∨ ix = 9 ∨ ix = 10 ∨ ix = 11 := by omega
            have hh := hI.held
            clear hi
            rcases hcase with rfl | rfl | rfl | rfl | rfl | rfl | rfl | rfl | rfl | rfl | rfl | rfl
            · simp only [List.getElem?_toArray, List.getElem?_cons_zero, Option.some.injEq] at ho
              subst ho
              refine ⟨rfl, ?_⟩
              have e4 : A_.tmps[4]?.getD undef = .pointer (some ⟨p, 0, none⟩) := by rw [hI.low 4 (by decide)]; rfl
              clear hI hdep
              exact .run rfl (.pointer (some ⟨p, 0, none⟩)) w3 (by simp [execOp, go_sem, Act.eval, e4]) (Below.refl _ _) rfl
            · simp only [List.getElem?_toArray, List.getElem?_cons_succ, List.getElem?_cons_zero, Option.some.injEq] at ho
              subst ho
              refine ⟨rfl, ?_⟩
              have e6 : A_.tmps[6]?.getD undef = .int .i64 (i : Int) := by rw [hI.low 6 (by decide)]; rfl
              clear hI hdep
              exact .run rfl (.int .i64 (i : Int)) w3 (by simp [execOp, go_sem, Act.eval, e6]) (Below.refl _ _) rfl
            · simp only [List.getElem?_toArray, List.getElem?_cons_succ, List.getElem?_cons_zero, Option.some.injEq] at ho
              subst ho
              refine ⟨rfl, ?_⟩
              have e7 : A_.tmps[7]?.getD undef = .int .i64 (k : Int) := by rw [hI.low 7 (by decide)]; rfl
              clear hI hdep
              exact .run rfl (.int .i64 (k : Int)) w3 (by simp [execOp, go_sem, Act.eval, e7]) (Below.refl _ _) rfl
            · simp only [List.getElem?_toArray, List.getElem?_cons_succ, List.getElem?_cons_zero, Option.some.injEq] at ho
              subst ho
              refine ⟨rfl, ?_⟩
              have e28 : A_.tmps[28]?.getD undef = .pointer (some ⟨p, 0, none⟩) := getD_of (hI.val_ (i := 0) rfl rfl (by decide) (hdep ⟨0, .data⟩ (by simp) rfl))
              have e29 : A_.tmps[29]?.getD undef = .int .i64 (i : Int) := getD_of (hI.val_ (i := 1) rfl rfl (by decide) (hdep ⟨1, .data⟩ (by simp) rfl))
              have e30 : A_.tmps[30]?.getD undef = .int .i64 (k : Int) := getD_of (hI.val_ (i := 2) rfl rfl (by decide) (hdep ⟨2, .data⟩ (by simp) rfl))
              clear hI hdep
              exact .call rfl 13 #[.pointer (some ⟨p, 0, none⟩), .int .i64 (i : Int), .int .i64 (k : Int)] (by simp [go_sem, Act.eval, e28, e29, e30]) ((HL1.out w3 hh).mono fun _ _ ⟨h1_, h2_⟩ => ⟨⟨_, h1_, rfl⟩, h2_⟩)
            · simp only [List.getElem?_toArray, List.getElem?_cons_succ, List.getElem?_cons_zero, Option.some.injEq] at ho
              subst ho
              refine ⟨rfl, ?_⟩
              have e5 : A_.tmps[5]?.getD undef = .slice (some ⟨gm, 0, none⟩) m m := by rw [hI.low 5 (by decide)]; rfl
              clear hI hdep
              exact .run rfl (.slice (some ⟨gm, 0, none⟩) m m) w3 (by simp [execOp, go_sem, Act.eval, e5]) (Below.refl _ _) rfl
            · simp only [List.getElem?_toArray, List.getElem?_cons_succ, List.getElem?_cons_zero, Option.some.injEq] at ho
              subst ho
              refine ⟨rfl, ?_⟩
              have e6 : A_.tmps[6]?.getD undef = .int .i64 (i : Int) := by rw [hI.low 6 (by decide)]; rfl
              clear hI hdep
              exact .run rfl (.int .i64 (i : Int)) w3 (by simp [execOp, go_sem, Act.eval, e6]) (Below.refl _ _) rfl
            · simp only [List.getElem?_toArray, List.getElem?_cons_succ, List.getElem?_cons_zero, Option.some.injEq] at ho
              subst ho
              refine ⟨rfl, ?_⟩
              have e32 : A_.tmps[32]?.getD undef = .slice (some ⟨gm, 0, none⟩) m m := getD_of (hI.val_ (i := 4) rfl rfl (by decide) (hdep ⟨4, .data⟩ (by simp) rfl))
              have e33 : A_.tmps[33]?.getD undef = .int .i64 (i : Int) := getD_of (hI.val_ (i := 5) rfl rfl (by decide) (hdep ⟨5, .data⟩ (by simp) rfl))
              clear hI hdep
              exact .run rfl (.pointer (some ⟨gm, i, none⟩)) w3 (by simp [execOp, go_sem, Act.eval, e32, e33]; try omega) (Below.refl _ _) rfl
            · simp only [List.getElem?_toArray, List.getElem?_cons_succ, List.getElem?_cons_zero, Option.some.injEq] at ho
              subst ho
              refine ⟨rfl, ?_⟩
              have e34 : A_.tmps[34]?.getD undef = .pointer (some ⟨gm, i, none⟩) := getD_of (hI.val_ (i := 6) rfl rfl (by decide) (hdep ⟨6, .data⟩ (by simp) rfl))
              clear hI hdep
              have d0 := (HC.out w3 hh).1
              exact .run rfl (.slice (some ⟨gs i, 0, none⟩) m m) w3 (by simp [execOp, go_sem, Act.eval, e34, d0]) (Below.refl _ _) rfl
            · simp only [List.getElem?_toArray, List.getElem?_cons_succ, List.getElem?_cons_zero, Option.some.injEq] at ho
              subst ho
              refine ⟨rfl, ?_⟩
              have e7 : A_.tmps[7]?.getD undef = .int .i64 (k : Int) := by rw [hI.low 7 (by decide)]; rfl
              clear hI hdep
              exact .run rfl (.int .i64 (k : Int)) w3 (by simp [execOp, go_sem, Act.eval, e7]) (Below.refl _ _) rfl
            · simp only [List.getElem?_toArray, List.getElem?_cons_succ, List.getElem?_cons_zero, Option.some.injEq] at ho
              subst ho
              refine ⟨rfl, ?_⟩
              have e35 : A_.tmps[35]?.getD undef = .slice (some ⟨gs i, 0, none⟩) m m := getD_of (hI.val_ (i := 7) rfl rfl (by decide) (hdep ⟨7, .data⟩ (by simp) rfl))
              have e36 : A_.tmps[36]?.getD undef = .int .i64 (k : Int) := getD_of (hI.val_ (i := 8) rfl rfl (by decide) (hdep ⟨8, .data⟩ (by simp) rfl))
              clear hI hdep
              exact .run rfl (.pointer (some ⟨gs i, k, none⟩)) w3 (by simp [execOp, go_sem, Act.eval, e35, e36]; try omega) (Below.refl _ _) rfl
            · simp only [List.getElem?_toArray, List.getElem?_cons_succ, List.getElem?_cons_zero, Option.some.injEq] at ho
              subst ho
              refine ⟨rfl, ?_⟩
              have e37 : A_.tmps[37]?.getD undef = .pointer (some ⟨gs i, k, none⟩) := getD_of (hI.val_ (i := 9) rfl rfl (by decide) (hdep ⟨9, .data⟩ (by simp) rfl))
              clear hI hdep
              have d0 := (HC.out w3 hh).2
              exact .run rfl (.bool y) w3 (by simp [execOp, go_sem, Act.eval, e37, d0]) (Below.refl _ _) rfl
            · simp only [List.getElem?_toArray, List.getElem?_cons_succ, List.getElem?_cons_zero, Option.some.injEq] at ho
              subst ho
              refine ⟨rfl, ?_⟩
              have e31 : A_.tmps[31]?.getD undef = .bool y := getD_of (hI.val_ (i := 3) rfl rfl (by decide) (hdep ⟨3, .data⟩ (by simp) rfl))
              have e38 : A_.tmps[38]?.getD undef = .bool y := getD_of (hI.val_ (i := 10) rfl rfl (by decide) (hdep ⟨10, .data⟩ (by simp) rfl))
              clear hI hdep
              exact .run rfl (.bool false) w3 (by simp [execOp, go_sem, Act.eval, e31, e38]) (Below.refl _ _) rfl
          case fin =>
          intro A_ w3 hs hd hlow hS hok
          obtain rfl : A_ = ⟨#[.slice a0 len0 cap0, undef, u2, .slice A m c, .pointer (some ⟨p, 0, none⟩), .slice (some ⟨gm, 0, none⟩) m m, .int .i64 (i : Int), .int .i64 (k : Int), .slice a0 len0 cap0, .slice A m c, .slice A m c, .pointer (some ⟨p, 0, none⟩), .pointer (some ⟨p, 0, none⟩), .bool false, .slice A m c, .slice (some ⟨gm, 0, none⟩) m m, .int .i64 (i : Int), .slice A m c, .int .i64 (m : Int), .bool true, u20, u21, .int .i64 (k : Int), .slice A m c, .int .i64 (m : Int), .bool true, u26, u27, .pointer (some ⟨p, 0, none⟩), .int .i64 (i : Int), .int .i64 (k : Int), .bool y, .slice (some ⟨gm, 0, none⟩) m m, .int .i64 (i : Int), .pointer (some ⟨gm, i, none⟩), .slice (some ⟨gs i, 0, none⟩) m m, .int .i64 (k : Int), .pointer (some ⟨gs i, k, none⟩), .bool y, .bool false, undef, undef, undef, undef, undef, undef, undef, undef], []⟩ := act_ext hd hs (fun j hj => match j, hj with | 0, _ => (hlow 0 (by decide)).trans rfl | 1, _ => (hlow 1 (by decide)).trans rfl | 2, _ => (hlow 2 (by decide)).trans rfl | 3, _ => (hlow 3 (by decide)).trans rfl | 4, _ => (hlow 4 (by decide)).trans rfl | 5, _ => (hlow 5 (by decide)).trans rfl | 6, _ => (hlow 6 (by decide)).trans rfl | 7, _ => (hlow 7 (by decide)).trans rfl | 8, _ => (hlow 8 (by decide)).trans rfl | 9, _ => (hlow 9 (by decide)).trans rfl | 10, _ => (hlow 10 (by decide)).trans rfl | 11, _ => (hlow 11 (by decide)).trans rfl | 12, _ => (hlow 12 (by decide)).trans rfl | 13, _ => (hlow 13 (by decide)).trans rfl | 14, _ => (hlow 14 (by decide)).trans rfl | 15, _ => (hlow 15 (by decide)).trans rfl | 16, _ => (hlow 16 (by decide)).trans rfl | 17, _ => (hlow 17 (by decide)).trans rfl | 18, _ => (hlow 18 (by decide)).trans rfl | 19, _ => (hlow 19 (by decide)).trans rfl | 20, _ => (hlow 20 (by decide)).trans rfl | 21, _ => (hlow 21 (by decide)).trans rfl | 22, _ => (hlow 22 (by decide)).trans rfl | 23, _ => (hlow 23 (by decide)).trans rfl | 24, _ => (hlow 24 (by decide)).trans rfl | 25, _ => (hlow 25 (by decide)).trans rfl | 26, _ => (hlow 26 (by decide)).trans rfl | 27, _ => (hlow 27 (by decide)).trans rfl | 28, _ => RgX.val_at (hok 0 28 _ (by decide) rfl rfl) | 29, _ => RgX.val_at (hok 1 29 _ (by decide) rfl rfl) | 30, _ => RgX.val_at (hok 2 30 _ (by decide) rfl rfl) | 31, _ => RgX.val_at (hok 3 31 _ (by decide) rfl rfl) | 32, _ => RgX.val_at (hok 4 32 _ (by decide) rfl rfl) | 33, _ => RgX.val_at (hok 5 33 _ (by decide) rfl rfl) | 34, _ => RgX.val_at (hok 6 34 _ (by decide) rfl rfl) | 35, _ => RgX.val_at (hok 7 35 _ (by decide) rfl rfl) | 36, _ => RgX.val_at (hok 8 36 _ (by decide) rfl rfl) | 37, _ => RgX.val_at (hok 9 37 _ (by decide) rfl rfl) | 38, _ => RgX.val_at (hok 10 38 _ (by decide) rfl rfl) | 39, _ => RgX.val_at (hok 11 39 _ (by decide) rfl rfl) | 40, _ => (hlow 40 (by decide)).trans rfl | 41, _ => (hlow 41 (by decide)).trans rfl | 42, _ => (hlow 42 (by decide)).trans rfl | 43, _ => (hlow 43 (by decide)).trans rfl | 44, _ => (hlow 44 (by decide)).trans rfl | 45, _ => (hlow 45 (by decide)).trans rfl | 46, _ => (hlow 46 (by decide)).trans rfl | 47, _ => (hlow 47 (by decide)).trans rfl | n + 48, h => absurd h (by show ¬ n + 48 < 48; omega))
          clear hs hd hlow hok 
          have HB3 := Lib.hid (hbk.out.trans (hS.mono hbk.out.size))
          clear HL1 HC hS hbk
          go_wp2_with fail
          go_roundw
          case rel => exact ⟨k + 1, by go_num, by omega, HB3.out⟩
          case measure => simp [intOf]; omega
        · obtain rfl : k = m := by omega
          go_wp2_with fail
          go_roundw
          case rel => exact ⟨i + 1, by go_num, by omega, hbk.out⟩
          case measure => simp [intOf]; omega
    · obtain rfl : i = m := by omega
      have HL := Lib.hid (HLV.out wo hbl.out)
      have HL2 := Lib.hid (HLN.out wo hbl.out)
      go_wp2_with (first
        | (go_at_call 14; refine HL2.out.mono ?_; clear HL2; rintro e w' ⟨rfl, rfl⟩)
        | (go_at_call 15
           refine HL.out.mono ?_
           rintro e w9 ⟨rfl, hb9⟩))
      go_ret
      exact ⟨rfl, HB24.out.trans ((hbl.out.trans (hb9.mono hbl.out.size)).mono HB24.out.size)⟩
end Go.Proofs.YtlomhoohmcnniaaDoor.LawDependOrder

namespace Go.Proofs.YtlomhoohmcnniaaDoor.dependOrder
open Go.ChangeShapes Go.WideShapes Go.ChangeAt Go.RowKit
open Go.ChangeMaps (open_string shut_string)
set_option linter.unusedVariables false

theorem own : ownKnob Tryd.prog.godebug = none := by kernel_rfl
theorem laidOut : laidOutB Tryd.prog = true := by kernel_rfl

/-- WHAT THE WALK IS TOLD OF A SLICE OF INTEGERS THAT CAME IN: it is nil; or it leads to a row of 'cap' cells, the numbers 'zs' (the first 'len' are its elements, the rest its spare room), each fitting its kind. -/
def IsRow (k : IntKind) (w : World) (a : Option Addr) (len cap : Nat) (zs : List Int) : Prop :=
  (a = none ∧ len = 0 ∧ cap = 0 ∧ zs = []) ∨
  ∃ x, a = some x ∧ len ≤ cap ∧ cap ≤ maxLen ∧ zs.length = cap ∧ (∀ i, i < zs.length → w.cell? (x.add i) = some (.int k (zs.getD i 0))) ∧ ∀ n ∈ zs, (Lit.int k n).wf = true

/-! ### STEP 1: THE WALK: the Go text returns true, AND WRITES NOTHING THAT WAS THERE: 'Below w.heap.size w w'' (Derived/Below.lean: '.refl', '.alloc', '.drew', '.setCell' at a new block, '.trans'). Open each 'IsRow' by 'rcases' AHEAD of 'go_enter'; part every test ahead of the walk. -/
theorem walk (a0 : Option Addr) (len0 cap0 : Nat) (z0 : List Int) (w : World) (w0 : IsRow .i64 w a0 len0 cap0 z0) (hT : Tab w) :
    Calls Tryd.prog 3 #[.slice a0 len0 cap0] w fun e w' => e = .returned (.bool true) ∧ Below w.heap.size w w' := by
  exact LawDependOrder.walk a0 len0 cap0 z0 w w0 hT

/-! ### THE ROW's STEP: WRITTEN OUT: LEAVE IT -/
set_option maxRecDepth 100000 in
theorem lifted (os : Os) (started : os.Started) (H : Type) (enc : TypeId × Value → H) :
    ReturnsInHanded {} Tryd.checked os 3 .any (fun w args => (Rows.dependOrderSpec.pre enc Tryd.prog Tryd.f3 [] false w args ∧ laidMetH Tryd.prog laidT w) ∧ sizedMet enc Tryd.prog Tryd.f3 (OpenSpec.ofChange Rows.dependOrderSpec) false w args)
      (Rows.dependOrderSpec.post enc Tryd.prog Tryd.f3 false true false false) := by
  refine returnsInHanded_of_change_and (C := Tryd.checked) (X := fun w _ => laidMetH Tryd.prog laidT w) (fun _ _ _ hh h => h.of_heap hh) own started (by kernel_rfl) Tryd.func3
    (ChangeSpec.witness_shaped (enc := enc) (C := Tryd.checked) (os := os) (X := fun w _ => laidMetH Tryd.prog laidT w) false (World.doorLaid Tryd.prog 14 os) #[.slice none 0 0] 8 rfl (World.shaped_of_RefB (by kernel_rfl) (by kernel_rfl)) (by kernel_rfl) (by kernel_rfl) (by kernel_rfl) (door_met os _)) ?_
  intro W base args ds gs before hval0 hW _ _ hL _
  have hval : ∀ (j : Nat) t v, Tryd.f3.params[j]? = some t → args[j]? = some v → Value.okWide Tryd.prog W .any base t v := hval0
  have hW' := hW
  obtain ⟨p, q, hA0, hV, rfl, hfz, hnd⟩ := hW
  have hA : DataW.TrodAll enc Tryd.prog W 0 (fun _ => true) true Tryd.f3.params.toList args.toList ds p := hA0
  rw [Tryd.params3] at hA hval
  obtain ⟨v0, vs0, d0, ds0, p0, q0, hargs, rfl, rfl, h0, r0⟩ := trodAll_cons hA
  obtain ⟨rfl, rfl, rfl⟩ := trodAll_nil r0
  obtain rfl : args = #[v0] := by cases args; simp_all
  obtain ⟨rfl, rfl⟩ := trodVars_none hV
  obtain ⟨a0, len0, cap0, rfl⟩ := okWide_slice Tryd.underlying22 (hval 0 22 v0 rfl rfl)
  have k0 := h0
  have lt0 : ∀ x ∈ p0, x.block < W.heap.size := by obtain ⟨m, hm⟩ := k0; exact DataW.trod_lt m _ _ _ hm
  obtain ⟨z0, w0⟩ : ∃ zs, IsRow .i64 W a0 len0 cap0 zs := by
    obtain ⟨fuel, hf⟩ := h0
    rcases open_ints Tryd.underlying22 Tryd.underlying3 (by kernel_rfl) hf with ⟨hcs, _⟩ | ⟨x, l, c, zs, hcs, _, hl, hm, hz, _, hcell, hwz⟩
    · simp [Value.cells] at hcs
      obtain ⟨rfl, rfl, rfl⟩ := hcs
      exact ⟨[], .inl ⟨rfl, rfl, rfl, rfl⟩⟩
    · simp [Value.cells] at hcs
      obtain ⟨rfl, rfl, rfl⟩ := hcs
      exact ⟨zs, .inr ⟨_, rfl, hl, hm, by simpa using hz, hcell, hwz⟩⟩
  clear hA0 hval0
  refine (walk a0 len0 cap0 z0 W w0 (of_laid hL)).mono fun e W' ⟨he, bel⟩ => ?_
  subst he
  exact ⟨_, rfl, _, _, _, [], _, [], hW', trodAll_mk1 (shut_bool Tryd.underlying4 _), (trodAll_cons_mk (Below.trod laidOut (by kernel_rfl) (of_decide_eq_true (by kernel_rfl)) k0 bel lt0) trodAll_mk0), rfl, bel.frame _, fun h => by cases h⟩

theorem over : Rows.dependOrderRow.holds Tryd.pinned (OpenSpec.ofChange Rows.dependOrderSpec) :=
  OpenClaim.holds_of_wide 3 Tryd.f3 rfl rfl rfl rfl rfl rfl rfl ⟨rfl, rfl, rfl, rfl, rfl⟩ rfl rfl rfl rfl rfl (by kernel_rfl) Tryd.func3 (by kernel_rfl)
    (of_decide_eq_true (by kernel_rfl)) (by unfold Func.isWrapper; first | (rw [if_pos (by decide +kernel)]; kernel_rfl) | (rw [if_neg (by decide +kernel)]; exact ⟨rfl, rfl⟩))
    (fun os started H enc _ => lifted os started H enc)


/-! ### THE CARD -/
theorem cardHolds : Rows.DependOrderCardSaid :=
  Claim7.holds_tied_plain_at .later [] [.data] true (true, "90cb75cc7c10c14a10cefb939cee6070c87076b8098582c817745454562e8749") false
    over (fun _ h => by cases h) (by kernel_rfl) (fun _ h => by cases h) dependOrder_row_tie rfl ⟨rfl, rfl⟩ (by kernel_rfl) rfl
    (fun f fn hf hfn => by
      obtain rfl : f = 3 := Option.some.inj ((show Tryd.prog.funcNamed "simproof/simprooflaw16.DependOrder" = some 3 by kernel_rfl).symm.trans hf) |>.symm
      obtain rfl : fn = Tryd.f3 := (Option.some.inj (Tryd.func3.symm.trans hfn)).symm
      exact ⟨by kernel_rfl, fun j t ht => by
        rw [Tryd.params3] at ht
        have hm : t ∈ [22] := by simpa using Array.mem_of_getElem? ht
        have hall : ([22].all fun u => !Tryd.prog.wantsStandIn u) = true := by kernel_rfl
        exact (show Tryd.prog.wantsStandIn t = false by simpa using List.all_eq_true.1 hall t hm)⟩)
    (by kernel_rfl)
end Go.Proofs.YtlomhoohmcnniaaDoor.dependOrder
