/-
  The walk of DependRace: Race hands back the reference's pairs, in order.
  The tied card of the statement DependRace: for every input the law answers true and leaves its arguments as they were; the condition is the listed table of math/bits, which the card ties to the program's text. The frame of this proof was written by the guide's program, the walk is the text LawDependRace's.
-/
import Derived.Test.YtlomhoohmcnniaaDoorK14
import Derived.Test.YtlomhoohmcnniaaDoorK21
import Derived.Test.YtlomhoohmcnniaaDoorK22
import Derived.Test.YtlomhoohmcnniaaDoorK28
import Derived.Test.YtlomhoohmcnniaaDoorK19
import Derived.Deep.Cut
import Derived.Test.YtlomhoohmcnniaaDoorRows
import Derived.Test.YtlomhoohmcnniaaDoorCards
import Derived.Test.YtlomhoohmcnniaaDoorTie
import Derived.Test.YtlomhoohmcnniaaDoorK4
import Derived.SevenTiedPlain
import Derived.SevenTiedAt
import Derived.WalkKit
import Derived.ProofKit
import Derived.OpenShut
import Derived.ShutString
import Derived.ChangeOld
import Derived.Below

namespace Go.Proofs.YtlomhoohmcnniaaDoor.LawDependRace
open Go Go.RowKit Go.Proofs Go.Proofs.YtlomhoohmcnniaaDoor
attribute [local go_sem] Oper.semAt_some

set_option maxRecDepth 100000 in
set_option maxHeartbeats 8000000 in
theorem walk (a0 : Option Addr) (len0 cap0 : Nat) (z0 : List Int) (w : World) (w0 : Row .i64 w a0 len0 cap0 z0) (hT : Tab w) :
    Calls Tryd.prog 5 #[.slice a0 len0 cap0] w fun e w' => e = .returned (.bool true) ∧ Below w.heap.size w w' := by
  have htl := hT.lt
  have HRUN := Lib.hid (run_row w0)
  have HT := Lib.hid hT
  clear w0 hT
  go_enter Tryd.func5, Tryd.ntmps5
  go_wp2_with (first
    | (go_at_call 10
       refine HRUN.out.mono ?_
       clear HRUN
       rintro e w1 ⟨A, m, c, R, rfl, hr1, hm, hgd, hb1⟩
       have HR1 := Lib.hid hr1
       have HB1 := Lib.hid hb1
       have HRA := Lib.hid (race_any hr1 hm (HT.out.below htl hb1))
       obtain ⟨E, hE⟩ : ∃ E, DP.races R = E := ⟨_, rfl⟩
       rw [hE] at HRA
       have HE := Lib.hid hE
       clear hr1 hb1 hgd hE)
    | (go_at_call 20
       refine HRA.out.mono ?_
       clear HRA
       rintro e w2 ⟨A2, c2, rfl, ho2, hb2⟩
       have HX2 := Lib.hid (edg_of_own ho2)
       have HB2 := Lib.hid (HB1.out.trans (hb2.mono HB1.out.size))
       have HRR := Lib.hid (refRace_any (HR1.out.keep hb2) hm)
       rw [HE.out] at HRR
       clear ho2 hb2)
    | (go_at_call 21
       refine HRR.out.mono ?_
       clear HRR
       rintro e w4 ⟨A4, c4, rfl, ho4, hb4⟩
       have HX4 := Lib.hid (edg_of_own ho4)
       have HB4 := Lib.hid hb4
       clear ho4 hb4))
  have HB24 := Lib.hid (HB2.out.trans (HB4.out.mono HB2.out.size))
  have HLV : Hid (∀ V, Below w4.heap.size w4 V → Calls Tryd.prog 15 #[] V fun e w' => e = .returned (.bool true) ∧ Below V.heap.size V w') := fun V hV => lives_any V ((HT.out.below htl HB24.out).below (Nat.lt_of_lt_of_le htl HB24.out.size) hV)
  have hel : E.length ≤ 196 := by
    have hl := HR1.out.sl.len
    have h1 := toR_len R R.length
    rw [toR_end (by omega), HE.out] at h1
    have h3 : R.length * R.length ≤ 14 * 14 := Nat.mul_le_mul (by omega) (by omega)
    omega
  clear HR1 HB1 HB2 HT HE
  go_loopw [6] (fun i V => ∃ k : Nat, i = .int .i64 (k : Int) ∧ k ≤ E.length ∧ Hid (Below w4.heap.size w4 V)) (fun i _ => E.length - (intOf i).toNat)
  case atStart => exact ⟨0, rfl, Nat.zero_le _, Below.refl _ _⟩
  case round =>
    obtain ⟨i, rfl, him, hbl⟩ := hrel
    obtain ⟨wo, hwo⟩ : ∃ W, W = wr := ⟨_, rfl⟩
    subst hwo
    by_cases hi : i < E.length
    · obtain ⟨b1, o1, xa, xb, h1, l1, p1, _, _⟩ := (HX2.out.below (HB4.out)).at_ hi
      obtain ⟨b2, o2, xa', xb', h2, l2, p2, _, _⟩ := HX4.out.at_ hi
      rw [p1] at p2
      injection p2 with p2
      injection p2 with q1 q2
      subst q1 q2
      have HC : Hid (∀ V, Below wo.heap.size wo V → (V.cell? ⟨b1, o1 + i * 2, none⟩ = some (.int .i64 xa) ∧ V.cell? ⟨b1, o1 + i * 2 + 1, none⟩ = some (.int .i64 xb)) ∧ (V.cell? ⟨b2, o2 + i * 2, none⟩ = some (.int .i64 xa) ∧ V.cell? ⟨b2, o2 + i * 2 + 1, none⟩ = some (.int .i64 xb))) := fun V hV => by
        have hv : Below w4.heap.size w4 V := hbl.out.trans (hV.mono hbl.out.size)
        obtain ⟨x1, x2, x3, x4, y1, _, y3, y4, y5⟩ := ((HX2.out.below HB4.out).below (hv.mono HB4.out.size)).at_ hi
        obtain ⟨z1, z2, z3, z4, v1, _, v3, v4, v5⟩ := (HX4.out.below hv).at_ hi
        rw [h1] at y1
        injection y1 with y1
        injection y1 with y1 y2
        subst y1 y2
        rw [h2] at v1
        injection v1 with v1
        injection v1 with v1 v2
        subst v1 v2
        rw [p1] at y3 v3
        injection y3 with y3
        injection y3 with r1 r2
        injection v3 with v3
        injection v3 with r3 r4
        subst r1 r2 r3 r4
        exact ⟨⟨y4, y5⟩, v4, v5⟩
      subst h1
      subst h2
      clear p1 l1 l2
      go_upto_region 9 with (fail)
      refine RgX.region 9 (fun i => ( 24 + i)) (fun ix_ => match ix_ with | 0 => .v (.slice (some { block := b1, off := o1 }) E.length c2) | 1 => .v (.int .i64 (i : Int)) | 2 => .v (.pointer (some ⟨b1, o1 + i * 2, none⟩)) | 3 => .v (.agg #[.int .i64 xa, .int .i64 xb]) | 4 => .v (.slice (some { block := b2, off := o2 }) E.length c4) | 5 => .v (.int .i64 (i : Int)) | 6 => .v (.pointer (some ⟨b2, o2 + i * 2, none⟩)) | 7 => .v (.agg #[.int .i64 xa, .int .i64 xb]) | 8 => .v (.bool false) | _ => .any) (by kernel_rfl) rfl (by kernel_rfl)  (fun i hi => by show ( 24 + i) < 34; (repeat' split) <;> omega) (fun i j hi hj => by show ( 24 + i) = ( 24 + j) → i = j; (repeat' split) <;> omega) ?step ?fin
      case step =>
        intro L_ A_ w3 ix op_ hI ho hdep
        have hi : ix < 9 := (Array.getElem?_eq_some_iff.1 ho).1
        have hcase : ix = 0 ∨ ix = 1 ∨ ix = 2 ∨ ix = 3 ∨ ix = 4 ∨ ix = 5 ∨ ix = 6 ∨ ix = 7 ∨ ix = 8 := by omega
        have hh := hI.held
        clear hi
        rcases hcase with rfl | rfl | rfl | rfl | rfl | rfl | rfl | rfl | rfl
        · simp only [List.getElem?_toArray, List.getElem?_cons_zero, Option.some.injEq] at ho
          subst ho
          refine ⟨rfl, ?_⟩
          have e4 : A_.tmps[4]?.getD undef = .slice (some { block := b1, off := o1 }) E.length c2 := by rw [hI.low 4 (by decide)]; rfl
          clear hI hdep
          exact .run rfl (.slice (some { block := b1, off := o1 }) E.length c2) w3 (by simp [execOp, go_sem, Act.eval, e4]) (Below.refl _ _) rfl
        · simp only [List.getElem?_toArray, List.getElem?_cons_succ, List.getElem?_cons_zero, Option.some.injEq] at ho
          subst ho
          refine ⟨rfl, ?_⟩
          have e6 : A_.tmps[6]?.getD undef = .int .i64 (i : Int) := by rw [hI.low 6 (by decide)]; rfl
          clear hI hdep
          exact .run rfl (.int .i64 (i : Int)) w3 (by simp [execOp, go_sem, Act.eval, e6]) (Below.refl _ _) rfl
        · simp only [List.getElem?_toArray, List.getElem?_cons_succ, List.getElem?_cons_zero, Option.some.injEq] at ho
          subst ho
          refine ⟨rfl, ?_⟩
          have e24 : A_.tmps[24]?.getD undef = .slice (some { block := b1, off := o1 }) E.length c2 := getD_of (hI.val_ (i := 0) rfl rfl (by decide) (hdep ⟨0, .data⟩ (by simp) rfl))
          have e25 : A_.tmps[25]?.getD undef = .int .i64 (i : Int) := getD_of (hI.val_ (i := 1) rfl rfl (by decide) (hdep ⟨1, .data⟩ (by simp) rfl))
          clear hI hdep
          exact .run rfl (.pointer (some ⟨b1, o1 + i * 2, none⟩)) w3 (by simp [execOp, go_sem, Act.eval, e24, e25]; try omega) (Below.refl _ _) rfl
        · simp only [List.getElem?_toArray, List.getElem?_cons_succ, List.getElem?_cons_zero, Option.some.injEq] at ho
          subst ho
          refine ⟨rfl, ?_⟩
          have e26 : A_.tmps[26]?.getD undef = .pointer (some ⟨b1, o1 + i * 2, none⟩) := getD_of (hI.val_ (i := 2) rfl rfl (by decide) (hdep ⟨2, .data⟩ (by simp) rfl))
          clear hI hdep
          obtain ⟨d0, d1⟩ := (HC.out w3 hh).1
          exact .run rfl (.agg #[.int .i64 xa, .int .i64 xb]) w3 (by simp [execOp, go_sem, Act.eval, e26, d0, d1]) (Below.refl _ _) rfl
        · simp only [List.getElem?_toArray, List.getElem?_cons_succ, List.getElem?_cons_zero, Option.some.injEq] at ho
          subst ho
          refine ⟨rfl, ?_⟩
          have e5 : A_.tmps[5]?.getD undef = .slice (some { block := b2, off := o2 }) E.length c4 := by rw [hI.low 5 (by decide)]; rfl
          clear hI hdep
          exact .run rfl (.slice (some { block := b2, off := o2 }) E.length c4) w3 (by simp [execOp, go_sem, Act.eval, e5]) (Below.refl _ _) rfl
        · simp only [List.getElem?_toArray, List.getElem?_cons_succ, List.getElem?_cons_zero, Option.some.injEq] at ho
          subst ho
          refine ⟨rfl, ?_⟩
          have e6 : A_.tmps[6]?.getD undef = .int .i64 (i : Int) := by rw [hI.low 6 (by decide)]; rfl
          clear hI hdep
          exact .run rfl (.int .i64 (i : Int)) w3 (by simp [execOp, go_sem, Act.eval, e6]) (Below.refl _ _) rfl
        · simp only [List.getElem?_toArray, List.getElem?_cons_succ, List.getElem?_cons_zero, Option.some.injEq] at ho
          subst ho
          refine ⟨rfl, ?_⟩
          have e28 : A_.tmps[28]?.getD undef = .slice (some { block := b2, off := o2 }) E.length c4 := getD_of (hI.val_ (i := 4) rfl rfl (by decide) (hdep ⟨4, .data⟩ (by simp) rfl))
          have e29 : A_.tmps[29]?.getD undef = .int .i64 (i : Int) := getD_of (hI.val_ (i := 5) rfl rfl (by decide) (hdep ⟨5, .data⟩ (by simp) rfl))
          clear hI hdep
          exact .run rfl (.pointer (some ⟨b2, o2 + i * 2, none⟩)) w3 (by simp [execOp, go_sem, Act.eval, e28, e29]; try omega) (Below.refl _ _) rfl
        · simp only [List.getElem?_toArray, List.getElem?_cons_succ, List.getElem?_cons_zero, Option.some.injEq] at ho
          subst ho
          refine ⟨rfl, ?_⟩
          have e30 : A_.tmps[30]?.getD undef = .pointer (some ⟨b2, o2 + i * 2, none⟩) := getD_of (hI.val_ (i := 6) rfl rfl (by decide) (hdep ⟨6, .data⟩ (by simp) rfl))
          clear hI hdep
          obtain ⟨d0, d1⟩ := (HC.out w3 hh).2
          exact .run rfl (.agg #[.int .i64 xa, .int .i64 xb]) w3 (by simp [execOp, go_sem, Act.eval, e30, d0, d1]) (Below.refl _ _) rfl
        · simp only [List.getElem?_toArray, List.getElem?_cons_succ, List.getElem?_cons_zero, Option.some.injEq] at ho
          subst ho
          refine ⟨rfl, ?_⟩
          have e27 : A_.tmps[27]?.getD undef = .agg #[.int .i64 xa, .int .i64 xb] := getD_of (hI.val_ (i := 3) rfl rfl (by decide) (hdep ⟨3, .data⟩ (by simp) rfl))
          have e31 : A_.tmps[31]?.getD undef = .agg #[.int .i64 xa, .int .i64 xb] := getD_of (hI.val_ (i := 7) rfl rfl (by decide) (hdep ⟨7, .data⟩ (by simp) rfl))
          clear hI hdep
          exact .run rfl (.bool false) w3 (by simp [execOp, go_sem, Act.eval, e27, e31, neP_any]) (Below.refl _ _) rfl
      case fin =>
      intro A_ w3 hs hd hlow hS hok
      obtain rfl : A_ = ⟨#[.slice a0 len0 cap0, undef, u2, .slice A m c, .slice (some { block := b1, off := o1 }) E.length c2, .slice (some { block := b2, off := o2 }) E.length c4, .int .i64 (i : Int), .slice a0 len0 cap0, .slice A m c, .slice A m c, .slice (some { block := b1, off := o1 }) E.length c2, .slice A m c, .slice (some { block := b2, off := o2 }) E.length c4, .slice (some { block := b1, off := o1 }) E.length c2, .int .i64 (E.length : Int), .slice (some { block := b2, off := o2 }) E.length c4, .int .i64 (E.length : Int), .bool false, .int .i64 (i : Int), .slice (some { block := b1, off := o1 }) E.length c2, .int .i64 (E.length : Int), .bool true, u22, u23, .slice (some { block := b1, off := o1 }) E.length c2, .int .i64 (i : Int), .pointer (some ⟨b1, o1 + i * 2, none⟩), .agg #[.int .i64 xa, .int .i64 xb], .slice (some { block := b2, off := o2 }) E.length c4, .int .i64 (i : Int), .pointer (some ⟨b2, o2 + i * 2, none⟩), .agg #[.int .i64 xa, .int .i64 xb], .bool false, undef], []⟩ := act_ext hd hs (fun j hj => match j, hj with | 0, _ => (hlow 0 (by decide)).trans rfl | 1, _ => (hlow 1 (by decide)).trans rfl | 2, _ => (hlow 2 (by decide)).trans rfl | 3, _ => (hlow 3 (by decide)).trans rfl | 4, _ => (hlow 4 (by decide)).trans rfl | 5, _ => (hlow 5 (by decide)).trans rfl | 6, _ => (hlow 6 (by decide)).trans rfl | 7, _ => (hlow 7 (by decide)).trans rfl | 8, _ => (hlow 8 (by decide)).trans rfl | 9, _ => (hlow 9 (by decide)).trans rfl | 10, _ => (hlow 10 (by decide)).trans rfl | 11, _ => (hlow 11 (by decide)).trans rfl | 12, _ => (hlow 12 (by decide)).trans rfl | 13, _ => (hlow 13 (by decide)).trans rfl | 14, _ => (hlow 14 (by decide)).trans rfl | 15, _ => (hlow 15 (by decide)).trans rfl | 16, _ => (hlow 16 (by decide)).trans rfl | 17, _ => (hlow 17 (by decide)).trans rfl | 18, _ => (hlow 18 (by decide)).trans rfl | 19, _ => (hlow 19 (by decide)).trans rfl | 20, _ => (hlow 20 (by decide)).trans rfl | 21, _ => (hlow 21 (by decide)).trans rfl | 22, _ => (hlow 22 (by decide)).trans rfl | 23, _ => (hlow 23 (by decide)).trans rfl | 24, _ => RgX.val_at (hok 0 24 _ (by decide) rfl rfl) | 25, _ => RgX.val_at (hok 1 25 _ (by decide) rfl rfl) | 26, _ => RgX.val_at (hok 2 26 _ (by decide) rfl rfl) | 27, _ => RgX.val_at (hok 3 27 _ (by decide) rfl rfl) | 28, _ => RgX.val_at (hok 4 28 _ (by decide) rfl rfl) | 29, _ => RgX.val_at (hok 5 29 _ (by decide) rfl rfl) | 30, _ => RgX.val_at (hok 6 30 _ (by decide) rfl rfl) | 31, _ => RgX.val_at (hok 7 31 _ (by decide) rfl rfl) | 32, _ => RgX.val_at (hok 8 32 _ (by decide) rfl rfl) | 33, _ => (hlow 33 (by decide)).trans rfl | n + 34, h => absurd h (by show ¬ n + 34 < 34; omega))
      clear hs hd hlow hok 
      have HB3 := Lib.hid (hbl.out.trans (hS.mono hbl.out.size))
      clear HC hS hbl
      go_wp2_with fail
      go_roundw
      case rel => exact ⟨i + 1, by go_num, by omega, HB3.out⟩
      case measure => simp [intOf]; omega
    · obtain rfl : i = E.length := by omega
      have HL := Lib.hid (HLV.out wo hbl.out)
      go_wp2_with (first
        | (go_at_call 15
           refine HL.out.mono ?_
           rintro e w9 ⟨rfl, hb9⟩))
      go_ret
      exact ⟨rfl, HB24.out.trans ((hbl.out.trans (hb9.mono hbl.out.size)).mono HB24.out.size)⟩
end Go.Proofs.YtlomhoohmcnniaaDoor.LawDependRace

namespace Go.Proofs.YtlomhoohmcnniaaDoor.dependRace
open Go.ChangeShapes Go.WideShapes Go.ChangeAt Go.RowKit
open Go.ChangeMaps (open_string shut_string)
set_option linter.unusedVariables false

theorem own : ownKnob Tryd.prog.godebug = none := by kernel_rfl
theorem laidOut : laidOutB Tryd.prog = true := by kernel_rfl

/-- WHAT THE WALK IS TOLD OF A SLICE OF INTEGERS THAT CAME IN: it is nil; or it leads to a row of 'cap' cells, the numbers 'zs' (the first 'len' are its elements, the rest its spare room), each fitting its kind. -/
def IsRow (k : IntKind) (w : World) (a : Option Addr) (len cap : Nat) (zs : List Int) : Prop :=
  (a = none ∧ len = 0 ∧ cap = 0 ∧ zs = []) ∨
  ∃ x, a = some x ∧ len ≤ cap ∧ cap ≤ maxLen ∧ zs.length = cap ∧ (∀ i, i < zs.length → w.cell? (x.add i) = some (.int k (zs.getD i 0))) ∧ ∀ n ∈ zs, (Lit.int k n).wf = true

/-! ### STEP 1: THE WALK: the Go text returns true, AND WRITES NOTHING THAT WAS THERE: 'Below w.heap.size w w'' (Derived/Below.lean: '.refl', '.alloc', '.drew', '.setCell' at a new block, '.trans'). Open each 'IsRow' by 'rcases' AHEAD of 'go_enter'; part every test ahead of the walk. -/
theorem walk (a0 : Option Addr) (len0 cap0 : Nat) (z0 : List Int) (w : World) (w0 : IsRow .i64 w a0 len0 cap0 z0) (hT : Tab w) :
    Calls Tryd.prog 5 #[.slice a0 len0 cap0] w fun e w' => e = .returned (.bool true) ∧ Below w.heap.size w w' := by
  exact LawDependRace.walk a0 len0 cap0 z0 w w0 hT

/-! ### THE ROW's STEP: WRITTEN OUT: LEAVE IT -/
set_option maxRecDepth 100000 in
theorem lifted (os : Os) (started : os.Started) (H : Type) (enc : TypeId × Value → H) :
    ReturnsInHanded {} Tryd.checked os 5 .any (fun w args => (Rows.dependRaceSpec.pre enc Tryd.prog Tryd.f5 [] false w args ∧ laidMetH Tryd.prog laidT w) ∧ sizedMet enc Tryd.prog Tryd.f5 (OpenSpec.ofChange Rows.dependRaceSpec) false w args)
      (Rows.dependRaceSpec.post enc Tryd.prog Tryd.f5 false true false false) := by
  refine returnsInHanded_of_change_and (C := Tryd.checked) (X := fun w _ => laidMetH Tryd.prog laidT w) (fun _ _ _ hh h => h.of_heap hh) own started (by kernel_rfl) Tryd.func5
    (ChangeSpec.witness_shaped (enc := enc) (C := Tryd.checked) (os := os) (X := fun w _ => laidMetH Tryd.prog laidT w) false (World.doorLaid Tryd.prog 14 os) #[.slice none 0 0] 8 rfl (World.shaped_of_RefB (by kernel_rfl) (by kernel_rfl)) (by kernel_rfl) (by kernel_rfl) (by kernel_rfl) (door_met os _)) ?_
  intro W base args ds gs before hval0 hW _ _ hL _
  have hval : ∀ (j : Nat) t v, Tryd.f5.params[j]? = some t → args[j]? = some v → Value.okWide Tryd.prog W .any base t v := hval0
  have hW' := hW
  obtain ⟨p, q, hA0, hV, rfl, hfz, hnd⟩ := hW
  have hA : DataW.TrodAll enc Tryd.prog W 0 (fun _ => true) true Tryd.f5.params.toList args.toList ds p := hA0
  rw [Tryd.params5] at hA hval
  obtain ⟨v0, vs0, d0, ds0, p0, q0, hargs, rfl, rfl, h0, r0⟩ := trodAll_cons hA
  obtain ⟨rfl, rfl, rfl⟩ := trodAll_nil r0
  obtain rfl : args = #[v0] := by cases args; simp_all
  obtain ⟨rfl, rfl⟩ := trodVars_none hV
  obtain ⟨a0, len0, cap0, rfl⟩ := okWide_slice Tryd.underlying22 (hval 0 22 v0 rfl rfl)
  have k0 := h0
  have lt0 : ∀ x ∈ p0, x.block < W.heap.size := by obtain ⟨m, hm⟩ := k0; exact DataW.trod_lt m _ _ _ hm
  obtain ⟨z0, w0⟩ : ∃ zs, IsRow .i64 W a0 len0 cap0 zs := by
    obtain ⟨fuel, hf⟩ := h0
    rcases open_ints Tryd.underlying22 Tryd.underlying3 (by kernel_rfl) hf with ⟨hcs, _⟩ | ⟨x, l, c, zs, hcs, _, hl, hm, hz, _, hcell, hwz⟩
    · simp [Value.cells] at hcs
      obtain ⟨rfl, rfl, rfl⟩ := hcs
      exact ⟨[], .inl ⟨rfl, rfl, rfl, rfl⟩⟩
    · simp [Value.cells] at hcs
      obtain ⟨rfl, rfl, rfl⟩ := hcs
      exact ⟨zs, .inr ⟨_, rfl, hl, hm, by simpa using hz, hcell, hwz⟩⟩
  clear hA0 hval0
  refine (walk a0 len0 cap0 z0 W w0 (of_laid hL)).mono fun e W' ⟨he, bel⟩ => ?_
  subst he
  exact ⟨_, rfl, _, _, _, [], _, [], hW', trodAll_mk1 (shut_bool Tryd.underlying4 _), (trodAll_cons_mk (Below.trod laidOut (by kernel_rfl) (of_decide_eq_true (by kernel_rfl)) k0 bel lt0) trodAll_mk0), rfl, bel.frame _, fun h => by cases h⟩

theorem over : Rows.dependRaceRow.holds Tryd.pinned (OpenSpec.ofChange Rows.dependRaceSpec) :=
  OpenClaim.holds_of_wide 5 Tryd.f5 rfl rfl rfl rfl rfl rfl rfl ⟨rfl, rfl, rfl, rfl, rfl⟩ rfl rfl rfl rfl rfl (by kernel_rfl) Tryd.func5 (by kernel_rfl)
    (of_decide_eq_true (by kernel_rfl)) (by unfold Func.isWrapper; first | (rw [if_pos (by decide +kernel)]; kernel_rfl) | (rw [if_neg (by decide +kernel)]; exact ⟨rfl, rfl⟩))
    (fun os started H enc _ => lifted os started H enc)


/-! ### THE CARD -/
theorem cardHolds : Rows.DependRaceCardSaid :=
  Claim7.holds_tied_plain_at .later [] [.data] true (true, "90cb75cc7c10c14a10cefb939cee6070c87076b8098582c817745454562e8749") false
    over (fun _ h => by cases h) (by kernel_rfl) (fun _ h => by cases h) dependRace_row_tie rfl ⟨rfl, rfl⟩ (by kernel_rfl) rfl
    (fun f fn hf hfn => by
      obtain rfl : f = 5 := Option.some.inj ((show Tryd.prog.funcNamed "simproof/simprooflaw16.DependRace" = some 5 by kernel_rfl).symm.trans hf) |>.symm
      obtain rfl : fn = Tryd.f5 := (Option.some.inj (Tryd.func5.symm.trans hfn)).symm
      exact ⟨by kernel_rfl, fun j t ht => by
        rw [Tryd.params5] at ht
        have hm : t ∈ [22] := by simpa using Array.mem_of_getElem? ht
        have hall : ([22].all fun u => !Tryd.prog.wantsStandIn u) = true := by kernel_rfl
        exact (show Tryd.prog.wantsStandIn t = false by simpa using List.all_eq_true.1 hall t hm)⟩)
    (by kernel_rfl)
end Go.Proofs.YtlomhoohmcnniaaDoor.dependRace
