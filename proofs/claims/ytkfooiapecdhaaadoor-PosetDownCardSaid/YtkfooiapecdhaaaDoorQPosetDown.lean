/-
  The walk of PosetDown: Down is the reference's, idempotent, and joins go over to joins.
  The tied card of the statement PosetDown: for every input the law answers true and leaves its arguments as they were; the condition is the listed table of math/bits, which the card ties to the program's text. The frame of this proof was written by the guide's program, the walk is the text LawPosetDown's.
-/
import Derived.Test.YtkfooiapecdhaaaDoorK16
import Derived.Test.YtkfooiapecdhaaaDoorK17
import Derived.Test.YtkfooiapecdhaaaDoorK18
import Derived.Test.YtkfooiapecdhaaaDoorK2
import Derived.Test.YtkfooiapecdhaaaDoorK15
import Derived.Test.YtkfooiapecdhaaaDoorRows
import Derived.Test.YtkfooiapecdhaaaDoorCards
import Derived.Test.YtkfooiapecdhaaaDoorTie
import Derived.Test.YtkfooiapecdhaaaDoorK3
import Derived.SevenTiedPlain
import Derived.SevenTiedAt
import Derived.WalkKit
import Derived.ProofKit
import Derived.OpenShut
import Derived.ShutString
import Derived.ChangeOld
import Derived.Below

namespace Go.Proofs.YtkfooiapecdhaaaDoor.LawPosetDown
open Go Go.RowKit Go.Proofs Go.Proofs.YtkfooiapecdhaaaDoor

/-- A row of the call's own, of integers. -/
def OI (W : World) (lo : Nat) (A : Option Addr) (n c : Nat) (X : List Int) : Prop := W.ownsRow lo 3 1 (.slice A n c) n (X.map (Value.int .i64))
section
variable {W W' : World} {lo n c : Nat} {A : Option Addr} {X : List Int}
theorem OI.below (h : OI W lo A n c X) (hb : Below W.heap.size W W') : OI W' lo A n c X := own_of_block h fun b hv => hb.block b (World.ownsRow.lt h b hv).2
theorem OI.ints (h : OI W lo A n c X) : Ints .i64 W.heap.size W A n X := Ints.of_own rfl h
theorem OI.slc (h : OI W lo A n c X) : Slc .i64 W A n c X := own_slc h
theorem OI.of {L : List Nat} (h : Own W lo (.slice A n c) L) : n = L.length ∧ OI W lo A n c (L.map fun n : Nat => (n : Int)) := by
  obtain ⟨A', c', e, _, _⟩ := h.slice
  injection e with _ e2 _
  refine ⟨e2, ?_⟩
  have h' := h
  unfold Own at h'
  rw [map_nv, ← e2] at h'
  exact h'
end
set_option maxRecDepth 100000 in
set_option maxHeartbeats 4000000 in
theorem walk (a0 : Int) (a1 : Option Addr) (len1 cap1 : Nat) (z1 : List Int) (a2 : Option Addr) (len2 cap2 : Nat) (z2 : List Int) (a3 : Option Addr) (len3 cap3 : Nat) (z3 : List Int) (w : World) (w0 : (Lit.int .i64 a0).wf = true) (w1 : Row .i64 w a1 len1 cap1 z1) (w2 : Row .i64 w a2 len2 cap2 z2) (w3 : Row .i64 w a3 len3 cap3 z3) (hT : Tab w) :
    Calls Tryd.prog 9 #[.int .i64 a0, .slice a1 len1 cap1, .slice a2 len2 cap2, .slice a3 len3 cap3] w fun e w' => e = .returned (.bool true) ∧ Below w.heap.size w w' := by
  have hn : I64 a0 := by have := bounds_i64 w0; unfold I64; omega
  obtain ⟨hx, _, _, hz⟩ := w1.ints
  have hs2 := w2.slc
  have hs3 := w3.slc
  obtain ⟨zs, hzs⟩ : ∃ zs, z1.take len1 = zs := ⟨_, rfl⟩
  obtain ⟨xs, hxs⟩ : ∃ zs, z2.take len2 = zs := ⟨_, rfl⟩
  obtain ⟨ys, hys⟩ : ∃ zs, z3.take len3 = zs := ⟨_, rfl⟩
  rw [hzs] at hx hz
  rw [hxs] at hs2
  rw [hys] at hs3
  have hz64 := i64_of hz
  have HCY := Lib.hid (cyc_a a0 hn a1 len1 cap1 zs w hx hz64)
  have HLV := Lib.hid (fun V hb => lives_a w V hT hb)
  cases hk : okA a0 zs with
  | false =>
    rw [hk] at HCY
    clear hx hz hz64 hzs w1 w0 w2 w3 hT hn hxs hys hs2 hs3
    go_enter Tryd.func9, Tryd.ntmps9
    go_wp2_with (first
      | (go_at_call 23; refine HCY.out.mono ?_; clear HCY; rintro e w2 ⟨rfl, hb2⟩)
      | (go_at_call 17; refine (HLV.out _ hb2).mono ?_; clear HLV; rintro e w3 ⟨rfl, hb3⟩))
    go_ret
    exact ⟨rfl, hb3⟩
  | true =>
    rw [hk] at HCY
    obtain ⟨hcl, hRl, hlt⟩ := ordA_cl a0 hk
    have hk8 := nA_lt a0
    have HMA := Lib.hid (fun W (hb : Below w.heap.size w W) => made_a a0 hn a1 len1 cap1 zs w W hT hx hz64 hk hb)
    have HCL := Lib.hid hcl
    have HLT := Lib.hid hlt
    obtain ⟨i0, hi0, hz0, hz1, hz2⟩ := info_parts info_int
    obtain ⟨k, hkk⟩ : ∃ k, nA a0 = k := ⟨_, rfl⟩
    obtain ⟨R, hR⟩ : ∃ R, ordA a0 zs = R := ⟨_, rfl⟩
    obtain ⟨M, hM⟩ : ∃ M, PO.wAll (m0 (prA a0 zs)) (nA a0) = M := ⟨_, rfl⟩
    simp only [hkk, hR] at HMA HCL hk8 hRl HLT
    rw [hkk] at hM
    simp only [hM] at HMA HLT
    have HS2 := Lib.hid hs2
    have HS3 := Lib.hid hs3
    clear hx hz hz64 hzs w1 w0 w2 w3 hT hn hcl hkk hR hk hlt hs2 hs3 hxs hys hM
    go_enter Tryd.func9, Tryd.ntmps9
    go_wp2_with (first
      | (go_at_call 23; refine HCY.out.mono ?_; clear HCY; rintro e w2 ⟨rfl, hb2⟩; have HB2 := Lib.hid hb2; clear hb2)
      | (go_at_call 24; refine (HMA.out _ HB2.out).mono ?_; clear HMA; rintro e w3 ⟨p, A3, c3, gs, rfl, hG⟩; obtain ⟨w4, hw4⟩ : ∃ W, w3.alloc (.cells #[.int .i64 (k : Int), .slice A3 k c3] 33) = W := ⟨_, rfl⟩; obtain ⟨b, hb⟩ : ∃ b, w3.heap.size = b := ⟨_, rfl⟩; have HW4 := Lib.hid hw4; have HBB := Lib.hid hb; rw [hw4, hb] at hG; have HG := Lib.hid hG; clear hG hw4 hb)
      | (rw [HW4.out, HBB.out]))
    have hb4 := HG.out.bel
    refine (ints_any a2 len2 cap2 xs 5 (by omega) (by omega) w4 (HS2.out.below (hb4.mono (Nat.le_refl _)))).mono ?_
    rintro e w5 ⟨A5, n5, c5, rfl, hl5, -, ho5, hb5⟩
    obtain ⟨X, hX⟩ : ∃ X, xs.take (Int.toNat 5) = X := ⟨_, rfl⟩
    have hn5 : n5 ≤ 5 := by rw [← hl5, List.length_take]; exact Nat.min_le_left _ _
    rw [hX] at hl5 ho5
    have HO5 := Lib.hid (show OI w5 w4.heap.size A5 n5 c5 X from ho5)
    have HG5 := Lib.hid (HG.out.next hb5)
    clear ho5 hb5 hX HW4 HBB hb4 HG
    go_wp2_with fail
    refine (ints_any a3 len3 cap3 ys 5 (by omega) (by omega) w5 (HS3.out.below HG5.out.bel)).mono ?_
    rintro e w6 ⟨A6, n6, c6, rfl, hl6, -, ho6, hb6⟩
    obtain ⟨Y, hY⟩ : ∃ Y, ys.take (Int.toNat 5) = Y := ⟨_, rfl⟩
    have hn6 : n6 ≤ 5 := by rw [← hl6, List.length_take]; exact Nat.min_le_left _ _
    rw [hY] at hl6 ho6
    have HO6 := Lib.hid (show OI w6 w5.heap.size A6 n6 c6 Y from ho6)
    have HX6 := Lib.hid (HO5.out.below hb6)
    have HG6 := Lib.hid (HG5.out.next hb6)
    clear ho6 hb6 hY HO5 HG5 HS2 HS3
    go_wp2_with fail
    refine (down_any HG6.out.od (by omega) HCL.out.small (Nat.le_refl _) A5 n5 c5 X HX6.out.ints (by omega)).mono ?_
    rintro e w7 ⟨v7, rfl, ho7, hb7⟩
    obtain ⟨A7, c7, rfl, _, _⟩ := ho7.slice
    have HD7 := Lib.hid (OI.of ho7).2
    have HX7 := Lib.hid (HX6.out.below hb7)
    have HY7 := Lib.hid (HO6.out.below hb7)
    have HG7 := Lib.hid (HG6.out.next hb7)
    have hlX := downI_len (R := R) X
    clear ho7 hb7 HX6 HO6 HG6
    go_wp2_with fail
    refine (down_any HG7.out.od (by omega) HCL.out.small (Nat.le_refl _) A6 n6 c6 Y HY7.out.ints (by omega)).mono ?_
    rintro e w8 ⟨v8, rfl, ho8, hb8⟩
    obtain ⟨A8, c8, rfl, _, _⟩ := ho8.slice
    have HE8 := Lib.hid (OI.of ho8).2
    have HX8 := Lib.hid (HX7.out.below hb8)
    have HY8 := Lib.hid (HY7.out.below hb8)
    have HD8 := Lib.hid (HD7.out.below hb8)
    have HG8 := Lib.hid (HG7.out.next hb8)
    have hlY := downI_len (R := R) Y
    clear ho8 hb8 HX7 HY7 HD7 HG7
    go_wp2_with fail
    refine (ints_any A5 n5 c5 X 5 (by omega) (by omega) w8 HX8.out.slc).mono ?_
    rintro e w9 ⟨A9, n9, c9, rfl, hl9, -, ho9, hb9⟩
    rw [List.take_of_length_le (by rw [hl5]; exact hn5)] at hl9 ho9
    obtain rfl : n9 = n5 := by omega
    have HO9 := Lib.hid (show OI w9 w8.heap.size A9 n9 c9 X from ho9)
    have HY9 := Lib.hid (HY8.out.below hb9)
    have hs9 := hb9.size
    have HB9 := Lib.hid hb9
    clear ho9 hb9
    go_wp2_with (
       at_builtin
       refine wpList_append_slc rfl (.tmp 41) (.tmp 42) 22 rfl w8.heap.size 3 i0 _ 8 Tryd.underlying22 hi0 hz0 hz1 hz2 rfl (.slice A9 n9 c9) n9 _ rfl HO9.out .i64 _ _ _ _ rfl HY9.out.slc (by simp only [maxLen]; omega) (by omega) hs9 ?_
       intro A10 c10 w10 hown10 hgrow10
       skip)
    have hb10 : Below w8.heap.size w8 w10 := HB9.out.grown hgrow10 hs9 (fun b e => (World.ownsRow.lt HO9.out b e).1)
    have HU := Lib.hid (show OI w10 w8.heap.size A10 (n9 + n6) c10 (X ++ Y) from by
      unfold OI
      rw [List.map_append]
      exact hown10)
    have HX10 := Lib.hid (HX8.out.below hb10)
    have HD10 := Lib.hid (HD8.out.below hb10)
    have HE10 := Lib.hid (HE8.out.below hb10)
    have HG10 := Lib.hid (HG8.out.next hb10)
    clear hown10 hgrow10 hb10 HX8 HY8 HD8 HE8 HG8 HO9 HY9 HB9
    refine (down_any HG10.out.od (by omega) HCL.out.small (Nat.le_refl _) A10 (n9 + n6) c10 (X ++ Y) HU.out.ints (by omega)).mono ?_
    rintro e w11 ⟨v11, rfl, ho11, hb11⟩
    obtain ⟨A11, c11, rfl, _, _⟩ := ho11.slice
    have HBo := Lib.hid (OI.of ho11).2
    have HX11 := Lib.hid (HX10.out.below hb11)
    have HD11 := Lib.hid (HD10.out.below hb11)
    have HE11 := Lib.hid (HE10.out.below hb11)
    have HG11 := Lib.hid (HG10.out.next hb11)
    have hlU := downI_len (R := R) (X ++ Y)
    obtain ⟨e0, e1, _, _⟩ := HG11.out.ob.facts
    clear ho11 hb11 HX10 HD10 HE10 HG10 HU
    go_wp2_with fail
    refine (refDown_any w11 w.heap.size k A3 c3 gs M HG11.out.mx (by omega) A5 n9 c5 X HX11.out.ints (by omega)).mono ?_
    rintro e w12 ⟨v12, rfl, ho12, hb12⟩
    rw [dnM_down hRl HLT.out] at ho12
    obtain ⟨A12, c12, rfl, _, _⟩ := ho12.slice
    have HR12 := Lib.hid (OI.of ho12).2
    have HD12 := Lib.hid (HD11.out.below hb12)
    have HE12 := Lib.hid (HE11.out.below hb12)
    have HB12 := Lib.hid (HBo.out.below hb12)
    have HG12 := Lib.hid (HG11.out.next hb12)
    clear ho12 hb12 HX11 HD11 HE11 HG11 HBo e0 e1
    go_wp2_with fail
    refine (sameInts_any A7 A12 _ _ c7 c12 _ _ w12 HD12.out.ints HR12.out.ints (by omega)).mono ?_
    rintro e w13 ⟨rfl, hb13⟩
    rw [decide_eq_true rfl]
    have HD13 := Lib.hid (HD12.out.below hb13)
    have HE13 := Lib.hid (HE12.out.below hb13)
    have HB13 := Lib.hid (HB12.out.below hb13)
    have HG13 := Lib.hid (HG12.out.next hb13)
    clear hb13 HD12 HE12 HB12 HG12 HR12
    go_wp2_with fail
    refine (down_any HG13.out.od (by omega) HCL.out.small (Nat.le_refl _) A7 _ c7 _ HD13.out.ints (by omega)).mono ?_
    rintro e w14 ⟨v14, rfl, ho14, hb14⟩
    rw [down_twice HCL.out] at ho14
    obtain ⟨A14, c14, rfl, _, _⟩ := ho14.slice
    have HT14 := Lib.hid (OI.of ho14).2
    have HD14 := Lib.hid (HD13.out.below hb14)
    have HE14 := Lib.hid (HE13.out.below hb14)
    have HB14 := Lib.hid (HB13.out.below hb14)
    have HG14 := Lib.hid (HG13.out.next hb14)
    clear ho14 hb14 HD13 HE13 HB13 HG13
    go_wp2_with fail
    refine (sameInts_any A14 A7 _ _ c14 c7 _ _ w14 HT14.out.ints HD14.out.ints (by omega)).mono ?_
    rintro e w15 ⟨rfl, hb15⟩
    rw [decide_eq_true rfl]
    have HD15 := Lib.hid (HD14.out.below hb15)
    have HE15 := Lib.hid (HE14.out.below hb15)
    have HB15 := Lib.hid (HB14.out.below hb15)
    have HG15 := Lib.hid (HG14.out.next hb15)
    have hcn := HG15.out.n
    clear hb15 HD14 HE14 HB14 HG14 HT14
    go_wp2_with fail
    go_loopw [16] (fun i V => ∃ j : Nat, j ≤ k ∧ i = .int .i64 (j : Int) ∧ V = w15) (fun i _ => k - (intOf i).toNat)
    case atStart => exact ⟨0, by omega, rfl, rfl⟩
    case round =>
      obtain ⟨j, hj, rfl, rfl⟩ := hrel
      by_cases hjk : j < k
      · have HHU := Lib.hid (refHas_any A11 _ c11 _ (j : Int) wr HB15.out.ints (by omega))
        have HHD := Lib.hid (refHas_any A7 _ c7 _ (j : Int) wr HD15.out.ints (by omega))
        have HHE := Lib.hid (refHas_any A8 _ c8 _ (j : Int) wr HE15.out.ints (by omega))
        rw [down_has hRl hjk] at HHU HHD HHE
        rw [downB_app] at HHU
        obtain ⟨b1, hb1⟩ : ∃ b, PO.downB R X j = b := ⟨_, rfl⟩
        obtain ⟨b2, hb2⟩ : ∃ b, PO.downB R Y j = b := ⟨_, rfl⟩
        rw [hb1, hb2] at HHU
        rw [hb1] at HHD
        rw [hb2] at HHE
        clear hb1 hb2
        cases b1 with
        | true =>
          rw [Bool.true_or] at HHU
          go_wp2_with (first
            | (go_at_call 38; refine HHU.out.mono ?_; clear HHU; rintro e w' ⟨rfl, rfl⟩)
            | (go_at_call 38; refine HHD.out.mono ?_; clear HHD; rintro e w' ⟨rfl, rfl⟩))
          go_roundw
          case rel => exact ⟨j + 1, by omega, by go_num, trivial⟩
          case measure => simp [intOf]; omega
        | false =>
          rw [Bool.false_or] at HHU
          have hbb : (b2 != b2) = false := by simp
          go_wp2_with (first
            | (go_at_call 38; refine HHU.out.mono ?_; clear HHU; rintro e w' ⟨rfl, rfl⟩)
            | (go_at_call 38; refine HHD.out.mono ?_; clear HHD; rintro e w' ⟨rfl, rfl⟩)
            | (go_at_call 38; refine HHE.out.mono ?_; clear HHE; rintro e w' ⟨rfl, rfl⟩))
          go_roundw
          case rel => exact ⟨j + 1, by omega, by go_num, trivial⟩
          case measure => simp [intOf]; omega
      · have HLV2 := Lib.hid (HLV.out _ HG15.out.bel)
        go_wp2_with (go_at_call 17; refine HLV2.out.mono ?_; rintro e w3 ⟨rfl, hb3⟩)
        go_ret
        exact ⟨rfl, hb3⟩
end Go.Proofs.YtkfooiapecdhaaaDoor.LawPosetDown

namespace Go.Proofs.YtkfooiapecdhaaaDoor.posetDown
open Go.ChangeShapes Go.WideShapes Go.ChangeAt Go.RowKit
open Go.ChangeMaps (open_string shut_string)
set_option linter.unusedVariables false

theorem own : ownKnob Tryd.prog.godebug = none := by kernel_rfl
theorem laidOut : laidOutB Tryd.prog = true := by kernel_rfl

/-- WHAT THE WALK IS TOLD OF A SLICE OF INTEGERS THAT CAME IN: it is nil; or it leads to a row of 'cap' cells, the numbers 'zs' (the first 'len' are its elements, the rest its spare room), each fitting its kind. -/
def IsRow (k : IntKind) (w : World) (a : Option Addr) (len cap : Nat) (zs : List Int) : Prop :=
  (a = none ∧ len = 0 ∧ cap = 0 ∧ zs = []) ∨
  ∃ x, a = some x ∧ len ≤ cap ∧ cap ≤ maxLen ∧ zs.length = cap ∧ (∀ i, i < zs.length → w.cell? (x.add i) = some (.int k (zs.getD i 0))) ∧ ∀ n ∈ zs, (Lit.int k n).wf = true

/-! ### STEP 1: THE WALK: the Go text returns true, AND WRITES NOTHING THAT WAS THERE: 'Below w.heap.size w w'' (Derived/Below.lean: '.refl', '.alloc', '.drew', '.setCell' at a new block, '.trans'). Open each 'IsRow' by 'rcases' AHEAD of 'go_enter'; part every test ahead of the walk. -/
theorem walk (a0 : Int) (a1 : Option Addr) (len1 cap1 : Nat) (z1 : List Int) (a2 : Option Addr) (len2 cap2 : Nat) (z2 : List Int) (a3 : Option Addr) (len3 cap3 : Nat) (z3 : List Int) (w : World) (w0 : (Lit.int .i64 a0).wf = true) (w1 : IsRow .i64 w a1 len1 cap1 z1) (w2 : IsRow .i64 w a2 len2 cap2 z2) (w3 : IsRow .i64 w a3 len3 cap3 z3) (hT : Tab w) :
    Calls Tryd.prog 9 #[.int .i64 a0, .slice a1 len1 cap1, .slice a2 len2 cap2, .slice a3 len3 cap3] w fun e w' => e = .returned (.bool true) ∧ Below w.heap.size w w' := by
  exact LawPosetDown.walk a0 a1 len1 cap1 z1 a2 len2 cap2 z2 a3 len3 cap3 z3 w w0 w1 w2 w3 hT

/-! ### THE ROW's STEP: WRITTEN OUT: LEAVE IT -/
set_option maxRecDepth 100000 in
theorem lifted (os : Os) (started : os.Started) (H : Type) (enc : TypeId × Value → H) :
    ReturnsInHanded {} Tryd.checked os 9 .any (fun w args => (Rows.posetDownSpec.pre enc Tryd.prog Tryd.f9 [] false w args ∧ laidMetH Tryd.prog laidT w) ∧ sizedMet enc Tryd.prog Tryd.f9 (OpenSpec.ofChange Rows.posetDownSpec) false w args)
      (Rows.posetDownSpec.post enc Tryd.prog Tryd.f9 false true false false) := by
  refine returnsInHanded_of_change_and (C := Tryd.checked) (X := fun w _ => laidMetH Tryd.prog laidT w) (fun _ _ _ hh h => h.of_heap hh) own started (by kernel_rfl) Tryd.func9
    (ChangeSpec.witness_shaped (enc := enc) (C := Tryd.checked) (os := os) (X := fun w _ => laidMetH Tryd.prog laidT w) false (World.doorLaid Tryd.prog 14 os) #[.int .i64 0, .slice none 0 0, .slice none 0 0, .slice none 0 0] 8 rfl (World.shaped_of_RefB (by kernel_rfl) (by kernel_rfl)) (by kernel_rfl) (by kernel_rfl) (by kernel_rfl) (door_met os _)) ?_
  intro W base args ds gs before hval0 hW _ _ hL _
  have hval : ∀ (j : Nat) t v, Tryd.f9.params[j]? = some t → args[j]? = some v → Value.okWide Tryd.prog W .any base t v := hval0
  have hW' := hW
  obtain ⟨p, q, hA0, hV, rfl, hfz, hnd⟩ := hW
  have hA : DataW.TrodAll enc Tryd.prog W 0 (fun _ => true) true Tryd.f9.params.toList args.toList ds p := hA0
  rw [Tryd.params9] at hA hval
  obtain ⟨v0, vs0, d0, ds0, p0, q0, hargs, rfl, rfl, h0, r0⟩ := trodAll_cons hA
  obtain ⟨v1, vs1, d1, ds1, p1, q1, rfl, rfl, rfl, h1, r1⟩ := trodAll_cons r0
  obtain ⟨v2, vs2, d2, ds2, p2, q2, rfl, rfl, rfl, h2, r2⟩ := trodAll_cons r1
  obtain ⟨v3, vs3, d3, ds3, p3, q3, rfl, rfl, rfl, h3, r3⟩ := trodAll_cons r2
  obtain ⟨rfl, rfl, rfl⟩ := trodAll_nil r3
  obtain rfl : args = #[v0, v1, v2, v3] := by cases args; simp_all
  obtain ⟨rfl, rfl⟩ := trodVars_none hV
  obtain ⟨a0, rfl, rfl, rfl, w0⟩ := open_int Tryd.underlying3 (hval 0 3 v0 rfl rfl) h0
  obtain ⟨a1, len1, cap1, rfl⟩ := okWide_slice Tryd.underlying22 (hval 1 22 v1 rfl rfl)
  have k1 := h1
  have lt1 : ∀ x ∈ p1, x.block < W.heap.size := by obtain ⟨m, hm⟩ := k1; exact DataW.trod_lt m _ _ _ hm
  obtain ⟨z1, w1⟩ : ∃ zs, IsRow .i64 W a1 len1 cap1 zs := by
    obtain ⟨fuel, hf⟩ := h1
    rcases open_ints Tryd.underlying22 Tryd.underlying3 (by kernel_rfl) hf with ⟨hcs, _⟩ | ⟨x, l, c, zs, hcs, _, hl, hm, hz, _, hcell, hwz⟩
    · simp [Value.cells] at hcs
      obtain ⟨rfl, rfl, rfl⟩ := hcs
      exact ⟨[], .inl ⟨rfl, rfl, rfl, rfl⟩⟩
    · simp [Value.cells] at hcs
      obtain ⟨rfl, rfl, rfl⟩ := hcs
      exact ⟨zs, .inr ⟨_, rfl, hl, hm, by simpa using hz, hcell, hwz⟩⟩
  obtain ⟨a2, len2, cap2, rfl⟩ := okWide_slice Tryd.underlying22 (hval 2 22 v2 rfl rfl)
  have k2 := h2
  have lt2 : ∀ x ∈ p2, x.block < W.heap.size := by obtain ⟨m, hm⟩ := k2; exact DataW.trod_lt m _ _ _ hm
  obtain ⟨z2, w2⟩ : ∃ zs, IsRow .i64 W a2 len2 cap2 zs := by
    obtain ⟨fuel, hf⟩ := h2
    rcases open_ints Tryd.underlying22 Tryd.underlying3 (by kernel_rfl) hf with ⟨hcs, _⟩ | ⟨x, l, c, zs, hcs, _, hl, hm, hz, _, hcell, hwz⟩
    · simp [Value.cells] at hcs
      obtain ⟨rfl, rfl, rfl⟩ := hcs
      exact ⟨[], .inl ⟨rfl, rfl, rfl, rfl⟩⟩
    · simp [Value.cells] at hcs
      obtain ⟨rfl, rfl, rfl⟩ := hcs
      exact ⟨zs, .inr ⟨_, rfl, hl, hm, by simpa using hz, hcell, hwz⟩⟩
  obtain ⟨a3, len3, cap3, rfl⟩ := okWide_slice Tryd.underlying22 (hval 3 22 v3 rfl rfl)
  have k3 := h3
  have lt3 : ∀ x ∈ p3, x.block < W.heap.size := by obtain ⟨m, hm⟩ := k3; exact DataW.trod_lt m _ _ _ hm
  obtain ⟨z3, w3⟩ : ∃ zs, IsRow .i64 W a3 len3 cap3 zs := by
    obtain ⟨fuel, hf⟩ := h3
    rcases open_ints Tryd.underlying22 Tryd.underlying3 (by kernel_rfl) hf with ⟨hcs, _⟩ | ⟨x, l, c, zs, hcs, _, hl, hm, hz, _, hcell, hwz⟩
    · simp [Value.cells] at hcs
      obtain ⟨rfl, rfl, rfl⟩ := hcs
      exact ⟨[], .inl ⟨rfl, rfl, rfl, rfl⟩⟩
    · simp [Value.cells] at hcs
      obtain ⟨rfl, rfl, rfl⟩ := hcs
      exact ⟨zs, .inr ⟨_, rfl, hl, hm, by simpa using hz, hcell, hwz⟩⟩
  clear hA0 hval0
  refine (walk a0 a1 len1 cap1 z1 a2 len2 cap2 z2 a3 len3 cap3 z3 W w0 w1 w2 w3 (of_laid hL)).mono fun e W' ⟨he, bel⟩ => ?_
  subst he
  exact ⟨_, rfl, _, _, _, [], _, [], hW', trodAll_mk1 (shut_bool Tryd.underlying4 _), (trodAll_cons_mk (shut_int Tryd.underlying3 w0) (trodAll_cons_mk (Below.trod laidOut (by kernel_rfl) (of_decide_eq_true (by kernel_rfl)) k1 bel lt1) (trodAll_cons_mk (Below.trod laidOut (by kernel_rfl) (of_decide_eq_true (by kernel_rfl)) k2 bel lt2) (trodAll_cons_mk (Below.trod laidOut (by kernel_rfl) (of_decide_eq_true (by kernel_rfl)) k3 bel lt3) trodAll_mk0)))), rfl, bel.frame _, fun h => by cases h⟩

theorem over : Rows.posetDownRow.holds Tryd.pinned (OpenSpec.ofChange Rows.posetDownSpec) :=
  OpenClaim.holds_of_wide 9 Tryd.f9 rfl rfl rfl rfl rfl rfl rfl ⟨rfl, rfl, rfl, rfl, rfl⟩ rfl rfl rfl rfl rfl (by kernel_rfl) Tryd.func9 (by kernel_rfl)
    (of_decide_eq_true (by kernel_rfl)) (by unfold Func.isWrapper; first | (rw [if_pos (by decide +kernel)]; kernel_rfl) | (rw [if_neg (by decide +kernel)]; exact ⟨rfl, rfl⟩))
    (fun os started H enc _ => lifted os started H enc)


/-! ### THE CARD -/
theorem cardHolds : Rows.PosetDownCardSaid :=
  Claim7.holds_tied_plain_at .later [] [.data] true (true, "69b8748036c1ab40a488c13c974df10cd19b3b935a840f5165b1f86c23c10982") true
    over (fun _ h => by cases h) (by kernel_rfl) (fun _ h => by cases h) posetDown_row_tie rfl ⟨rfl, rfl⟩ (by kernel_rfl) rfl
    (fun f fn hf hfn => by
      obtain rfl : f = 9 := Option.some.inj ((show Tryd.prog.funcNamed "simproof/simprooflaw04.PosetDown" = some 9 by kernel_rfl).symm.trans hf) |>.symm
      obtain rfl : fn = Tryd.f9 := (Option.some.inj (Tryd.func9.symm.trans hfn)).symm
      exact ⟨by kernel_rfl, fun j t ht => by
        rw [Tryd.params9] at ht
        have hm : t ∈ [3, 22, 22, 22] := by simpa using Array.mem_of_getElem? ht
        have hall : ([3, 22, 22, 22].all fun u => !Tryd.prog.wantsStandIn u) = true := by kernel_rfl
        exact (show Tryd.prog.wantsStandIn t = false by simpa using List.all_eq_true.1 hall t hm)⟩)
    (by kernel_rfl)
end Go.Proofs.YtkfooiapecdhaaaDoor.posetDown
