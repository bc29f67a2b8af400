/-
  The walk of PosetOrder: Less of the order is irreflexive, asymmetric, transitive and holds every pair.
  The tied card of the statement PosetOrder: for every input the law answers true and leaves its arguments as they were; the condition is the listed table of math/bits, which the card ties to the program's text. The frame of this proof was written by the guide's program, the walk is the text LawPosetOrder's.
-/
import Derived.Test.YtkfooiapecdhaaaDoorK14
import Derived.BigQuiet
import Derived.Deep.QuietTactic
import Derived.Test.YtkfooiapecdhaaaDoorRows
import Derived.Test.YtkfooiapecdhaaaDoorCards
import Derived.Test.YtkfooiapecdhaaaDoorTie
import Derived.Test.YtkfooiapecdhaaaDoorK3
import Derived.SevenTiedPlain
import Derived.SevenTiedAt
import Derived.WalkKit
import Derived.ProofKit
import Derived.OpenShut
import Derived.ShutString
import Derived.ChangeOld
import Derived.Below

namespace Go.Proofs.YtkfooiapecdhaaaDoor.LawPosetOrder
open Go Go.RowKit Go.Proofs Go.Proofs.YtkfooiapecdhaaaDoor

set_option maxRecDepth 100000 in
set_option maxHeartbeats 4000000 in
theorem walk (a0 : Int) (a1 : Option Addr) (len1 cap1 : Nat) (z1 : List Int) (w : World) (w0 : (Lit.int .i64 a0).wf = true) (w1 : Row .i64 w a1 len1 cap1 z1) (hT : Tab w) :
    Calls Tryd.prog 5 #[.int .i64 a0, .slice a1 len1 cap1] w fun e w' => e = .returned (.bool true) ∧ Below w.heap.size w w' := by
  have hn : I64 a0 := by have := bounds_i64 w0; unfold I64; omega
  obtain ⟨hx, _, _, hz⟩ := w1.ints
  obtain ⟨zs, hzs⟩ : ∃ zs, z1.take len1 = zs := ⟨_, rfl⟩
  rw [hzs] at hx hz
  have hz64 := i64_of hz
  have HCY := Lib.hid (cyc_a a0 hn a1 len1 cap1 zs w hx hz64)
  have HLV := Lib.hid (fun V hb => lives_a w V hT hb)
  cases hk : okA a0 zs with
  | false =>
    rw [hk] at HCY
    clear hx hz hz64 hzs w1 w0 hT hn
    go_enter Tryd.func5, Tryd.ntmps5
    go_wp2_with (first
      | (go_at_call 23; refine HCY.out.mono ?_; clear HCY; rintro e w2 ⟨rfl, hb2⟩)
      | (go_at_call 17; refine (HLV.out _ hb2).mono ?_; clear HLV; rintro e w3 ⟨rfl, hb3⟩))
    go_ret
    exact ⟨rfl, hb3⟩
  | true =>
    rw [hk] at HCY
    obtain ⟨hcl, hRl, hlt⟩ := ordA_cl a0 hk
    have hk8 := nA_lt a0
    have HMA := Lib.hid (fun W (hb : Below w.heap.size w W) => made_a a0 hn a1 len1 cap1 zs w W hT hx hz64 hk hb)
    have HPR := Lib.hid (fun W (hb : Below w.heap.size w W) => pairs_e (nA a0) (by omega) a1 len1 cap1 zs W ((hx.below hb).more hb.size) hz64)
    have HT := Lib.hid hT
    have HPL := Lib.hid (fun x y => ordA_pair a0 hk (x := x) (y := y))
    have hEl := prA_len a0 zs
    rw [show prE (nA a0) zs = prA a0 zs from rfl] at HPR
    have HCL := Lib.hid hcl
    obtain ⟨k, hkk⟩ : ∃ k, nA a0 = k := ⟨_, rfl⟩
    obtain ⟨E, hE⟩ : ∃ E, prA a0 zs = E := ⟨_, rfl⟩
    obtain ⟨R, hR⟩ : ∃ R, ordA a0 zs = R := ⟨_, rfl⟩
    simp only [hkk, hE, hR] at HMA HPR HPL hEl HCL hk8 hRl
    clear hx hz hz64 hzs w1 w0 hT hn hcl hkk hE hR hk hlt
    go_enter Tryd.func5, Tryd.ntmps5
    go_wp2_with (first
      | (go_at_call 23; refine HCY.out.mono ?_; clear HCY; rintro e w2 ⟨rfl, hb2⟩; have HB2 := Lib.hid hb2; clear hb2)
      | (go_at_call 24; refine (HMA.out _ HB2.out).mono ?_; clear HMA; rintro e w3 ⟨p, A3, c3, gs, rfl, hG⟩; obtain ⟨w4, hw4⟩ : ∃ W, w3.alloc (.cells #[.int .i64 (k : Int), .slice A3 k c3] 33) = W := ⟨_, rfl⟩; obtain ⟨b, hb⟩ : ∃ b, w3.heap.size = b := ⟨_, rfl⟩; have HW4 := Lib.hid hw4; have HBB := Lib.hid hb; rw [hw4, hb] at hG; have HG := Lib.hid hG; have hcn := hG.n; clear hG hw4 hb)
      | (rw [HW4.out, HBB.out])
      | (go_at_call 14; refine (HPR.out _ HG.out.bel).mono ?_; clear HPR; rintro e w5 ⟨A5, c5, rfl, ho5, hb5⟩; have HG5 := Lib.hid (HG.out.next hb5); have HED := Lib.hid (ownP_edg ho5).2; clear ho5 hb5 hcn HG HW4 HBB))
    have HLS := Lib.hid (fun V (hb : Below w5.heap.size w5 V) (x y : Nat) => by
      have h := less_any (HG5.out.next hb).od (by omega) HCL.out.small (x : Int) (y : Int)
      rw [PO.ltI_nat' HCL.out.small] at h
      exact h)
    have HCN := Lib.hid (fun V (hb : Below w5.heap.size w5 V) => (HG5.out.next hb).n)
    go_loopw [8] (fun i V => ∃ j : Nat, j ≤ E.length ∧ i = .int .i64 j ∧ Below w5.heap.size w5 V) (fun i _ => E.length - (intOf i).toNat)
    case atStart => exact ⟨0, by omega, rfl, Below.refl _ _⟩
    case round =>
      obtain ⟨j, hj, rfl, hB⟩ := hrel
      by_cases hlt : j < E.length
      · obtain ⟨be, off, x, y, rfl, hbl, hxk, c1, c2⟩ := (HED.out.below hB).at_ hlt
        have hxy := HPL.out x y (List.mem_of_getElem? hxk)
        unfold nv at c1 c2
        have HL := Lib.hid (fun q => (HLS.out (wr.drewN q) (below_drewN' hB q) x y).mono fun e w' h => (show e = .returned (.bool (PO.lt R x y)) ∧ w' = wr.drewN q from ⟨h.1, h.2.symm⟩))
        rw [hxy] at HL
        clear hxk hxy
        go_wp2_with fail
        go_quiet (first | (go_at_call 18; refine Calls.quiet_of_same (HL.out _)))
        go_wp2
        go_roundw
        case rel => exact ⟨j + 1, by omega, by go_num, below_drewN' hB _⟩
        case measure => simp [intOf]; omega
      · obtain rfl : j = E.length := by omega
        have HBA := Lib.hid hB
        clear hB HPL
        go_wp2_with fail
        go_loopw [9] (fun i V => ∃ x : Nat, x ≤ k ∧ i = .int .i64 x ∧ Below w5.heap.size w5 V) (fun i _ => k - (intOf i).toNat)
        case atStart => exact ⟨0, by omega, rfl, HBA.out⟩
        case round =>
          clear HBA
          obtain ⟨x, hx, rfl, hB⟩ := hrel
          have hcn := HCN.out _ hB
          by_cases hxk : x < k
          · have HBA := Lib.hid hB
            clear hB
            go_wp2_with fail
            go_loopw [10] (fun i V => ∃ y : Nat, y ≤ k ∧ i = .int .i64 y ∧ Below w5.heap.size w5 V) (fun i _ => k - (intOf i).toNat)
            case atStart => exact ⟨0, by omega, rfl, HBA.out⟩
            case round =>
              clear HBA hcn
              obtain ⟨y, hy, rfl, hB⟩ := hrel
              have hcn := HCN.out _ hB
              by_cases hyk : y < k
              · have HXY := Lib.hid (HLS.out _ hB x y)
                have HYX := Lib.hid (HLS.out _ hB y x)
                have HBA := Lib.hid hB
                obtain ⟨bxy, hbxy⟩ : ∃ b, PO.lt R x y = b := ⟨_, rfl⟩
                rw [hbxy] at HXY
                have hno : bxy = true → PO.lt R y x = false := fun h1 => by
                  cases h2 : PO.lt R y x with
                  | false => rfl
                  | true =>
                    have := HCL.out.tr x y x (hbxy.trans h1) h2
                    rw [HCL.out.irr x] at this
                    cases this
                have HBXY := Lib.hid hbxy
                clear hB hbxy
                cases bxy with
                | false =>
                  clear hno HYX
                  go_wp2_with (go_at_call 18; refine HXY.out.mono ?_; clear HXY; rintro e w' ⟨rfl, rfl⟩)
                  go_loopw [11] (fun i V => ∃ z : Nat, z ≤ k ∧ i = .int .i64 z ∧ Below w5.heap.size w5 V) (fun i _ => k - (intOf i).toNat)
                  case atStart => exact ⟨0, by omega, rfl, HBA.out⟩
                  case round =>
                    clear HBA hcn
                    obtain ⟨z, hz, rfl, hB⟩ := hrel
                    have hcn := HCN.out _ hB
                    have HXY := Lib.hid (HLS.out _ hB x y)
                    rw [HBXY.out] at HXY
                    have HBA := Lib.hid hB
                    clear hB
                    by_cases hzk : z < k
                    · go_wp2_with (go_at_call 18; refine HXY.out.mono ?_; clear HXY; rintro e w' ⟨rfl, rfl⟩)
                      go_roundw
                      case rel => exact ⟨z + 1, by omega, by go_num, HBA.out⟩
                      case measure => simp [intOf]; omega
                    · obtain rfl : z = k := by omega
                      clear HXY
                      go_wp2_with fail
                      go_roundw
                      case rel => exact ⟨y + 1, by omega, by go_num, HBA.out⟩
                      case measure => simp [intOf]; omega
                | true =>
                  rw [hno rfl] at HYX
                  clear hno
                  go_wp2_with (first
                    | (go_at_call 18; refine HXY.out.mono ?_; clear HXY; rintro e w' ⟨rfl, rfl⟩)
                    | (go_at_call 18; refine HYX.out.mono ?_; clear HYX; rintro e w' ⟨rfl, rfl⟩))
                  go_loopw [11] (fun i V => ∃ z : Nat, z ≤ k ∧ i = .int .i64 z ∧ Below w5.heap.size w5 V) (fun i _ => k - (intOf i).toNat)
                  case atStart => exact ⟨0, by omega, rfl, HBA.out⟩
                  case round =>
                    clear HBA hcn
                    obtain ⟨z, hz, rfl, hB⟩ := hrel
                    have hcn := HCN.out _ hB
                    have HXY := Lib.hid (HLS.out _ hB x y)
                    rw [HBXY.out] at HXY
                    have HBA := Lib.hid hB
                    by_cases hzk : z < k
                    · have HYZ := Lib.hid (HLS.out _ hB y z)
                      have HXZ := Lib.hid (HLS.out _ hB x z)
                      obtain ⟨byz, hbyz⟩ : ∃ b, PO.lt R y z = b := ⟨_, rfl⟩
                      have htr := HCL.out.tr x y z HBXY.out
                      rw [hbyz] at htr HYZ
                      clear hB hbyz
                      cases byz with
                      | false =>
                        clear htr HXZ
                        go_wp2_with (first
                          | (go_at_call 18; refine HXY.out.mono ?_; clear HXY; rintro e w' ⟨rfl, rfl⟩)
                          | (go_at_call 18; refine HYZ.out.mono ?_; clear HYZ; rintro e w' ⟨rfl, rfl⟩))
                        go_roundw
                        case rel => exact ⟨z + 1, by omega, by go_num, HBA.out⟩
                        case measure => simp [intOf]; omega
                      | true =>
                        rw [htr rfl] at HXZ
                        clear htr
                        go_wp2_with (first
                          | (go_at_call 18; refine HXY.out.mono ?_; clear HXY; rintro e w' ⟨rfl, rfl⟩)
                          | (go_at_call 18; refine HYZ.out.mono ?_; clear HYZ; rintro e w' ⟨rfl, rfl⟩)
                          | (go_at_call 18; refine HXZ.out.mono ?_; clear HXZ; rintro e w' ⟨rfl, rfl⟩))
                        go_roundw
                        case rel => exact ⟨z + 1, by omega, by go_num, HBA.out⟩
                        case measure => simp [intOf]; omega
                    · obtain rfl : z = k := by omega
                      clear hB HXY
                      go_wp2_with fail
                      go_roundw
                      case rel => exact ⟨y + 1, by omega, by go_num, HBA.out⟩
                      case measure => simp [intOf]; omega
              · obtain rfl : y = k := by omega
                have HBA := Lib.hid hB
                clear hB
                go_wp2_with fail
                go_roundw
                case rel => exact ⟨x + 1, by omega, by go_num, HBA.out⟩
                case measure => simp [intOf]; omega
          · obtain rfl : x = k := by omega
            have HLV2 := Lib.hid (HLV.out _ (HG5.out.next hB).bel)
            clear hB
            go_wp2_with (go_at_call 17; refine HLV2.out.mono ?_; rintro e w3 ⟨rfl, hb3⟩)
            go_ret
            exact ⟨rfl, hb3⟩
end Go.Proofs.YtkfooiapecdhaaaDoor.LawPosetOrder

namespace Go.Proofs.YtkfooiapecdhaaaDoor.posetOrder
open Go.ChangeShapes Go.WideShapes Go.ChangeAt Go.RowKit
open Go.ChangeMaps (open_string shut_string)
set_option linter.unusedVariables false

theorem own : ownKnob Tryd.prog.godebug = none := by kernel_rfl
theorem laidOut : laidOutB Tryd.prog = true := by kernel_rfl

/-- WHAT THE WALK IS TOLD OF A SLICE OF INTEGERS THAT CAME IN: it is nil; or it leads to a row of 'cap' cells, the numbers 'zs' (the first 'len' are its elements, the rest its spare room), each fitting its kind. -/
def IsRow (k : IntKind) (w : World) (a : Option Addr) (len cap : Nat) (zs : List Int) : Prop :=
  (a = none ∧ len = 0 ∧ cap = 0 ∧ zs = []) ∨
  ∃ x, a = some x ∧ len ≤ cap ∧ cap ≤ maxLen ∧ zs.length = cap ∧ (∀ i, i < zs.length → w.cell? (x.add i) = some (.int k (zs.getD i 0))) ∧ ∀ n ∈ zs, (Lit.int k n).wf = true

/-! ### STEP 1: THE WALK: the Go text returns true, AND WRITES NOTHING THAT WAS THERE: 'Below w.heap.size w w'' (Derived/Below.lean: '.refl', '.alloc', '.drew', '.setCell' at a new block, '.trans'). Open each 'IsRow' by 'rcases' AHEAD of 'go_enter'; part every test ahead of the walk. -/
theorem walk (a0 : Int) (a1 : Option Addr) (len1 cap1 : Nat) (z1 : List Int) (w : World) (w0 : (Lit.int .i64 a0).wf = true) (w1 : IsRow .i64 w a1 len1 cap1 z1) (hT : Tab w) :
    Calls Tryd.prog 5 #[.int .i64 a0, .slice a1 len1 cap1] w fun e w' => e = .returned (.bool true) ∧ Below w.heap.size w w' := by
  exact LawPosetOrder.walk a0 a1 len1 cap1 z1 w w0 w1 hT

/-! ### THE ROW's STEP: WRITTEN OUT: LEAVE IT -/
set_option maxRecDepth 100000 in
theorem lifted (os : Os) (started : os.Started) (H : Type) (enc : TypeId × Value → H) :
    ReturnsInHanded {} Tryd.checked os 5 .any (fun w args => (Rows.posetOrderSpec.pre enc Tryd.prog Tryd.f5 [] false w args ∧ laidMetH Tryd.prog laidT w) ∧ sizedMet enc Tryd.prog Tryd.f5 (OpenSpec.ofChange Rows.posetOrderSpec) false w args)
      (Rows.posetOrderSpec.post enc Tryd.prog Tryd.f5 false true false false) := by
  refine returnsInHanded_of_change_and (C := Tryd.checked) (X := fun w _ => laidMetH Tryd.prog laidT w) (fun _ _ _ hh h => h.of_heap hh) own started (by kernel_rfl) Tryd.func5
    (ChangeSpec.witness_shaped (enc := enc) (C := Tryd.checked) (os := os) (X := fun w _ => laidMetH Tryd.prog laidT w) false (World.doorLaid Tryd.prog 14 os) #[.int .i64 0, .slice none 0 0] 8 rfl (World.shaped_of_RefB (by kernel_rfl) (by kernel_rfl)) (by kernel_rfl) (by kernel_rfl) (by kernel_rfl) (door_met os _)) ?_
  intro W base args ds gs before hval0 hW _ _ hL _
  have hval : ∀ (j : Nat) t v, Tryd.f5.params[j]? = some t → args[j]? = some v → Value.okWide Tryd.prog W .any base t v := hval0
  have hW' := hW
  obtain ⟨p, q, hA0, hV, rfl, hfz, hnd⟩ := hW
  have hA : DataW.TrodAll enc Tryd.prog W 0 (fun _ => true) true Tryd.f5.params.toList args.toList ds p := hA0
  rw [Tryd.params5] at hA hval
  obtain ⟨v0, vs0, d0, ds0, p0, q0, hargs, rfl, rfl, h0, r0⟩ := trodAll_cons hA
  obtain ⟨v1, vs1, d1, ds1, p1, q1, rfl, rfl, rfl, h1, r1⟩ := trodAll_cons r0
  obtain ⟨rfl, rfl, rfl⟩ := trodAll_nil r1
  obtain rfl : args = #[v0, v1] := by cases args; simp_all
  obtain ⟨rfl, rfl⟩ := trodVars_none hV
  obtain ⟨a0, rfl, rfl, rfl, w0⟩ := open_int Tryd.underlying3 (hval 0 3 v0 rfl rfl) h0
  obtain ⟨a1, len1, cap1, rfl⟩ := okWide_slice Tryd.underlying22 (hval 1 22 v1 rfl rfl)
  have k1 := h1
  have lt1 : ∀ x ∈ p1, x.block < W.heap.size := by obtain ⟨m, hm⟩ := k1; exact DataW.trod_lt m _ _ _ hm
  obtain ⟨z1, w1⟩ : ∃ zs, IsRow .i64 W a1 len1 cap1 zs := by
    obtain ⟨fuel, hf⟩ := h1
    rcases open_ints Tryd.underlying22 Tryd.underlying3 (by kernel_rfl) hf with ⟨hcs, _⟩ | ⟨x, l, c, zs, hcs, _, hl, hm, hz, _, hcell, hwz⟩
    · simp [Value.cells] at hcs
      obtain ⟨rfl, rfl, rfl⟩ := hcs
      exact ⟨[], .inl ⟨rfl, rfl, rfl, rfl⟩⟩
    · simp [Value.cells] at hcs
      obtain ⟨rfl, rfl, rfl⟩ := hcs
      exact ⟨zs, .inr ⟨_, rfl, hl, hm, by simpa using hz, hcell, hwz⟩⟩
  clear hA0 hval0
  refine (walk a0 a1 len1 cap1 z1 W w0 w1 (of_laid hL)).mono fun e W' ⟨he, bel⟩ => ?_
  subst he
  exact ⟨_, rfl, _, _, _, [], _, [], hW', trodAll_mk1 (shut_bool Tryd.underlying4 _), (trodAll_cons_mk (shut_int Tryd.underlying3 w0) (trodAll_cons_mk (Below.trod laidOut (by kernel_rfl) (of_decide_eq_true (by kernel_rfl)) k1 bel lt1) trodAll_mk0)), rfl, bel.frame _, fun h => by cases h⟩

theorem over : Rows.posetOrderRow.holds Tryd.pinned (OpenSpec.ofChange Rows.posetOrderSpec) :=
  OpenClaim.holds_of_wide 5 Tryd.f5 rfl rfl rfl rfl rfl rfl rfl ⟨rfl, rfl, rfl, rfl, rfl⟩ rfl rfl rfl rfl rfl (by kernel_rfl) Tryd.func5 (by kernel_rfl)
    (of_decide_eq_true (by kernel_rfl)) (by unfold Func.isWrapper; first | (rw [if_pos (by decide +kernel)]; kernel_rfl) | (rw [if_neg (by decide +kernel)]; exact ⟨rfl, rfl⟩))
    (fun os started H enc _ => lifted os started H enc)


/-! ### THE CARD -/
theorem cardHolds : Rows.PosetOrderCardSaid :=
  Claim7.holds_tied_plain_at .later [] [.data] true (true, "69b8748036c1ab40a488c13c974df10cd19b3b935a840f5165b1f86c23c10982") true
    over (fun _ h => by cases h) (by kernel_rfl) (fun _ h => by cases h) posetOrder_row_tie rfl ⟨rfl, rfl⟩ (by kernel_rfl) rfl
    (fun f fn hf hfn => by
      obtain rfl : f = 5 := Option.some.inj ((show Tryd.prog.funcNamed "simproof/simprooflaw04.PosetOrder" = some 5 by kernel_rfl).symm.trans hf) |>.symm
      obtain rfl : fn = Tryd.f5 := (Option.some.inj (Tryd.func5.symm.trans hfn)).symm
      exact ⟨by kernel_rfl, fun j t ht => by
        rw [Tryd.params5] at ht
        have hm : t ∈ [3, 22] := by simpa using Array.mem_of_getElem? ht
        have hall : ([3, 22].all fun u => !Tryd.prog.wantsStandIn u) = true := by kernel_rfl
        exact (show Tryd.prog.wantsStandIn t = false by simpa using List.all_eq_true.1 hall t hm)⟩)
    (by kernel_rfl)
end Go.Proofs.YtkfooiapecdhaaaDoor.posetOrder
