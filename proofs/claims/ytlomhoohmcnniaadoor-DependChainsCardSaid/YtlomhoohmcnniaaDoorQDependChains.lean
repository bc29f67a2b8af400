/-
  The walk of DependChains: two steps of one node, and two observable steps, are ordered as in the run.
  The tied card of the statement DependChains: for every input the law answers true and leaves its arguments as they were; the condition is the listed table of math/bits, which the card ties to the program's text. The frame of this proof was written by the guide's program, the walk is the text LawDependChains's.
-/
import Derived.Test.YtlomhoohmcnniaaDoorK14
import Derived.Test.YtlomhoohmcnniaaDoorK21
import Derived.Test.YtlomhoohmcnniaaDoorK22
import Derived.Test.YtlomhoohmcnniaaDoorRows
import Derived.Test.YtlomhoohmcnniaaDoorCards
import Derived.Test.YtlomhoohmcnniaaDoorTie
import Derived.Test.YtlomhoohmcnniaaDoorK4
import Derived.SevenTiedPlain
import Derived.SevenTiedAt
import Derived.WalkKit
import Derived.ProofKit
import Derived.OpenShut
import Derived.ShutString
import Derived.ChangeOld
import Derived.Below

namespace Go.Proofs.YtlomhoohmcnniaaDoor.LawDependChains
open Go Go.RowKit Go.Proofs Go.Proofs.YtlomhoohmcnniaaDoor
attribute [local go_sem] Oper.semAt_some

set_option maxRecDepth 100000 in
set_option maxHeartbeats 8000000 in
theorem walk (a0 : Option Addr) (len0 cap0 : Nat) (z0 : List Int) (w : World) (w0 : Row .i64 w a0 len0 cap0 z0) (hT : Tab w) :
    Calls Tryd.prog 9 #[.slice a0 len0 cap0] w fun e w' => e = .returned (.bool true) ∧ Below w.heap.size w w' := by
  have htl := hT.lt
  have HRUN := Lib.hid (run_row w0)
  have HT := Lib.hid hT
  clear w0 hT
  go_enter Tryd.func9, Tryd.ntmps9
  go_wp2_with (first
    | (go_at_call 10
       refine HRUN.out.mono ?_
       clear HRUN
       rintro e w1 ⟨A, m, c, R, rfl, hr1, hm, hgd, hb1⟩
       have HR1 := Lib.hid hr1
       have HB1 := Lib.hid hb1
       have HGD := Lib.hid hgd
       have HORD := Lib.hid (order_any hr1 hm (HT.out.below htl hb1))
       clear hr1 hb1 hgd)
    | (go_at_call 11
       refine HORD.out.mono ?_
       clear HORD
       rintro e w2 ⟨p, rfl, ho2, hb2⟩
       have HO2 := Lib.hid ho2
       have HB2 := Lib.hid (HB1.out.trans (hb2.mono HB1.out.size))
       have HR2 := Lib.hid (HR1.out.keep hb2)
       clear ho2 hb2))
  have hR14 : R.length ≤ 14 := by have := HR2.out.sl.len; omega
  have HLEN := Lib.hid HR2.out.sl.len
  have HLE : Hid (∀ (V : World) (i k : Nat), Below w2.heap.size w2 V → Calls Tryd.prog 13 #[.pointer (some ⟨p, 0, none⟩), .int .i64 (i : Int), .int .i64 (k : Int)] V fun e w' => e = .returned (.bool (DP.hb R i k)) ∧ V = w') := fun V i k hV => less_hb (HO2.out.below hV) hR14 i k
  have HLV : Hid (∀ V, Below w2.heap.size w2 V → Calls Tryd.prog 15 #[] V fun e w' => e = .returned (.bool true) ∧ Below V.heap.size V w') := fun V hV => lives_any V ((HT.out.below htl HB2.out).below (Nat.lt_of_lt_of_le htl HB2.out.size) hV)
  have HR14 := Lib.hid hR14
  clear HO2 HR1 HB1 HGD HT hR14
  go_loopw [5] (fun i V => ∃ k : Nat, i = .int .i64 (k : Int) ∧ k ≤ m ∧ Hid (Below w2.heap.size w2 V)) (fun i _ => m - (intOf i).toNat)
  case atStart => exact ⟨0, rfl, Nat.zero_le _, Below.refl _ _⟩
  case round =>
    obtain ⟨i, rfl, him, hbl⟩ := hrel
    obtain ⟨wo, hwo⟩ : ∃ W, W = wr := ⟨_, rfl⟩
    subst hwo
    by_cases hi : i < m
    · go_wp2_with fail
      go_loopw [6] (fun k V => ∃ j : Nat, k = .int .i64 (j : Int) ∧ i + 1 ≤ j ∧ j ≤ m ∧ Hid (Below w2.heap.size w2 V)) (fun k _ => m - (intOf k).toNat)
      case atStart => exact ⟨i + 1, by go_num, Nat.le_refl _, by omega, hbl.out⟩
      case round =>
        obtain ⟨k, rfl, hik, hkm, hbk⟩ := hrel
        obtain ⟨wp, hwp⟩ : ∃ W, W = wr := ⟨_, rfl⟩
        subst hwp
        by_cases hk : k < m
        · obtain ⟨sa, hsa⟩ : ∃ s, R[i]? = some s := ⟨_, List.getElem?_eq_getElem (by rw [HLEN.out]; exact hi)⟩
          obtain ⟨sb, hsb⟩ : ∃ s, R[k]? = some s := ⟨_, List.getElem?_eq_getElem (by rw [HLEN.out]; exact hk)⟩
          obtain ⟨g, hg, hgl, ⟨c0, c1, c2, c3, c4, c5, c6, c7, c8, c9, c10⟩, hia⟩ := (HR2.out.keep hbk.out).at_ hsa
          obtain ⟨g', hg', _, ⟨d0, d1, d2, d3, d4, d5, d6, d7, d8, d9, d10⟩, hib⟩ := (HR2.out.keep hbk.out).at_ hsb
          rw [hg] at hg'
          injection hg' with hg'
          injection hg' with hg'
          subst hg'
          subst hg
          have hlt : i < k := by omega
          have hno : DP.hb R k i = false := by
            cases h : DP.hb R k i with
            | false => rfl
            | true => have := (DP.hb_lt HR14.out h).1; omega
          have hyes : (sa.ev.n == sb.ev.n || (sa.ob && sb.ob)) = true → DP.hb R i k = true := fun h => DP.hb_one HR14.out hlt (by rw [HLEN.out]; exact hk) (by
            rw [DP.depAt_eq hsa hsb]
            unfold DP.dep
            rw [h]
            rfl)
          have HL1 := Lib.hid (fun q => HLE.out (wp.drewN q) i k (hbk.out.trans ((drewN_below wp q).mono hbk.out.size)))
          have HL2 := Lib.hid (fun q => HLE.out (wp.drewN q) k i (hbk.out.trans ((drewN_below wp q).mono hbk.out.size)))
          obtain ⟨y1, hy1⟩ : ∃ y, (sa.ev.n == sb.ev.n) = y := ⟨_, rfl⟩
          obtain ⟨oa, hoa⟩ : ∃ y, sa.ob = y := ⟨_, rfl⟩
          obtain ⟨ob, hob⟩ : ∃ y, sb.ob = y := ⟨_, rfl⟩
          obtain ⟨h1, hh1⟩ : ∃ y, DP.hb R i k = y := ⟨_, rfl⟩
          rw [hno] at HL2
          rw [hh1] at HL1 hyes
          rw [hy1, hoa, hob] at hyes
          rw [hoa] at c9
          rw [hob] at d9
          have HY := Lib.hid hyes
          clear hno hyes hsa hsb hia hib hoa hob hh1
          cases y1 <;> cases oa <;> cases ob
          · clear HY HL1
            go_wp2_with (first
              | go_quiet (fail)
              | (go_at_call 13; with_reducible refine (HL2.out _).mono ?_; clear HL2; rintro e w' ⟨rfl, rfl⟩))
            go_roundw
            case rel => exact ⟨k + 1, by go_num, by omega, by omega, hbk.out.trans ((drewN_below wp _).mono hbk.out.size)⟩
            case measure => simp [intOf]; omega
          · clear HY HL1
            go_wp2_with (first
              | go_quiet (fail)
              | (go_at_call 13; with_reducible refine (HL2.out _).mono ?_; clear HL2; rintro e w' ⟨rfl, rfl⟩))
            go_roundw
            case rel => exact ⟨k + 1, by go_num, by omega, by omega, hbk.out.trans ((drewN_below wp _).mono hbk.out.size)⟩
            case measure => simp [intOf]; omega
          · clear HY HL1
            go_wp2_with (first
              | go_quiet (fail)
              | (go_at_call 13; with_reducible refine (HL2.out _).mono ?_; clear HL2; rintro e w' ⟨rfl, rfl⟩))
            go_roundw
            case rel => exact ⟨k + 1, by go_num, by omega, by omega, hbk.out.trans ((drewN_below wp _).mono hbk.out.size)⟩
            case measure => simp [intOf]; omega
          · obtain rfl : h1 = true := HY.out (by rfl)
            clear HY
            go_wp2_with (first
              | go_quiet (fail)
              | (go_at_call 13; with_reducible refine (HL1.out _).mono ?_; clear HL1; rintro e w' ⟨rfl, rfl⟩)
              | (go_at_call 13; with_reducible refine (HL2.out _).mono ?_; clear HL2; rintro e w' ⟨rfl, rfl⟩))
            go_roundw
            case rel => exact ⟨k + 1, by go_num, by omega, by omega, hbk.out.trans ((drewN_below wp _).mono hbk.out.size)⟩
            case measure => simp [intOf]; omega
          · obtain rfl : h1 = true := HY.out (by rfl)
            clear HY
            go_wp2_with (first
              | go_quiet (fail)
              | (go_at_call 13; with_reducible refine (HL1.out _).mono ?_; clear HL1; rintro e w' ⟨rfl, rfl⟩)
              | (go_at_call 13; with_reducible refine (HL2.out _).mono ?_; clear HL2; rintro e w' ⟨rfl, rfl⟩))
            go_roundw
            case rel => exact ⟨k + 1, by go_num, by omega, by omega, hbk.out.trans ((drewN_below wp _).mono hbk.out.size)⟩
            case measure => simp [intOf]; omega
          · obtain rfl : h1 = true := HY.out (by rfl)
            clear HY
            go_wp2_with (first
              | go_quiet (fail)
              | (go_at_call 13; with_reducible refine (HL1.out _).mono ?_; clear HL1; rintro e w' ⟨rfl, rfl⟩)
              | (go_at_call 13; with_reducible refine (HL2.out _).mono ?_; clear HL2; rintro e w' ⟨rfl, rfl⟩))
            go_roundw
            case rel => exact ⟨k + 1, by go_num, by omega, by omega, hbk.out.trans ((drewN_below wp _).mono hbk.out.size)⟩
            case measure => simp [intOf]; omega
          · obtain rfl : h1 = true := HY.out (by rfl)
            clear HY
            go_wp2_with (first
              | go_quiet (fail)
              | (go_at_call 13; with_reducible refine (HL1.out _).mono ?_; clear HL1; rintro e w' ⟨rfl, rfl⟩)
              | (go_at_call 13; with_reducible refine (HL2.out _).mono ?_; clear HL2; rintro e w' ⟨rfl, rfl⟩))
            go_roundw
            case rel => exact ⟨k + 1, by go_num, by omega, by omega, hbk.out.trans ((drewN_below wp _).mono hbk.out.size)⟩
            case measure => simp [intOf]; omega
          · obtain rfl : h1 = true := HY.out (by rfl)
            clear HY
            go_wp2_with (first
              | go_quiet (fail)
              | (go_at_call 13; with_reducible refine (HL1.out _).mono ?_; clear HL1; rintro e w' ⟨rfl, rfl⟩)
              | (go_at_call 13; with_reducible refine (HL2.out _).mono ?_; clear HL2; rintro e w' ⟨rfl, rfl⟩))
            go_roundw
            case rel => exact ⟨k + 1, by go_num, by omega, by omega, hbk.out.trans ((drewN_below wp _).mono hbk.out.size)⟩
            case measure => simp [intOf]; omega
        · obtain rfl : k = m := by omega
          go_wp2_with fail
          go_roundw
          case rel => exact ⟨i + 1, by go_num, by omega, hbk.out⟩
          case measure => simp [intOf]; omega
    · obtain rfl : i = m := by omega
      have HL := Lib.hid (HLV.out wo hbl.out)
      go_wp2_with (first
        | (go_at_call 15
           refine HL.out.mono ?_
           rintro e w9 ⟨rfl, hb9⟩))
      go_ret
      exact ⟨rfl, HB2.out.trans ((hbl.out.trans (hb9.mono hbl.out.size)).mono HB2.out.size)⟩
end Go.Proofs.YtlomhoohmcnniaaDoor.LawDependChains

namespace Go.Proofs.YtlomhoohmcnniaaDoor.dependChains
open Go.ChangeShapes Go.WideShapes Go.ChangeAt Go.RowKit
open Go.ChangeMaps (open_string shut_string)
set_option linter.unusedVariables false

theorem own : ownKnob Tryd.prog.godebug = none := by kernel_rfl
theorem laidOut : laidOutB Tryd.prog = true := by kernel_rfl

/-- WHAT THE WALK IS TOLD OF A SLICE OF INTEGERS THAT CAME IN: it is nil; or it leads to a row of 'cap' cells, the numbers 'zs' (the first 'len' are its elements, the rest its spare room), each fitting its kind. -/
def IsRow (k : IntKind) (w : World) (a : Option Addr) (len cap : Nat) (zs : List Int) : Prop :=
  (a = none ∧ len = 0 ∧ cap = 0 ∧ zs = []) ∨
  ∃ x, a = some x ∧ len ≤ cap ∧ cap ≤ maxLen ∧ zs.length = cap ∧ (∀ i, i < zs.length → w.cell? (x.add i) = some (.int k (zs.getD i 0))) ∧ ∀ n ∈ zs, (Lit.int k n).wf = true

/-! ### STEP 1: THE WALK: the Go text returns true, AND WRITES NOTHING THAT WAS THERE: 'Below w.heap.size w w'' (Derived/Below.lean: '.refl', '.alloc', '.drew', '.setCell' at a new block, '.trans'). Open each 'IsRow' by 'rcases' AHEAD of 'go_enter'; part every test ahead of the walk. -/
theorem walk (a0 : Option Addr) (len0 cap0 : Nat) (z0 : List Int) (w : World) (w0 : IsRow .i64 w a0 len0 cap0 z0) (hT : Tab w) :
    Calls Tryd.prog 9 #[.slice a0 len0 cap0] w fun e w' => e = .returned (.bool true) ∧ Below w.heap.size w w' := by
  exact LawDependChains.walk a0 len0 cap0 z0 w w0 hT

/-! ### THE ROW's STEP: WRITTEN OUT: LEAVE IT -/
set_option maxRecDepth 100000 in
theorem lifted (os : Os) (started : os.Started) (H : Type) (enc : TypeId × Value → H) :
    ReturnsInHanded {} Tryd.checked os 9 .any (fun w args => (Rows.dependChainsSpec.pre enc Tryd.prog Tryd.f9 [] false w args ∧ laidMetH Tryd.prog laidT w) ∧ sizedMet enc Tryd.prog Tryd.f9 (OpenSpec.ofChange Rows.dependChainsSpec) false w args)
      (Rows.dependChainsSpec.post enc Tryd.prog Tryd.f9 false true false false) := by
  refine returnsInHanded_of_change_and (C := Tryd.checked) (X := fun w _ => laidMetH Tryd.prog laidT w) (fun _ _ _ hh h => h.of_heap hh) own started (by kernel_rfl) Tryd.func9
    (ChangeSpec.witness_shaped (enc := enc) (C := Tryd.checked) (os := os) (X := fun w _ => laidMetH Tryd.prog laidT w) false (World.doorLaid Tryd.prog 14 os) #[.slice none 0 0] 8 rfl (World.shaped_of_RefB (by kernel_rfl) (by kernel_rfl)) (by kernel_rfl) (by kernel_rfl) (by kernel_rfl) (door_met os _)) ?_
  intro W base args ds gs before hval0 hW _ _ hL _
  have hval : ∀ (j : Nat) t v, Tryd.f9.params[j]? = some t → args[j]? = some v → Value.okWide Tryd.prog W .any base t v := hval0
  have hW' := hW
  obtain ⟨p, q, hA0, hV, rfl, hfz, hnd⟩ := hW
  have hA : DataW.TrodAll enc Tryd.prog W 0 (fun _ => true) true Tryd.f9.params.toList args.toList ds p := hA0
  rw [Tryd.params9] at hA hval
  obtain ⟨v0, vs0, d0, ds0, p0, q0, hargs, rfl, rfl, h0, r0⟩ := trodAll_cons hA
  obtain ⟨rfl, rfl, rfl⟩ := trodAll_nil r0
  obtain rfl : args = #[v0] := by cases args; simp_all
  obtain ⟨rfl, rfl⟩ := trodVars_none hV
  obtain ⟨a0, len0, cap0, rfl⟩ := okWide_slice Tryd.underlying22 (hval 0 22 v0 rfl rfl)
  have k0 := h0
  have lt0 : ∀ x ∈ p0, x.block < W.heap.size := by obtain ⟨m, hm⟩ := k0; exact DataW.trod_lt m _ _ _ hm
  obtain ⟨z0, w0⟩ : ∃ zs, IsRow .i64 W a0 len0 cap0 zs := by
    obtain ⟨fuel, hf⟩ := h0
    rcases open_ints Tryd.underlying22 Tryd.underlying3 (by kernel_rfl) hf with ⟨hcs, _⟩ | ⟨x, l, c, zs, hcs, _, hl, hm, hz, _, hcell, hwz⟩
    · simp [Value.cells] at hcs
      obtain ⟨rfl, rfl, rfl⟩ := hcs
      exact ⟨[], .inl ⟨rfl, rfl, rfl, rfl⟩⟩
    · simp [Value.cells] at hcs
      obtain ⟨rfl, rfl, rfl⟩ := hcs
      exact ⟨zs, .inr ⟨_, rfl, hl, hm, by simpa using hz, hcell, hwz⟩⟩
  clear hA0 hval0
  refine (walk a0 len0 cap0 z0 W w0 (of_laid hL)).mono fun e W' ⟨he, bel⟩ => ?_
  subst he
  exact ⟨_, rfl, _, _, _, [], _, [], hW', trodAll_mk1 (shut_bool Tryd.underlying4 _), (trodAll_cons_mk (Below.trod laidOut (by kernel_rfl) (of_decide_eq_true (by kernel_rfl)) k0 bel lt0) trodAll_mk0), rfl, bel.frame _, fun h => by cases h⟩

theorem over : Rows.dependChainsRow.holds Tryd.pinned (OpenSpec.ofChange Rows.dependChainsSpec) :=
  OpenClaim.holds_of_wide 9 Tryd.f9 rfl rfl rfl rfl rfl rfl rfl ⟨rfl, rfl, rfl, rfl, rfl⟩ rfl rfl rfl rfl rfl (by kernel_rfl) Tryd.func9 (by kernel_rfl)
    (of_decide_eq_true (by kernel_rfl)) (by unfold Func.isWrapper; first | (rw [if_pos (by decide +kernel)]; kernel_rfl) | (rw [if_neg (by decide +kernel)]; exact ⟨rfl, rfl⟩))
    (fun os started H enc _ => lifted os started H enc)


/-! ### THE CARD -/
theorem cardHolds : Rows.DependChainsCardSaid :=
  Claim7.holds_tied_plain_at .later [] [.data] true (true, "90cb75cc7c10c14a10cefb939cee6070c87076b8098582c817745454562e8749") false
    over (fun _ h => by cases h) (by kernel_rfl) (fun _ h => by cases h) dependChains_row_tie rfl ⟨rfl, rfl⟩ (by kernel_rfl) rfl
    (fun f fn hf hfn => by
      obtain rfl : f = 9 := Option.some.inj ((show Tryd.prog.funcNamed "simproof/simprooflaw16.DependChains" = some 9 by kernel_rfl).symm.trans hf) |>.symm
      obtain rfl : fn = Tryd.f9 := (Option.some.inj (Tryd.func9.symm.trans hfn)).symm
      exact ⟨by kernel_rfl, fun j t ht => by
        rw [Tryd.params9] at ht
        have hm : t ∈ [22] := by simpa using Array.mem_of_getElem? ht
        have hall : ([22].all fun u => !Tryd.prog.wantsStandIn u) = true := by kernel_rfl
        exact (show Tryd.prog.wantsStandIn t = false by simpa using List.all_eq_true.1 hall t hm)⟩)
    (by kernel_rfl)
end Go.Proofs.YtlomhoohmcnniaaDoor.dependChains
