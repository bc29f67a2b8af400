/-
  The walk of PosetGraph: New accepts the pairs exactly if the graph has a topological order, which is the least linear extension; what is reached comes behind.
  The tied card of the statement PosetGraph: for every input the law answers true and leaves its arguments as they were; the condition is the listed table of math/bits, which the card ties to the program's text. The frame of this proof was written by the guide's program, the walk is the text LawPosetGraph's.
-/
import Derived.Test.YtlgdcbhdmffnoaaDoorK31
import Derived.Test.YtlgdcbhdmffnoaaDoorK19
import Derived.Test.YtlgdcbhdmffnoaaDoorK18
import Derived.Test.YtlgdcbhdmffnoaaDoorK2
import Derived.BigQuiet
import Derived.Deep.QuietTactic
import Derived.Test.YtlgdcbhdmffnoaaDoorRows
import Derived.Test.YtlgdcbhdmffnoaaDoorCards
import Derived.Test.YtlgdcbhdmffnoaaDoorTie
import Derived.Test.YtlgdcbhdmffnoaaDoorK3
import Derived.SevenTiedPlain
import Derived.SevenTiedAt
import Derived.WalkKit
import Derived.ProofKit
import Derived.OpenShut
import Derived.ShutString
import Derived.ChangeOld
import Derived.Below

namespace Go.Proofs.YtlgdcbhdmffnoaaDoor.LawPosetGraph
open Go Go.RowKit Go.Proofs Go.Proofs.YtlgdcbhdmffnoaaDoor

set_option maxRecDepth 100000 in
set_option maxHeartbeats 4000000 in
theorem walk (a0 : Int) (a1 : Option Addr) (len1 cap1 : Nat) (z1 : List Int) (w : World) (w0 : (Lit.int .i64 a0).wf = true) (w1 : Row .i64 w a1 len1 cap1 z1) (hT : Tab w) :
    Calls Tryd.prog 11 #[.int .i64 a0, .slice a1 len1 cap1] w fun e w' => e = .returned (.bool true) ∧ Below w.heap.size w w' := by
  have hn : I64 a0 := by have := bounds_i64 w0; unfold I64; omega
  obtain ⟨hx, _, _, hz⟩ := w1.ints
  obtain ⟨zs, hzs⟩ : ∃ zs, z1.take len1 = zs := ⟨_, rfl⟩
  rw [hzs] at hx hz
  have hz64 := i64_of hz
  have HT := Lib.hid hT
  have HAR := Lib.hid (fun V => around_any a0 8 hn (by omega) (by omega) V)
  simp only [gN_eq a0 (show (0 : Int) < 8 by omega)] at HAR
  have hk8 := gN_lt a0 (m := 8) (by omega)
  have HPA := Lib.hid (pairs_e (gN a0 8) (by omega) a1 len1 cap1 zs w hx hz64)
  have hprl := prE_lt (k := gN a0 8) (zs := zs)
  have hpln := prE_len (gN a0 8) zs
  obtain ⟨k, hkk⟩ : ∃ k, gN a0 8 = k := ⟨_, rfl⟩
  simp only [hkk] at HAR HPA hprl hpln hk8
  obtain ⟨E, hE⟩ : ∃ E, prE k zs = E := ⟨_, rfl⟩
  rw [hE] at HPA hprl hpln
  have HPRL := Lib.hid hprl
  have hk9 : k ≤ 8 := by omega
  clear hx hz hz64 hzs w1 w0 hT hn hkk hE hprl hk8
  go_enter Tryd.func11, Tryd.ntmps11
  go_wp2_with (first
    | (go_at_call 13; refine (HAR.out _).mono ?_; clear HAR; rintro e w' ⟨rfl, rfl⟩)
    | (go_at_call 14; refine HPA.out.mono ?_; clear HPA; rintro e w3 ⟨A6, c6, rfl, ho3, hb3⟩; have HB3 := Lib.hid hb3; have HED3 := Lib.hid (ownP_edg ho3).2; clear ho3 hb3))
  have hsz3 := HB3.out.size
  refine (new_e k E.length c6 A6 E w3 (HT.out.below HT.out.lt HB3.out) hk9 (by omega) HED3.out HPRL.out).mono ?_
  rintro e w4 ⟨hb4, hcs⟩
  have HED4 := Lib.hid (edg_mono (HED3.out.below hb4) hb4.size)
  have HB4 := Lib.hid (HB3.out.trans (hb4.mono hsz3))
  have htp := topo_any sort_own compact_own k E.length c6 A6 E w4 (by omega) (by omega) HED4.out HPRL.out
  rw [ok_topo hk9 HPRL.out] at htp
  have HTP := Lib.hid htp
  clear hb4 htp HED3 HB3
  rcases hcs with ⟨hk, rfl⟩ | ⟨hk, p, rfl, hod⟩
  · rw [hk] at HTP
    clear hk
    go_wp2_with fail
    refine HTP.out.mono ?_
    rintro e w5 ⟨v5, rfl, ho5, hb5⟩
    obtain ⟨A5, c5, rfl, _, _⟩ := ho5.slice
    have HB5 := Lib.hid (HB4.out.trans (hb5.mono HB4.out.size))
    clear ho5 hb5 HTP
    go_wp2_with (go_at_call 17; refine (lives_a w _ HT.out HB5.out).mono ?_; rintro e w6 ⟨rfl, hb6⟩)
    go_ret
    exact ⟨rfl, hb6⟩
  · rw [hk, topo_ord hk9 HPRL.out hk] at HTP
    have HRO := Lib.hid (fun (a b : Nat) (ha : a < k) (hb : b < k) => reach_ord hk9 HPRL.out hk ha hb)
    obtain ⟨hcl, hRl, _⟩ := ordE_cl hk9 HPRL.out hk
    obtain ⟨R, hR⟩ : ∃ R, ordE k E = R := ⟨_, rfl⟩
    rw [hR] at HTP hcl hRl hod
    simp only [hR] at HRO
    have HCL := Lib.hid hcl
    have HOD := Lib.hid hod
    have htl := hcl.topo.trans hRl
    obtain ⟨L, hL⟩ : ∃ L, topoL (PO.rows R) = L := ⟨_, rfl⟩
    rw [hL] at HTP htl
    have HL := Lib.hid hL
    have HTL := Lib.hid htl
    have HRL := Lib.hid hRl
    have hs4 := HB4.out.size
    clear hk hcl hod hR hL htl hRl
    go_wp2_with fail
    refine HTP.out.mono ?_
    clear HTP
    rintro e w5 ⟨v5, rfl, ho5, hb5⟩
    obtain ⟨A5, c5, rfl, _, _⟩ := ho5.slice
    have HO5 := Lib.hid (OI.of ho5).2
    have HOD5 := Lib.hid ((HOD.out.below hb5).more hb5.size)
    have HED5 := Lib.hid (edg_mono (HED4.out.below hb5) hb5.size)
    have HB5 := Lib.hid (HB4.out.trans (hb5.mono hs4))
    have hlin := linear_any HOD5.out (by have := HRL.out; omega) HCL.out.small (HT.out.below HT.out.lt HB5.out) (Nat.le_refl _)
    rw [HL.out] at hlin
    have HLI := Lib.hid hlin
    clear ho5 hb5 hlin HOD HED4 HB4
    go_wp2_with fail
    refine HLI.out.mono ?_
    clear HLI
    rintro e w6 ⟨v6, rfl, ho6, hb6⟩
    obtain ⟨A6', c6', rfl, _, _⟩ := ho6.slice
    have HO6 := Lib.hid (OI.of ho6).2
    have HP6 := Lib.hid (HO5.out.below hb6)
    have HOD6 := Lib.hid ((HOD5.out.below hb6).more hb6.size)
    have HED6 := Lib.hid (edg_mono (HED5.out.below hb6) hb6.size)
    have hs5 := HB5.out.size
    have HB6 := Lib.hid (HB5.out.trans (hb6.mono hs5))
    have hLl : L.length ≤ 8 := by have := HTL.out; omega
    clear ho6 hb6 HOD5 HED5 HO5
    go_wp2_with fail
    refine (sameInts_any A5 A6' _ _ c5 c6' _ _ w6 HP6.out.ints HO6.out.ints (by omega)).mono ?_
    rintro e w7 ⟨rfl, hb7⟩
    rw [decide_eq_true rfl]
    have hs6 := HB6.out.size
    have HOD7 := Lib.hid ((HOD6.out.below hb7).more hb7.size)
    have HED7 := Lib.hid (edg_mono (HED6.out.below hb7) hb7.size)
    have HB7 := Lib.hid (HB6.out.trans (hb7.mono hs6))
    clear hb7 HOD6 HED6 HO6 HP6
    go_wp2_with fail
    go_loopw [11] (fun i V => ∃ a : Nat, a ≤ k ∧ i = .int .i64 (a : Int) ∧ Hid (Below w7.heap.size w7 V)) (fun i _ => k - (intOf i).toNat)
    case atStart => exact ⟨0, by omega, rfl, Below.refl _ _⟩
    case round =>
      obtain ⟨a, ha, rfl, hB⟩ := hrel
      have hs7 := HB7.out.size
      have HBW := Lib.hid (HB7.out.trans (hB.out.mono hs7))
      by_cases hak : a < k
      · have hin : Ints .i64 (wr.alloc (.cells #[.int .i64 (a : Int)] 3)).heap.size (wr.alloc (.cells #[.int .i64 (a : Int)] 3)) (some ⟨wr.heap.size, 0, none⟩) 1 [(a : Int)] := by
          refine ⟨rfl, fun _ => ⟨wr.heap.size, 0, rfl, by simp, fun j hj => ?_⟩⟩
          obtain rfl : j = 0 := by omega
          rw [cell_of_row _ wr.heap.size (0 + 0) _ _ (0, 0) (World.alloc_heap_new wr _)]
          rfl
        have hba := (Below.refl wr.heap.size wr).alloc (Nat.le_refl _) (.cells #[.int .i64 (a : Int)] 3)
        have HRE := Lib.hid (reach_is k E.length c6 1 1 A6 (some ⟨wr.heap.size, 0, none⟩) E [(a : Int)] (wr.alloc (.cells #[.int .i64 (a : Int)] 3)) (by omega) (by omega) (edg_mono ((edg_mono (HED7.out.below hB.out) hB.out.size).below hba) hba.size) HPRL.out hin (by omega))
        have hs8 := hB.out.size
        clear hin hba
        go_wp2_with fail
        refine HRE.out.mono ?_
        clear HRE
        rintro e w8 ⟨v8, rfl, ho8, hb8⟩
        obtain ⟨A8, c8, rfl, _, _⟩ := ho8.slice
        have hrl := rset_len (succs k E) (fromV k [(a : Int)])
        rw [succs_len] at hrl
        have HO8 := Lib.hid (OI.of ho8).2
        have HB8 := Lib.hid (show Below w7.heap.size w7 w8 from (hB.out.alloc hs8 _).trans (hb8.mono (by simp; omega)))
        have hr1 := fun (b : Nat) (hb : b < k) => HRO.out a b hak hb
        obtain ⟨S, hS⟩ : ∃ S, rset (succs k E) (fromV k [(a : Int)]) = S := ⟨_, rfl⟩
        rw [hS] at hrl HO8
        simp only [hS] at hr1
        rw [hS]
        have HR1 := Lib.hid hr1
        clear ho8 hb8 hr1 hS
        go_wp2_with fail
        go_loopw [13] (fun i V => ∃ b : Nat, b ≤ k ∧ i = .int .i64 (b : Int) ∧ V = w8) (fun i _ => k - (intOf i).toNat)
        case atStart => exact ⟨0, by omega, rfl, rfl⟩
        case round =>
          obtain ⟨b, hb, rfl, rfl⟩ := hrel
          by_cases hbk : b < k
          · have hless := less_any ((HOD7.out.below HB8.out).more HB8.out.size) (by have := HRL.out; omega) HCL.out.small (a : Int) (b : Int)
            rw [PO.ltI_nat' HCL.out.small] at hless
            have hhas := refHas_any A8 S.length c8 _ (b : Int) wr HO8.out.ints (by omega)
            have hro := HR1.out b hbk
            obtain ⟨t2, ht2⟩ : ∃ t, PO.lt R a b = t := ⟨_, rfl⟩
            obtain ⟨t1, ht1⟩ : ∃ t, decide ((b : Int) ∈ S.map fun n : Nat => (n : Int)) = t := ⟨_, rfl⟩
            rw [ht2] at hless hro
            rw [ht1] at hhas hro
            have HLS := Lib.hid hless
            have HHS := Lib.hid hhas
            clear hless hhas ht1 ht2
            by_cases hab : a = b
            · have hne : ((a : Int) != (b : Int)) = false := by rw [hab]; simp
              have ht : t2 = false := by rw [← hro, decide_eq_false (by omega)]; rfl
              subst ht
              clear hro hab
              go_wp2_with (go_at_call 18; refine HLS.out.mono ?_; rintro e w' ⟨rfl, rfl⟩)
              go_roundw
              case rel => exact ⟨b + 1, by omega, by go_num, trivial⟩
              case measure => simp [intOf]; omega
            · have hne : ((a : Int) != (b : Int)) = true := by rw [bne_iff_ne]; omega
              have ht : t2 = t1 := by rw [← hro, decide_eq_true hab]; rfl
              subst ht
              have htt : (t2 != t2) = false := by simp
              clear hro hab
              go_wp2_with (first
                | (go_at_call 38; refine HHS.out.mono ?_; rintro e w' ⟨rfl, rfl⟩)
                | (go_at_call 18; refine HLS.out.mono ?_; rintro e w' ⟨rfl, rfl⟩))
              go_roundw
              case rel => exact ⟨b + 1, by omega, by go_num, trivial⟩
              case measure => simp [intOf]; omega
          · go_wp2_with fail
            go_roundw
            case rel => exact ⟨a + 1, by omega, by go_num, HB8.out⟩
            case measure => simp [intOf]; omega
      · go_wp2_with (go_at_call 17; refine (lives_a w _ HT.out HBW.out).mono ?_; rintro e w6 ⟨rfl, hb6⟩)
        go_ret
        exact ⟨rfl, hb6⟩
end Go.Proofs.YtlgdcbhdmffnoaaDoor.LawPosetGraph

namespace Go.Proofs.YtlgdcbhdmffnoaaDoor.posetGraph
open Go.ChangeShapes Go.WideShapes Go.ChangeAt Go.RowKit
open Go.ChangeMaps (open_string shut_string)
set_option linter.unusedVariables false

theorem own : ownKnob Tryd.prog.godebug = none := by kernel_rfl
theorem laidOut : laidOutB Tryd.prog = true := by kernel_rfl

/-- WHAT THE WALK IS TOLD OF A SLICE OF INTEGERS THAT CAME IN: it is nil; or it leads to a row of 'cap' cells, the numbers 'zs' (the first 'len' are its elements, the rest its spare room), each fitting its kind. -/
def IsRow (k : IntKind) (w : World) (a : Option Addr) (len cap : Nat) (zs : List Int) : Prop :=
  (a = none ∧ len = 0 ∧ cap = 0 ∧ zs = []) ∨
  ∃ x, a = some x ∧ len ≤ cap ∧ cap ≤ maxLen ∧ zs.length = cap ∧ (∀ i, i < zs.length → w.cell? (x.add i) = some (.int k (zs.getD i 0))) ∧ ∀ n ∈ zs, (Lit.int k n).wf = true

/-! ### STEP 1: THE WALK: the Go text returns true, AND WRITES NOTHING THAT WAS THERE: 'Below w.heap.size w w'' (Derived/Below.lean: '.refl', '.alloc', '.drew', '.setCell' at a new block, '.trans'). Open each 'IsRow' by 'rcases' AHEAD of 'go_enter'; part every test ahead of the walk. -/
theorem walk (a0 : Int) (a1 : Option Addr) (len1 cap1 : Nat) (z1 : List Int) (w : World) (w0 : (Lit.int .i64 a0).wf = true) (w1 : IsRow .i64 w a1 len1 cap1 z1) (hT : Tab w) :
    Calls Tryd.prog 11 #[.int .i64 a0, .slice a1 len1 cap1] w fun e w' => e = .returned (.bool true) ∧ Below w.heap.size w w' := by
  exact LawPosetGraph.walk a0 a1 len1 cap1 z1 w w0 w1 hT

/-! ### THE ROW's STEP: WRITTEN OUT: LEAVE IT -/
set_option maxRecDepth 100000 in
theorem lifted (os : Os) (started : os.Started) (H : Type) (enc : TypeId × Value → H) :
    ReturnsInHanded {} Tryd.checked os 11 .any (fun w args => (Rows.posetGraphSpec.pre enc Tryd.prog Tryd.f11 [] false w args ∧ laidMetH Tryd.prog laidT w) ∧ sizedMet enc Tryd.prog Tryd.f11 (OpenSpec.ofChange Rows.posetGraphSpec) false w args)
      (Rows.posetGraphSpec.post enc Tryd.prog Tryd.f11 false true false false) := by
  refine returnsInHanded_of_change_and (C := Tryd.checked) (X := fun w _ => laidMetH Tryd.prog laidT w) (fun _ _ _ hh h => h.of_heap hh) own started (by kernel_rfl) Tryd.func11
    (ChangeSpec.witness_shaped (enc := enc) (C := Tryd.checked) (os := os) (X := fun w _ => laidMetH Tryd.prog laidT w) false (World.doorLaid Tryd.prog 14 os) #[.int .i64 0, .slice none 0 0] 8 rfl (World.shaped_of_RefB (by kernel_rfl) (by kernel_rfl)) (by kernel_rfl) (by kernel_rfl) (by kernel_rfl) (door_met os _)) ?_
  intro W base args ds gs before hval0 hW _ _ hL _
  have hval : ∀ (j : Nat) t v, Tryd.f11.params[j]? = some t → args[j]? = some v → Value.okWide Tryd.prog W .any base t v := hval0
  have hW' := hW
  obtain ⟨p, q, hA0, hV, rfl, hfz, hnd⟩ := hW
  have hA : DataW.TrodAll enc Tryd.prog W 0 (fun _ => true) true Tryd.f11.params.toList args.toList ds p := hA0
  rw [Tryd.params11] at hA hval
  obtain ⟨v0, vs0, d0, ds0, p0, q0, hargs, rfl, rfl, h0, r0⟩ := trodAll_cons hA
  obtain ⟨v1, vs1, d1, ds1, p1, q1, rfl, rfl, rfl, h1, r1⟩ := trodAll_cons r0
  obtain ⟨rfl, rfl, rfl⟩ := trodAll_nil r1
  obtain rfl : args = #[v0, v1] := by cases args; simp_all
  obtain ⟨rfl, rfl⟩ := trodVars_none hV
  obtain ⟨a0, rfl, rfl, rfl, w0⟩ := open_int Tryd.underlying3 (hval 0 3 v0 rfl rfl) h0
  obtain ⟨a1, len1, cap1, rfl⟩ := okWide_slice Tryd.underlying22 (hval 1 22 v1 rfl rfl)
  have k1 := h1
  have lt1 : ∀ x ∈ p1, x.block < W.heap.size := by obtain ⟨m, hm⟩ := k1; exact DataW.trod_lt m _ _ _ hm
  obtain ⟨z1, w1⟩ : ∃ zs, IsRow .i64 W a1 len1 cap1 zs := by
    obtain ⟨fuel, hf⟩ := h1
    rcases open_ints Tryd.underlying22 Tryd.underlying3 (by kernel_rfl) hf with ⟨hcs, _⟩ | ⟨x, l, c, zs, hcs, _, hl, hm, hz, _, hcell, hwz⟩
    · simp [Value.cells] at hcs
      obtain ⟨rfl, rfl, rfl⟩ := hcs
      exact ⟨[], .inl ⟨rfl, rfl, rfl, rfl⟩⟩
    · simp [Value.cells] at hcs
      obtain ⟨rfl, rfl, rfl⟩ := hcs
      exact ⟨zs, .inr ⟨_, rfl, hl, hm, by simpa using hz, hcell, hwz⟩⟩
  clear hA0 hval0
  refine (walk a0 a1 len1 cap1 z1 W w0 w1 (of_laid hL)).mono fun e W' ⟨he, bel⟩ => ?_
  subst he
  exact ⟨_, rfl, _, _, _, [], _, [], hW', trodAll_mk1 (shut_bool Tryd.underlying4 _), (trodAll_cons_mk (shut_int Tryd.underlying3 w0) (trodAll_cons_mk (Below.trod laidOut (by kernel_rfl) (of_decide_eq_true (by kernel_rfl)) k1 bel lt1) trodAll_mk0)), rfl, bel.frame _, fun h => by cases h⟩

theorem over : Rows.posetGraphRow.holds Tryd.pinned (OpenSpec.ofChange Rows.posetGraphSpec) :=
  OpenClaim.holds_of_wide 11 Tryd.f11 rfl rfl rfl rfl rfl rfl rfl ⟨rfl, rfl, rfl, rfl, rfl⟩ rfl rfl rfl rfl rfl (by kernel_rfl) Tryd.func11 (by kernel_rfl)
    (of_decide_eq_true (by kernel_rfl)) (by unfold Func.isWrapper; first | (rw [if_pos (by decide +kernel)]; kernel_rfl) | (rw [if_neg (by decide +kernel)]; exact ⟨rfl, rfl⟩))
    (fun os started H enc _ => lifted os started H enc)


/-! ### THE CARD -/
theorem cardHolds : Rows.PosetGraphCardSaid :=
  Claim7.holds_tied_plain_at .later [] [.data] true (true, "69b8748036c1ab40a488c13c974df10cd19b3b935a840f5165b1f86c23c10982") true
    over (fun _ h => by cases h) (by kernel_rfl) (fun _ h => by cases h) posetGraph_row_tie rfl ⟨rfl, rfl⟩ (by kernel_rfl) rfl
    (fun f fn hf hfn => by
      obtain rfl : f = 11 := Option.some.inj ((show Tryd.prog.funcNamed "simproof/simprooflaw04.PosetGraph" = some 11 by kernel_rfl).symm.trans hf) |>.symm
      obtain rfl : fn = Tryd.f11 := (Option.some.inj (Tryd.func11.symm.trans hfn)).symm
      exact ⟨by kernel_rfl, fun j t ht => by
        rw [Tryd.params11] at ht
        have hm : t ∈ [3, 22] := by simpa using Array.mem_of_getElem? ht
        have hall : ([3, 22].all fun u => !Tryd.prog.wantsStandIn u) = true := by kernel_rfl
        exact (show Tryd.prog.wantsStandIn t = false by simpa using List.all_eq_true.1 hall t hm)⟩)
    (by kernel_rfl)
end Go.Proofs.YtlgdcbhdmffnoaaDoor.posetGraph
