/-
  The walk of GraphCycle: the program's cycle is the reference's.
  The tied card of the statement GraphCycle: for every input the law answers true and leaves its arguments as they were; the condition is the listed table of math/bits, which the card ties to the program's text. The frame of this proof was written by the guide's program, the walk is the text LawGraphCycle's.
-/
import Derived.Test.YtjbmmagaeaphoaaDoorK17
import Derived.Test.YtjbmmagaeaphoaaDoorK6
import Derived.Test.YtjbmmagaeaphoaaDoorK26
import Derived.Test.YtjbmmagaeaphoaaDoorK20
import Derived.Test.YtjbmmagaeaphoaaDoorK2
import Derived.Test.YtjbmmagaeaphoaaDoorRows
import Derived.Test.YtjbmmagaeaphoaaDoorCards
import Derived.Test.YtjbmmagaeaphoaaDoorTie
import Derived.Test.YtjbmmagaeaphoaaDoorK8
import Derived.SevenTiedPlain
import Derived.SevenTiedAt
import Derived.WalkKit
import Derived.ProofKit
import Derived.OpenShut
import Derived.ShutString
import Derived.ChangeOld
import Derived.Below

namespace Go.Proofs.YtjbmmagaeaphoaaDoor.LawGraphCycle
open Go Go.RowKit Go.Proofs Go.Proofs.YtjbmmagaeaphoaaDoor

set_option maxRecDepth 100000 in
set_option maxHeartbeats 4000000 in
theorem walk (a0 : Int) (a1 : Option Addr) (len1 cap1 : Nat) (z1 : List Int) (w : World) (w0 : (Lit.int .i64 a0).wf = true) (w1 : Row .i64 w a1 len1 cap1 z1) (hT : Tab w) :
    Calls Tryd.prog 5 #[.int .i64 a0, .slice a1 len1 cap1] w fun e w' => e = .returned (.bool true) ∧ Below w.heap.size w w' := by
  have htb : 0 < w.heap.size := World.block_lt_of_cell? w _ (hT 0 (by omega))
  have hn : I64 a0 := by have := bounds_i64 w0; unfold I64; omega
  obtain ⟨hx, _, _, hz⟩ := w1.ints
  obtain ⟨zs, hzs⟩ : ∃ zs, z1.take len1 = zs := ⟨_, rfl⟩
  rw [hzs] at hx hz
  have hz64 := i64_of hz
  have HS := Lib.hid (size_any a0 hn w)
  obtain ⟨k, hk⟩ : ∃ k, sizeN a0 = k := ⟨_, rfl⟩
  have hk10 : k < 10 := by rw [← hk]; exact sizeN_lt a0
  rw [hk] at HS
  obtain ⟨E, hE⟩ : ∃ E, edgesL k zs = E := ⟨_, rfl⟩
  have hEl := edgesL_len k zs
  have hEd := edgesL_lt k zs
  have HED := Lib.hid (edges_any k len1 cap1 a1 zs w (by omega) hx hz64)
  have HFW := Lib.hid (fun (W : World) (hB : Below w.heap.size w W) => forward_any k len1 cap1 a1 zs W (by omega) ((hx.below hB).more hB.size) hz64)
  rw [hE] at hEl hEd HED
  have hFl : (fwdL E).length ≤ 18 := by unfold fwdL; rw [List.length_mapIdx]; exact hEl
  have hFd := fwdL_lt hEd
  obtain ⟨F, hF⟩ : ∃ F, fwdL E = F := ⟨_, rfl⟩
  rw [hE, hF] at HFW
  rw [hF] at hFl hFd
  have HT := Lib.hid hT
  have HEd := Lib.hid hEd
  have HFd := Lib.hid hFd
  clear hx hz hz64 hzs w1 w0 hk hE hF hEd hFd hT
  go_enter Tryd.func5, Tryd.ntmps5
  go_wp2_with (first
    | (go_at_call 11
       refine HS.out.mono ?_
       rintro e w2 ⟨rfl, rfl⟩)
    | (go_at_call 12
       refine HED.out.mono ?_
       rintro e w3 ⟨v3, rfl, ho3, hB3⟩
       obtain ⟨A3, c3, rfl, _, _⟩ := ho3.slice
       have HB3 := Lib.hid hB3
       have hs3 := hB3.size
       have HE3 := Lib.hid (ho3.edg).2
       have HF3 := Lib.hid (HFW.out w3 hB3)
       clear ho3 hB3)
    | (go_at_call 13
       refine HF3.out.mono ?_
       rintro e w4 ⟨v4, rfl, ho4, hB4⟩
       obtain ⟨A4, c4, rfl, _, _⟩ := ho4.slice
       have HB4 := Lib.hid (HB3.out.trans (hB4.mono hs3))
       have hs4 := hB4.size
       have HF4 := Lib.hid (ho4.edg).2
       have HE4 := Lib.hid ((HE3.out.below hB4).more hs4)
       have HC1 := Lib.hid (cycle_is k _ c3 A3 E w4 (by omega) (by omega) HE4.out HEd.out (HT.out.keep (HB4.out.block _ htb)))
       clear ho4 hB4)
    | (go_at_call 21
       refine HC1.out.mono ?_
       rintro e x1 ⟨v1a, C1, rfl, hi1, ha1, hB1a⟩
       obtain ⟨A1a, c1a, rfl, _, _⟩ := ha1.slice
       have hs1a := hB1a.size
       have HB1a := Lib.hid (HB4.out.trans (hB1a.mono (by omega)))
       have HA1 := Lib.hid ha1
       have HI1 := Lib.hid hi1
       have hl1 := cyc_len hi1
       have HR1 := Lib.hid (refcyc_any w4.heap.size k _ c3 A3 E x1 (by omega) (by omega) hs1a (HE4.out.below hB1a))
       have HBX1 := Lib.hid hB1a
       clear ha1 hB1a hi1 HC1)
    | (go_at_call 22
       refine HR1.out.mono ?_
       rintro e y1 ⟨v1b, D1, rfl, hj1, hb1, hB1b⟩
       obtain rfl := HI1.out.same hj1
       obtain ⟨A1b, c1b, rfl, _, _⟩ := hb1.slice
       have hs1b := hB1b.size
       have HB1b := Lib.hid (HB1a.out.trans (hB1b.mono (by omega)))
       have HS1 := Lib.hid (same_own y1 _ _ c1a c1b A1a A1b C1 (HA1.out.keep fun b hb => hB1b.block b (HA1.out.lt b hb).2) hb1 (by omega))
       have HBY1 := Lib.hid (HBX1.out.trans (hB1b.mono hs1a))
       clear hb1 hB1b hj1 HR1)
    | (go_at_call 16
       refine HS1.out.mono ?_
       rintro e z1 ⟨rfl, hB1c⟩
       have hs1c := hB1c.size
       have HB1c := Lib.hid (HB1b.out.trans (hB1c.mono (by omega)))
       have HBZ1 := Lib.hid (HBY1.out.trans (hB1c.mono (by omega)))
       have HF5 := Lib.hid (show Edg z1 z1.heap.size A4 F.length F from (HF4.out.below HBZ1.out).more (by omega))
       have HC2 := Lib.hid (cycle_is k _ c4 A4 F z1 (by omega) (by omega) HF5.out HFd.out (HT.out.keep (HB1c.out.block _ htb)))
       clear hB1c HS1)
    | (go_at_call 21
       refine HC2.out.mono ?_
       rintro e x2 ⟨v2a, C2, rfl, hi2, ha2, hB2a⟩
       obtain ⟨A2a, c2a, rfl, _, _⟩ := ha2.slice
       have hs2a := hB2a.size
       have HB2a := Lib.hid (HB1c.out.trans (hB2a.mono (by omega)))
       have HA2 := Lib.hid ha2
       have HI2 := Lib.hid hi2
       have hl2 := cyc_len hi2
       have HR2 := Lib.hid (refcyc_any z1.heap.size k _ c4 A4 F x2 (by omega) (by omega) hs2a (HF5.out.below hB2a))
       have HBX2 := Lib.hid hB2a
       clear ha2 hB2a hi2 HC2)
    | (go_at_call 22
       refine HR2.out.mono ?_
       rintro e y2 ⟨v2b, D2, rfl, hj2, hb2, hB2b⟩
       obtain rfl := HI2.out.same hj2
       obtain ⟨A2b, c2b, rfl, _, _⟩ := hb2.slice
       have hs2b := hB2b.size
       have HB2b := Lib.hid (HB2a.out.trans (hB2b.mono (by omega)))
       have HS2 := Lib.hid (same_own y2 _ _ c2a c2b A2a A2b C2 (HA2.out.keep fun b hb => hB2b.block b (HA2.out.lt b hb).2) hb2 (by omega))
       have HBY2 := Lib.hid (HBX2.out.trans (hB2b.mono hs2a))
       clear hb2 hB2b hj2 HR2)
    | (go_at_call 16
       refine HS2.out.mono ?_
       rintro e z2 ⟨rfl, hB2c⟩
       have hs2c := hB2c.size
       have HB2c := Lib.hid (HB2b.out.trans (hB2c.mono (by omega)))
       have HLV := Lib.hid (lives_any z2 (HT.out.keep (HB2c.out.block _ htb)))
       clear hB2c HS2)
    | (go_at_call 17
       refine HLV.out.mono ?_
       rintro e w11 ⟨rfl, hB11⟩
       have HB11 := Lib.hid (HB2c.out.trans (hB11.mono (by omega)))
       clear hB11))
  go_ret
  exact ⟨rfl, HB11.out⟩
end Go.Proofs.YtjbmmagaeaphoaaDoor.LawGraphCycle

namespace Go.Proofs.YtjbmmagaeaphoaaDoor.graphCycle
open Go.ChangeShapes Go.WideShapes Go.ChangeAt Go.RowKit
open Go.ChangeMaps (open_string shut_string)
set_option linter.unusedVariables false

theorem own : ownKnob Tryd.prog.godebug = none := by kernel_rfl
theorem laidOut : laidOutB Tryd.prog = true := by kernel_rfl

/-- WHAT THE WALK IS TOLD OF A SLICE OF INTEGERS THAT CAME IN: it is nil; or it leads to a row of 'cap' cells, the numbers 'zs' (the first 'len' are its elements, the rest its spare room), each fitting its kind. -/
def IsRow (k : IntKind) (w : World) (a : Option Addr) (len cap : Nat) (zs : List Int) : Prop :=
  (a = none ∧ len = 0 ∧ cap = 0 ∧ zs = []) ∨
  ∃ x, a = some x ∧ len ≤ cap ∧ cap ≤ maxLen ∧ zs.length = cap ∧ (∀ i, i < zs.length → w.cell? (x.add i) = some (.int k (zs.getD i 0))) ∧ ∀ n ∈ zs, (Lit.int k n).wf = true

/-! ### STEP 1: THE WALK: the Go text returns true, AND WRITES NOTHING THAT WAS THERE: 'Below w.heap.size w w'' (Derived/Below.lean: '.refl', '.alloc', '.drew', '.setCell' at a new block, '.trans'). Open each 'IsRow' by 'rcases' AHEAD of 'go_enter'; part every test ahead of the walk. -/
theorem walk (a0 : Int) (a1 : Option Addr) (len1 cap1 : Nat) (z1 : List Int) (w : World) (w0 : (Lit.int .i64 a0).wf = true) (w1 : IsRow .i64 w a1 len1 cap1 z1) (hT : Tab w) :
    Calls Tryd.prog 5 #[.int .i64 a0, .slice a1 len1 cap1] w fun e w' => e = .returned (.bool true) ∧ Below w.heap.size w w' := by
  exact LawGraphCycle.walk a0 a1 len1 cap1 z1 w w0 w1 hT

/-! ### THE ROW's STEP: WRITTEN OUT: LEAVE IT -/
set_option maxRecDepth 100000 in
theorem lifted (os : Os) (started : os.Started) (H : Type) (enc : TypeId × Value → H) :
    ReturnsInHanded {} Tryd.checked os 5 .any (fun w args => (Rows.graphCycleSpec.pre enc Tryd.prog Tryd.f5 [] false w args ∧ laidMetH Tryd.prog laidT w) ∧ sizedMet enc Tryd.prog Tryd.f5 (OpenSpec.ofChange Rows.graphCycleSpec) false w args)
      (Rows.graphCycleSpec.post enc Tryd.prog Tryd.f5 false true false false) := by
  refine returnsInHanded_of_change_and (C := Tryd.checked) (X := fun w _ => laidMetH Tryd.prog laidT w) (fun _ _ _ hh h => h.of_heap hh) own started (by kernel_rfl) Tryd.func5
    (ChangeSpec.witness_shaped (enc := enc) (C := Tryd.checked) (os := os) (X := fun w _ => laidMetH Tryd.prog laidT w) false (World.doorLaid Tryd.prog 14 os) #[.int .i64 0, .slice none 0 0] 8 rfl (World.shaped_of_RefB (by kernel_rfl) (by kernel_rfl)) (by kernel_rfl) (by kernel_rfl) (by kernel_rfl) (door_met os _)) ?_
  intro W base args ds gs before hval0 hW _ _ hL _
  have hval : ∀ (j : Nat) t v, Tryd.f5.params[j]? = some t → args[j]? = some v → Value.okWide Tryd.prog W .any base t v := hval0
  have hW' := hW
  obtain ⟨p, q, hA0, hV, rfl, hfz, hnd⟩ := hW
  have hA : DataW.TrodAll enc Tryd.prog W 0 (fun _ => true) true Tryd.f5.params.toList args.toList ds p := hA0
  rw [Tryd.params5] at hA hval
  obtain ⟨v0, vs0, d0, ds0, p0, q0, hargs, rfl, rfl, h0, r0⟩ := trodAll_cons hA
  obtain ⟨v1, vs1, d1, ds1, p1, q1, rfl, rfl, rfl, h1, r1⟩ := trodAll_cons r0
  obtain ⟨rfl, rfl, rfl⟩ := trodAll_nil r1
  obtain rfl : args = #[v0, v1] := by cases args; simp_all
  obtain ⟨rfl, rfl⟩ := trodVars_none hV
  obtain ⟨a0, rfl, rfl, rfl, w0⟩ := open_int Tryd.underlying3 (hval 0 3 v0 rfl rfl) h0
  obtain ⟨a1, len1, cap1, rfl⟩ := okWide_slice Tryd.underlying22 (hval 1 22 v1 rfl rfl)
  have k1 := h1
  have lt1 : ∀ x ∈ p1, x.block < W.heap.size := by obtain ⟨m, hm⟩ := k1; exact DataW.trod_lt m _ _ _ hm
  obtain ⟨z1, w1⟩ : ∃ zs, IsRow .i64 W a1 len1 cap1 zs := by
    obtain ⟨fuel, hf⟩ := h1
    rcases open_ints Tryd.underlying22 Tryd.underlying3 (by kernel_rfl) hf with ⟨hcs, _⟩ | ⟨x, l, c, zs, hcs, _, hl, hm, hz, _, hcell, hwz⟩
    · simp [Value.cells] at hcs
      obtain ⟨rfl, rfl, rfl⟩ := hcs
      exact ⟨[], .inl ⟨rfl, rfl, rfl, rfl⟩⟩
    · simp [Value.cells] at hcs
      obtain ⟨rfl, rfl, rfl⟩ := hcs
      exact ⟨zs, .inr ⟨_, rfl, hl, hm, by simpa using hz, hcell, hwz⟩⟩
  clear hA0 hval0
  refine (walk a0 a1 len1 cap1 z1 W w0 w1 (of_laid hL)).mono fun e W' ⟨he, bel⟩ => ?_
  subst he
  exact ⟨_, rfl, _, _, _, [], _, [], hW', trodAll_mk1 (shut_bool Tryd.underlying4 _), (trodAll_cons_mk (shut_int Tryd.underlying3 w0) (trodAll_cons_mk (Below.trod laidOut (by kernel_rfl) (of_decide_eq_true (by kernel_rfl)) k1 bel lt1) trodAll_mk0)), rfl, bel.frame _, fun h => by cases h⟩

theorem over : Rows.graphCycleRow.holds Tryd.pinned (OpenSpec.ofChange Rows.graphCycleSpec) :=
  OpenClaim.holds_of_wide 5 Tryd.f5 rfl rfl rfl rfl rfl rfl rfl ⟨rfl, rfl, rfl, rfl, rfl⟩ rfl rfl rfl rfl rfl (by kernel_rfl) Tryd.func5 (by kernel_rfl)
    (of_decide_eq_true (by kernel_rfl)) (by unfold Func.isWrapper; first | (rw [if_pos (by decide +kernel)]; kernel_rfl) | (rw [if_neg (by decide +kernel)]; exact ⟨rfl, rfl⟩))
    (fun os started H enc _ => lifted os started H enc)


/-! ### THE CARD -/
theorem cardHolds : Rows.GraphCycleCardSaid :=
  Claim7.holds_tied_plain_at .later [] [.data] true (true, "fb1c7afc0f795047f9d06904fdd55d6c9f5b6031f2a9367aa7dd34fb37da98a6") true
    over (fun _ h => by cases h) (by kernel_rfl) (fun _ h => by cases h) graphCycle_row_tie rfl ⟨rfl, rfl⟩ (by kernel_rfl) rfl
    (fun f fn hf hfn => by
      obtain rfl : f = 5 := Option.some.inj ((show Tryd.prog.funcNamed "simproof/simprooflaw03.GraphCycle" = some 5 by kernel_rfl).symm.trans hf) |>.symm
      obtain rfl : fn = Tryd.f5 := (Option.some.inj (Tryd.func5.symm.trans hfn)).symm
      exact ⟨by kernel_rfl, fun j t ht => by
        rw [Tryd.params5] at ht
        have hm : t ∈ [3, 22] := by simpa using Array.mem_of_getElem? ht
        have hall : ([3, 22].all fun u => !Tryd.prog.wantsStandIn u) = true := by kernel_rfl
        exact (show Tryd.prog.wantsStandIn t = false by simpa using List.all_eq_true.1 hall t hm)⟩)
    (by kernel_rfl)
end Go.Proofs.YtjbmmagaeaphoaaDoor.graphCycle
