/-
  The walk of GraphTopo: the program's order is the reference's.
  The tied card of the statement GraphTopo: for every input the law answers true and leaves its arguments as they were; the condition is the listed table of math/bits, which the card ties to the program's text. The frame of this proof was written by the guide's program, the walk is the text LawGraphTopo's.
-/
import Derived.Test.YtjbmmagaeaphoaaDoorK17
import Derived.Test.YtjbmmagaeaphoaaDoorK6
import Derived.Test.YtjbmmagaeaphoaaDoorK7
import Derived.Test.YtjbmmagaeaphoaaDoorK2
import Derived.Test.YtjbmmagaeaphoaaDoorRows
import Derived.Test.YtjbmmagaeaphoaaDoorCards
import Derived.Test.YtjbmmagaeaphoaaDoorTie
import Derived.Test.YtjbmmagaeaphoaaDoorK8
import Derived.SevenTiedPlain
import Derived.SevenTiedAt
import Derived.WalkKit
import Derived.ProofKit
import Derived.OpenShut
import Derived.ShutString
import Derived.ChangeOld
import Derived.Below

namespace Go.Proofs.YtjbmmagaeaphoaaDoor.LawGraphTopo
open Go Go.RowKit Go.Proofs Go.Proofs.YtjbmmagaeaphoaaDoor

/-- What the list of lists holds. -/
def Two (W : World) (ga : Nat) (v1 v2 : Value) : Prop := W.heap[ga]? = some (.cells #[v1, v2] 24 (0, 0))
set_option maxRecDepth 100000 in
set_option maxHeartbeats 4000000 in
theorem walk (a0 : Int) (a1 : Option Addr) (len1 cap1 : Nat) (z1 : List Int) (w : World) (w0 : (Lit.int .i64 a0).wf = true) (w1 : Row .i64 w a1 len1 cap1 z1) (hT : Tab w) :
    Calls Tryd.prog 3 #[.int .i64 a0, .slice a1 len1 cap1] w fun e w' => e = .returned (.bool true) ∧ Below w.heap.size w w' := by
  have htb : 0 < w.heap.size := World.block_lt_of_cell? w _ (hT 0 (by omega))
  have hn : I64 a0 := by have := bounds_i64 w0; unfold I64; omega
  obtain ⟨hx, _, _, hz⟩ := w1.ints
  obtain ⟨zs, hzs⟩ : ∃ zs, z1.take len1 = zs := ⟨_, rfl⟩
  rw [hzs] at hx hz
  have hz64 := i64_of hz
  have HS := Lib.hid (size_any a0 hn w)
  obtain ⟨k, hk⟩ : ∃ k, sizeN a0 = k := ⟨_, rfl⟩
  have hk10 : k < 10 := by rw [← hk]; exact sizeN_lt a0
  rw [hk] at HS
  obtain ⟨E, hE⟩ : ∃ E, edgesL k zs = E := ⟨_, rfl⟩
  have hEl := edgesL_len k zs
  have hEd := edgesL_lt k zs
  have HED := Lib.hid (edges_any k len1 cap1 a1 zs w (by omega) hx hz64)
  have HFW := Lib.hid (fun (W : World) (hB : Below w.heap.size w W) => forward_any k len1 cap1 a1 zs W (by omega) ((hx.below hB).more hB.size) hz64)
  rw [hE] at hEl hEd HED
  have hFl : (fwdL E).length ≤ 18 := by unfold fwdL; rw [List.length_mapIdx]; exact hEl
  have hFd := fwdL_lt hEd
  obtain ⟨F, hF⟩ : ∃ F, fwdL E = F := ⟨_, rfl⟩
  rw [hE, hF] at HFW
  rw [hF] at hFl hFd
  have HT := Lib.hid hT
  have HEd := Lib.hid hEd
  have HFd := Lib.hid hFd
  clear hx hz hz64 hzs w1 w0 hk hE hF hEd hFd hT
  go_enter Tryd.func3, Tryd.ntmps3
  go_wp2_with (first
    | (go_at_call 11
       refine HS.out.mono ?_
       rintro e w2 ⟨rfl, rfl⟩)
    | (go_at_call 12
       refine HED.out.mono ?_
       rintro e w3 ⟨v3, rfl, ho3, hB3⟩
       obtain ⟨A3, c3, rfl, _, _⟩ := ho3.slice
       have HO3 := Lib.hid ho3
       have HB3 := Lib.hid hB3
       have hs3 := hB3.size
       have HF3 := Lib.hid (HFW.out w3 hB3)
       clear ho3 hB3)
    | (go_at_call 13
       refine HF3.out.mono ?_
       rintro e w4 ⟨v4, rfl, ho4, hB4⟩
       obtain ⟨A4, c4, rfl, _, _⟩ := ho4.slice
       have HO4 := Lib.hid ho4
       have HB4 := Lib.hid hB4
       have hs4 := hB4.size
       clear ho4 hB4))
  obtain ⟨w5, hw5⟩ : ∃ W, w4.alloc (.cells #[.slice A3 E.length c3, .slice A4 F.length c4] 24) = W := ⟨_, rfl⟩
  obtain ⟨ga, hga⟩ : ∃ g, w4.heap.size = g := ⟨_, rfl⟩
  have hblk : w5.heap[ga]? = some (.cells #[.slice A3 E.length c3, .slice A4 F.length c4] 24 (0, 0)) := by rw [← hw5, ← hga]; exact World.alloc_heap_new w4 _
  have hsz5 : w5.heap.size = ga + 1 := by rw [← hw5, ← hga]; simp
  have hB45 : Below w4.heap.size w4 w5 := by rw [← hw5]; exact (Below.refl _ _).alloc (Nat.le_refl _) _
  have hB35 : Below w3.heap.size w3 w5 := HB4.out.trans (hB45.mono hs4)
  have hB25 : Below w2.heap.size w2 w5 := HB3.out.trans (hB35.mono hs3)
  have hE5 := (HO3.out.edg).2.below hB35
  have hF5 := (HO4.out.edg).2.below hB45
  have hch : ∀ i, i < 2 → ∃ A m c D, w5.cell? ⟨ga, i, none⟩ = some (.slice A m c) ∧ Edg w5 w5.heap.size A m D ∧ m ≤ 18 ∧ ∀ e ∈ D, e.1 < k ∧ e.2 < k := by
    intro i hi
    rcases Nat.eq_zero_or_pos i with e | e
    · subst e
      exact ⟨A3, _, c3, E, cell_of_row w5 ga 0 _ _ (0, 0) hblk, hE5.more hB35.size, hEl, HEd.out⟩
    · obtain rfl : i = 1 := by omega
      exact ⟨A4, _, c4, F, cell_of_row w5 ga 1 _ _ (0, 0) hblk, hF5.more hB45.size, hFl, HFd.out⟩
  have HCH := Lib.hid hch
  have HB25 := Lib.hid hB25
  rw [hw5, hga]
  clear hch hblk hB45 hB35 hB25 hE5 hF5 hw5
  go_loopw [7] (fun i wr => ∃ j : Nat, j ≤ 2 ∧ i = .int .i64 j ∧ Below w5.heap.size w5 wr) (fun i _ => 2 - (intOf i).toNat)
  case atStart => exact ⟨0, by omega, rfl, Below.refl _ _⟩
  case round =>
    obtain ⟨j, hj, rfl, hB⟩ := hrel
    obtain ⟨wo, hwo⟩ : ∃ W, W = wr := ⟨_, rfl⟩
    subst hwo
    have hB25r := HB25.out.trans (hB.mono HB25.out.size)
    have hszr := hB.size
    by_cases hlt : j < 2
    · obtain ⟨A, m, c, D, hc, hD, hm, hd⟩ := HCH.out j hlt
      have hc6 := (hB.cell (p := ⟨ga, j, none⟩) (by show ga < _; omega)).trans hc
      have hD6 := (hD.below hB).more hszr
      have HTO := Lib.hid (topo_any sort_own compact_own k m c A D wo (by omega) (by omega) hD6 hd)
      have HRT := Lib.hid (fun (W : World) (hb : Below wo.heap.size wo W) => reftopo_any wo.heap.size k m c A D W (by omega) (by omega) hb.size (hD6.below hb) hd)
      obtain ⟨b, hb⟩ : ∃ b, decide ((topoL (succs k D)).length = k) = b := ⟨_, rfl⟩
      obtain ⟨R, hR⟩ : ∃ R, topoR (succs k D) = R := ⟨_, rfl⟩
      have hRl : R.length ≤ 1000 := by
        rw [← hR]
        unfold topoR
        split
        · rename_i h
          rw [h, succs_len]
          omega
        · simp
      rw [hb, hR] at HTO HRT
      have hbb : (b != b) = false := by simp
      have HB := Lib.hid hB
      clear hc hD hD6 hd hb hR hB
      go_wp2_with (first
        | (go_at_call 14
           refine HTO.out.mono ?_
           rintro e w7 ⟨v7, rfl, ho7, hB7⟩
           have HO7 := Lib.hid ho7
           have HB7 := Lib.hid hB7
           have HR7 := Lib.hid (HRT.out w7 hB7)
           have hc7 := (hB7.cell (p := ⟨ga, j, none⟩) (by show ga < _; omega)).trans hc6
           obtain ⟨A7, c7, rfl, _, _⟩ := ho7.slice
           have hs7 := hB7.size
           clear ho7 hB7)
        | (go_at_call 15
           refine HR7.out.mono ?_
           rintro e w8 ⟨v8, rfl, ho8, hB8⟩
           obtain ⟨A8, c8, rfl, _, _⟩ := ho8.slice
           have hs8 := hB8.size
           have h7 : Own w8 wo.heap.size (.slice A7 R.length c7) R := HO7.out.keep fun b hb => hB8.block b (HO7.out.lt b hb).2
           have HSA := Lib.hid (sameInts_any A7 A8 R.length R.length c7 c8 _ _ w8 (Ints.of_owned h7) (Ints.of_owned ho8) (by omega))
           rw [decide_eq_true rfl] at HSA
           have HB8 := Lib.hid (HB7.out.trans (hB8.mono hs7))
           clear ho8 hB8 h7)
        | (go_at_call 16
           refine HSA.out.mono ?_
           rintro e w9 ⟨rfl, hB9⟩
           have HB9 := Lib.hid (HB8.out.trans (hB9.mono (by omega)))
           clear hB9))
      go_roundw
      case rel => exact ⟨j + 1, by omega, by go_num, HB.out.trans (HB9.out.mono hszr)⟩
      case measure => simp [intOf]; omega
    · have HLV := Lib.hid (lives_any wo (HT.out.keep (hB25r.block _ htb)))
      have HB := Lib.hid hB25r
      have hs2 := hB25r.size
      clear hB hB25r
      go_wp2_with (go_at_call 17
                   refine HLV.out.mono ?_
                   rintro e w10 ⟨rfl, hB10⟩)
      go_ret
      exact ⟨rfl, HB.out.trans (hB10.mono hs2)⟩
end Go.Proofs.YtjbmmagaeaphoaaDoor.LawGraphTopo

namespace Go.Proofs.YtjbmmagaeaphoaaDoor.graphTopo
open Go.ChangeShapes Go.WideShapes Go.ChangeAt Go.RowKit
open Go.ChangeMaps (open_string shut_string)
set_option linter.unusedVariables false

theorem own : ownKnob Tryd.prog.godebug = none := by kernel_rfl
theorem laidOut : laidOutB Tryd.prog = true := by kernel_rfl

/-- WHAT THE WALK IS TOLD OF A SLICE OF INTEGERS THAT CAME IN: it is nil; or it leads to a row of 'cap' cells, the numbers 'zs' (the first 'len' are its elements, the rest its spare room), each fitting its kind. -/
def IsRow (k : IntKind) (w : World) (a : Option Addr) (len cap : Nat) (zs : List Int) : Prop :=
  (a = none ∧ len = 0 ∧ cap = 0 ∧ zs = []) ∨
  ∃ x, a = some x ∧ len ≤ cap ∧ cap ≤ maxLen ∧ zs.length = cap ∧ (∀ i, i < zs.length → w.cell? (x.add i) = some (.int k (zs.getD i 0))) ∧ ∀ n ∈ zs, (Lit.int k n).wf = true

/-! ### STEP 1: THE WALK: the Go text returns true, AND WRITES NOTHING THAT WAS THERE: 'Below w.heap.size w w'' (Derived/Below.lean: '.refl', '.alloc', '.drew', '.setCell' at a new block, '.trans'). Open each 'IsRow' by 'rcases' AHEAD of 'go_enter'; part every test ahead of the walk. -/
theorem walk (a0 : Int) (a1 : Option Addr) (len1 cap1 : Nat) (z1 : List Int) (w : World) (w0 : (Lit.int .i64 a0).wf = true) (w1 : IsRow .i64 w a1 len1 cap1 z1) (hT : Tab w) :
    Calls Tryd.prog 3 #[.int .i64 a0, .slice a1 len1 cap1] w fun e w' => e = .returned (.bool true) ∧ Below w.heap.size w w' := by
  exact LawGraphTopo.walk a0 a1 len1 cap1 z1 w w0 w1 hT

/-! ### THE ROW's STEP: WRITTEN OUT: LEAVE IT -/
set_option maxRecDepth 100000 in
theorem lifted (os : Os) (started : os.Started) (H : Type) (enc : TypeId × Value → H) :
    ReturnsInHanded {} Tryd.checked os 3 .any (fun w args => (Rows.graphTopoSpec.pre enc Tryd.prog Tryd.f3 [] false w args ∧ laidMetH Tryd.prog laidT w) ∧ sizedMet enc Tryd.prog Tryd.f3 (OpenSpec.ofChange Rows.graphTopoSpec) false w args)
      (Rows.graphTopoSpec.post enc Tryd.prog Tryd.f3 false true false false) := by
  refine returnsInHanded_of_change_and (C := Tryd.checked) (X := fun w _ => laidMetH Tryd.prog laidT w) (fun _ _ _ hh h => h.of_heap hh) own started (by kernel_rfl) Tryd.func3
    (ChangeSpec.witness_shaped (enc := enc) (C := Tryd.checked) (os := os) (X := fun w _ => laidMetH Tryd.prog laidT w) false (World.doorLaid Tryd.prog 14 os) #[.int .i64 0, .slice none 0 0] 8 rfl (World.shaped_of_RefB (by kernel_rfl) (by kernel_rfl)) (by kernel_rfl) (by kernel_rfl) (by kernel_rfl) (door_met os _)) ?_
  intro W base args ds gs before hval0 hW _ _ hL _
  have hval : ∀ (j : Nat) t v, Tryd.f3.params[j]? = some t → args[j]? = some v → Value.okWide Tryd.prog W .any base t v := hval0
  have hW' := hW
  obtain ⟨p, q, hA0, hV, rfl, hfz, hnd⟩ := hW
  have hA : DataW.TrodAll enc Tryd.prog W 0 (fun _ => true) true Tryd.f3.params.toList args.toList ds p := hA0
  rw [Tryd.params3] at hA hval
  obtain ⟨v0, vs0, d0, ds0, p0, q0, hargs, rfl, rfl, h0, r0⟩ := trodAll_cons hA
  obtain ⟨v1, vs1, d1, ds1, p1, q1, rfl, rfl, rfl, h1, r1⟩ := trodAll_cons r0
  obtain ⟨rfl, rfl, rfl⟩ := trodAll_nil r1
  obtain rfl : args = #[v0, v1] := by cases args; simp_all
  obtain ⟨rfl, rfl⟩ := trodVars_none hV
  obtain ⟨a0, rfl, rfl, rfl, w0⟩ := open_int Tryd.underlying3 (hval 0 3 v0 rfl rfl) h0
  obtain ⟨a1, len1, cap1, rfl⟩ := okWide_slice Tryd.underlying22 (hval 1 22 v1 rfl rfl)
  have k1 := h1
  have lt1 : ∀ x ∈ p1, x.block < W.heap.size := by obtain ⟨m, hm⟩ := k1; exact DataW.trod_lt m _ _ _ hm
  obtain ⟨z1, w1⟩ : ∃ zs, IsRow .i64 W a1 len1 cap1 zs := by
    obtain ⟨fuel, hf⟩ := h1
    rcases open_ints Tryd.underlying22 Tryd.underlying3 (by kernel_rfl) hf with ⟨hcs, _⟩ | ⟨x, l, c, zs, hcs, _, hl, hm, hz, _, hcell, hwz⟩
    · simp [Value.cells] at hcs
      obtain ⟨rfl, rfl, rfl⟩ := hcs
      exact ⟨[], .inl ⟨rfl, rfl, rfl, rfl⟩⟩
    · simp [Value.cells] at hcs
      obtain ⟨rfl, rfl, rfl⟩ := hcs
      exact ⟨zs, .inr ⟨_, rfl, hl, hm, by simpa using hz, hcell, hwz⟩⟩
  clear hA0 hval0
  refine (walk a0 a1 len1 cap1 z1 W w0 w1 (of_laid hL)).mono fun e W' ⟨he, bel⟩ => ?_
  subst he
  exact ⟨_, rfl, _, _, _, [], _, [], hW', trodAll_mk1 (shut_bool Tryd.underlying4 _), (trodAll_cons_mk (shut_int Tryd.underlying3 w0) (trodAll_cons_mk (Below.trod laidOut (by kernel_rfl) (of_decide_eq_true (by kernel_rfl)) k1 bel lt1) trodAll_mk0)), rfl, bel.frame _, fun h => by cases h⟩

theorem over : Rows.graphTopoRow.holds Tryd.pinned (OpenSpec.ofChange Rows.graphTopoSpec) :=
  OpenClaim.holds_of_wide 3 Tryd.f3 rfl rfl rfl rfl rfl rfl rfl ⟨rfl, rfl, rfl, rfl, rfl⟩ rfl rfl rfl rfl rfl (by kernel_rfl) Tryd.func3 (by kernel_rfl)
    (of_decide_eq_true (by kernel_rfl)) (by unfold Func.isWrapper; first | (rw [if_pos (by decide +kernel)]; kernel_rfl) | (rw [if_neg (by decide +kernel)]; exact ⟨rfl, rfl⟩))
    (fun os started H enc _ => lifted os started H enc)


/-! ### THE CARD -/
theorem cardHolds : Rows.GraphTopoCardSaid :=
  Claim7.holds_tied_plain_at .later [] [.data] true (true, "fb1c7afc0f795047f9d06904fdd55d6c9f5b6031f2a9367aa7dd34fb37da98a6") true
    over (fun _ h => by cases h) (by kernel_rfl) (fun _ h => by cases h) graphTopo_row_tie rfl ⟨rfl, rfl⟩ (by kernel_rfl) rfl
    (fun f fn hf hfn => by
      obtain rfl : f = 3 := Option.some.inj ((show Tryd.prog.funcNamed "simproof/simprooflaw03.GraphTopo" = some 3 by kernel_rfl).symm.trans hf) |>.symm
      obtain rfl : fn = Tryd.f3 := (Option.some.inj (Tryd.func3.symm.trans hfn)).symm
      exact ⟨by kernel_rfl, fun j t ht => by
        rw [Tryd.params3] at ht
        have hm : t ∈ [3, 22] := by simpa using Array.mem_of_getElem? ht
        have hall : ([3, 22].all fun u => !Tryd.prog.wantsStandIn u) = true := by kernel_rfl
        exact (show Tryd.prog.wantsStandIn t = false by simpa using List.all_eq_true.1 hall t hm)⟩)
    (by kernel_rfl)
end Go.Proofs.YtjbmmagaeaphoaaDoor.graphTopo
