/-
  The walk of GraphReach: the program's vertices are the reference's.
  The tied card of the statement GraphReach: for every input the law answers true and leaves its arguments as they were; the condition is the listed table of math/bits, which the card ties to the program's text. The frame of this proof was written by the guide's program, the walk is the text LawGraphReach's.
-/
import Derived.Test.YtjbmmagaeaphoaaDoorK17
import Derived.Test.YtjbmmagaeaphoaaDoorK18
import Derived.Test.YtjbmmagaeaphoaaDoorK2
import Derived.Test.YtjbmmagaeaphoaaDoorRows
import Derived.Test.YtjbmmagaeaphoaaDoorCards
import Derived.Test.YtjbmmagaeaphoaaDoorTie
import Derived.Test.YtjbmmagaeaphoaaDoorK8
import Derived.SevenTiedPlain
import Derived.SevenTiedAt
import Derived.WalkKit
import Derived.ProofKit
import Derived.OpenShut
import Derived.ShutString
import Derived.ChangeOld
import Derived.Below

namespace Go.Proofs.YtjbmmagaeaphoaaDoor.LawGraphReach
open Go Go.RowKit Go.Proofs Go.Proofs.YtjbmmagaeaphoaaDoor

def fewOf (k : Nat) (zs : List Int) : List Int := zs.map fun z => around z ((k : Int) + 2) - 1
set_option maxRecDepth 100000 in
set_option maxHeartbeats 4000000 in
theorem walk (a0 : Int) (a1 : Option Addr) (len1 cap1 : Nat) (z1 : List Int) (a2 : Option Addr) (len2 cap2 : Nat) (z2 : List Int) (a3 : Int) (w : World) (w0 : (Lit.int .i64 a0).wf = true) (w1 : Row .i64 w a1 len1 cap1 z1) (w2 : Row .i64 w a2 len2 cap2 z2) (_ : (Lit.int .i64 a3).wf = true) (hT : Tab w) :
    Calls Tryd.prog 4 #[.int .i64 a0, .slice a1 len1 cap1, .slice a2 len2 cap2, .int .i64 a3] w fun e w' => e = .returned (.bool true) ∧ Below w.heap.size w w' := by
  obtain ⟨i0, hi0, hz0, hz1, hz2⟩ := info_parts info_int
  have htb : 0 < w.heap.size := World.block_lt_of_cell? w _ (hT 0 (by omega))
  have hn : I64 a0 := by have := bounds_i64 w0; unfold I64; omega
  obtain ⟨hx, _, _, hz⟩ := w1.ints
  obtain ⟨zs, hzs⟩ : ∃ zs, z1.take len1 = zs := ⟨_, rfl⟩
  rw [hzs] at hx hz
  have hz64 := i64_of hz
  obtain ⟨hy, _, _, hzy⟩ := w2.ints
  obtain ⟨ys, hys⟩ : ∃ ys, z2.take len2 = ys := ⟨_, rfl⟩
  rw [hys] at hy hzy
  have hy64 := i64_of hzy
  have HS := Lib.hid (size_any a0 hn w)
  obtain ⟨k, hk⟩ : ∃ k, sizeN a0 = k := ⟨_, rfl⟩
  have hk10 : k < 10 := by rw [← hk]; exact sizeN_lt a0
  rw [hk] at HS
  have hEl := edgesL_len k zs
  have hEd := edgesL_lt k zs
  have HED := Lib.hid (edges_any k len1 cap1 a1 zs w (by omega) hx hz64)
  obtain ⟨E, hE⟩ : ∃ E, edgesL k zs = E := ⟨_, rfl⟩
  rw [hE] at hEl hEd HED
  have HT := Lib.hid hT
  have HEd := Lib.hid hEd
  have HY := Lib.hid hy
  have HY64 := Lib.hid hy64
  have HYL := Lib.hid hy.len
  clear hx hz hz64 hzs w1 w0 hk hE hEd hT hy hzy hys hy64 w2
  go_enter Tryd.func4, Tryd.ntmps4
  go_wp2_with (first
    | (go_at_call 11
       refine HS.out.mono ?_
       rintro e w2 ⟨rfl, rfl⟩)
    | (go_at_call 12
       refine HED.out.mono ?_
       rintro e w3 ⟨v3, rfl, ho3, hB3⟩
       obtain ⟨A3, c3, rfl, _, _⟩ := ho3.slice
       have HO3 := Lib.hid ho3
       have HB3 := Lib.hid hB3
       have hs3 := hB3.size
       clear ho3 hB3))
  go_loopw [11, 12] (fun o i wr => ∃ j : Nat, j ≤ len2 ∧ j ≤ 6 ∧ i = .int .i64 j ∧ OwnI wr w3.heap.size o (fewOf k (ys.take j)) ∧ Below w3.heap.size w3 wr) (fun _ i _ => 6 - (intOf i).toNat)
  case atStart => exact ⟨0, Nat.zero_le _, by omega, rfl, ⟨rfl, .inl ⟨rfl, rfl⟩⟩, Below.refl _ _⟩
  case round =>
    obtain ⟨j, hjn, hj6, rfl, hown, hB⟩ := hrel
    obtain ⟨oA, oc, rfl, _, _⟩ := own_slice hown
    have hLj : (fewOf k (ys.take j)).length = j := by
      unfold fewOf
      rw [List.length_map, List.length_take, HYL.out]
      omega
    obtain ⟨L, hL⟩ : ∃ L, fewOf k (ys.take j) = L := ⟨_, rfl⟩
    rw [hL] at hLj hown ⊢
    have HL := Lib.hid hL
    rw [hLj] at hown ⊢
    have HLJ := Lib.hid hLj
    have HO := Lib.hid hown
    have hsz := hB.size
    obtain ⟨wo, hwo⟩ : ∃ W, W = wr := ⟨_, rfl⟩
    subst hwo
    clear hL hown hLj
    by_cases hc : j < len2 ∧ j < 6
    · obtain ⟨h1, h2⟩ := hc
      obtain ⟨b, off, rfl, hbb, hcs⟩ := HY.out.at_ (by omega)
      have hcj := ((HB3.out.trans (hB.mono hs3)).cell (p := ⟨b, off + j, none⟩) hbb).trans (hcs j h1)
      obtain ⟨z, hz⟩ : ∃ z, ys[j]?.getD 0 = z := ⟨_, rfl⟩
      rw [hz] at hcj
      have hzl : ys[j]? = some z := by
        rw [List.getElem?_eq_getElem (by rw [HYL.out]; exact h1)] at hz ⊢
        exact congrArg some hz
      have hain := around_in z ((k : Int) + 2) (by omega)
      have HAR := Lib.hid (around_any z ((k : Int) + 2) (HY64.out z (List.mem_of_getElem? hzl)) (by omega) (by omega) wo)
      obtain ⟨a, ha⟩ : ∃ a, around z ((k : Int) + 2) = a := ⟨_, rfl⟩
      rw [ha] at hain HAR
      have ha0 := hain.1
      have ha1 : a < 12 := by omega
      have HZ := Lib.hid (show ys.take (j + 1) = ys.take j ++ [z] from take_snoc' hzl)
      have HA := Lib.hid ha
      have HOA := Lib.hid (show (wo.alloc (.cells #[.int .i64 (a - 1)] 3)).ownsRow w3.heap.size 3 1 (.slice oA j oc) j (L.map (Value.int .i64)) from by
        have h4 := own_of_block (w' := wo.alloc (.cells #[.int .i64 (a - 1)] 3)) HO.out (fun b hb => Below.heap_alloc _ _ _ (World.ownsRow.lt HO.out b hb).2)
        rw [HLJ.out] at h4
        exact h4)
      clear hcs hz hzl ha hain
      go_wp2_with (first
        | (go_at_call 18
           refine HAR.out.mono ?_
           rintro e w5 ⟨rfl, rfl⟩)
        | (at_builtin
           refine wpList_append_lies _ rfl (.tmp 28) (.tmp 37) 22 rfl w3.heap.size 3 i0 _ 1 8 Tryd.underlying22 hi0 hz0 hz1 hz2 rfl (by decide) (.slice oA j oc) j (L.map (Value.int .i64)) rfl HOA.out ⟨_, 0, none⟩ 1 1 [.int .i64 (a - 1)] rfl rfl (fun j u hu => cell_one_new _ _ _ j u hu) (by simp [Value.oneCell']) (by decide) (by simp only [maxLen]; omega) (by omega) (by simp; omega) _ rfl ?_
           intro g7 c7 w7 hown7 hgrow7 hat7 hlt7
           have ho7 : OwnI w7 w3.heap.size (.slice (some ⟨g7, 0, none⟩) (j + 1) c7) (L ++ [a - 1]) := by
             unfold OwnI
             rw [List.length_append, HLJ.out, List.map_append]
             exact hown7
           have HO7 := Lib.hid ho7
           have HB7 := Lib.hid ((hB.alloc hsz _).grown hgrow7 (by simp; omega) (fun b e => (World.ownsRow.lt HO.out b e).1))
           clear ho7 hown7 hgrow7 hat7))
      go_roundw
      case rel =>
        refine ⟨j + 1, by omega, by omega, by go_num, ?_, HB7.out⟩
        have e : fewOf k (ys.take (j + 1)) = L ++ [a - 1] := by
          rw [HZ.out, ← HL.out]
          unfold fewOf
          rw [List.map_append, ← HA.out]
          rfl
        rw [e]
        exact HO7.out
      case measure => simp [intOf]; omega
    · have HOA := Lib.hid (show (wo.alloc (.cells #[.int .i64 a3] 3)).ownsRow w3.heap.size 3 1 (.slice oA j oc) j (L.map (Value.int .i64)) from by
        have h4 := own_of_block (w' := wo.alloc (.cells #[.int .i64 a3] 3)) HO.out (fun b hb => Below.heap_alloc _ _ _ (World.ownsRow.lt HO.out b hb).2)
        rw [HLJ.out] at h4
        exact h4)
      have hor : ¬ j < len2 ∨ (j < len2 ∧ ¬ j < 6) := by omega
      clear hc
      rcases hor with h1 | ⟨h1, h2⟩
      all_goals
        go_wp2_with (first
          | (at_builtin
             refine wpList_append_lies _ rfl (.tmp 39) (.tmp 41) 22 rfl w3.heap.size 3 i0 _ 1 8 Tryd.underlying22 hi0 hz0 hz1 hz2 rfl (by decide) (.slice oA j oc) j (L.map (Value.int .i64)) rfl HOA.out ⟨_, 0, none⟩ 1 1 [.int .i64 a3] rfl rfl (fun j u hu => cell_one_new _ _ _ j u hu) (by simp [Value.oneCell']) (by decide) (by simp only [maxLen]; omega) (by omega) (by simp; omega) _ rfl ?_
             intro g7 c7 w7 hown7 hgrow7 hat7 hlt7
             have ho7 : OwnI w7 w3.heap.size (.slice (some ⟨g7, 0, none⟩) (j + 1) c7) (L ++ [a3]) := by
               unfold OwnI
               rw [List.length_append, HLJ.out, List.map_append]
               exact hown7
             have hB7 := (hB.alloc hsz (.cells #[.int .i64 a3] 3)).grown hgrow7 (by simp; omega) (fun b e => (World.ownsRow.lt HO.out b e).1)
             have hs7 := hB7.size
             have hF7 : Ints .i64 w7.heap.size w7 (some ⟨g7, 0, none⟩) (j + 1) (L ++ [a3]) := Ints.of_own (base := w3.heap.size) (size := 1) (c := c7) rfl (by
               have h := ho7
               unfold OwnI at h
               rw [List.length_append, HLJ.out] at h
               exact h)
             have hE7 := ((HO3.out.edg).2.below hB7).more hs7
             have HRE := Lib.hid (reach_is k _ c3 _ c7 A3 _ E _ w7 (by omega) (by omega) hE7 HEd.out hF7 (by omega))
             have HRR := Lib.hid (fun (W : World) (hb : Below w7.heap.size w7 W) => refreach_any w7.heap.size k _ c3 _ c7 A3 _ E _ W (by omega) (by omega) hb.size (hE7.below hb) HEd.out (hF7.below hb) (by omega))
             have hRl := rset_len (succs k E) (fromV k (L ++ [a3]))
             rw [succs_len] at hRl
             obtain ⟨R, hR⟩ : ∃ R, rset (succs k E) (fromV k (L ++ [a3])) = R := ⟨_, rfl⟩
             rw [hR] at HRE HRR hRl
             have HB7 := Lib.hid (HB3.out.trans (hB7.mono hs3))
             clear ho7 hown7 hgrow7 hat7 hB7 hF7 hE7 hR)
          | (go_at_call 19
             refine HRE.out.mono ?_
             rintro e w8 ⟨v8, rfl, ho8, hB8⟩
             obtain ⟨A8, c8, rfl, _, _⟩ := ho8.slice
             have hs8 := hB8.size
             have HO8 := Lib.hid ho8
             have HR8 := Lib.hid (HRR.out w8 hB8)
             have HB8 := Lib.hid (HB7.out.trans (hB8.mono (by omega)))
             clear ho8 hB8)
          | (go_at_call 20
             refine HR8.out.mono ?_
             rintro e w9 ⟨v9, rfl, ho9, hB9⟩
             obtain ⟨A9, c9, rfl, _, _⟩ := ho9.slice
             have hs9 := hB9.size
             have h8 : Own w9 w7.heap.size (.slice A8 R.length c8) R := HO8.out.keep fun b hb => hB9.block b (HO8.out.lt b hb).2
             have HSA := Lib.hid (sameInts_any A8 A9 R.length R.length c8 c9 _ _ w9 (Ints.of_owned h8) (Ints.of_owned ho9) (by omega))
             rw [decide_eq_true rfl] at HSA
             have HB9 := Lib.hid (HB8.out.trans (hB9.mono (by omega)))
             clear ho9 hB9 h8)
          | (go_at_call 16
             refine HSA.out.mono ?_
             rintro e w10 ⟨rfl, hB10⟩
             have hs10 := hB10.size
             have HB10 := Lib.hid (HB9.out.trans (hB10.mono (by omega)))
             have HLV := Lib.hid (lives_any w10 (HT.out.keep (HB10.out.block _ htb)))
             clear hB10)
          | (go_at_call 17
             refine HLV.out.mono ?_
             rintro e w11 ⟨rfl, hB11⟩
             have HB11 := Lib.hid (HB10.out.trans (hB11.mono (by omega)))
             clear hB11))
        go_ret
        exact ⟨rfl, HB11.out⟩
end Go.Proofs.YtjbmmagaeaphoaaDoor.LawGraphReach

namespace Go.Proofs.YtjbmmagaeaphoaaDoor.graphReach
open Go.ChangeShapes Go.WideShapes Go.ChangeAt Go.RowKit
open Go.ChangeMaps (open_string shut_string)
set_option linter.unusedVariables false

theorem own : ownKnob Tryd.prog.godebug = none := by kernel_rfl
theorem laidOut : laidOutB Tryd.prog = true := by kernel_rfl

/-- WHAT THE WALK IS TOLD OF A SLICE OF INTEGERS THAT CAME IN: it is nil; or it leads to a row of 'cap' cells, the numbers 'zs' (the first 'len' are its elements, the rest its spare room), each fitting its kind. -/
def IsRow (k : IntKind) (w : World) (a : Option Addr) (len cap : Nat) (zs : List Int) : Prop :=
  (a = none ∧ len = 0 ∧ cap = 0 ∧ zs = []) ∨
  ∃ x, a = some x ∧ len ≤ cap ∧ cap ≤ maxLen ∧ zs.length = cap ∧ (∀ i, i < zs.length → w.cell? (x.add i) = some (.int k (zs.getD i 0))) ∧ ∀ n ∈ zs, (Lit.int k n).wf = true

/-! ### STEP 1: THE WALK: the Go text returns true, AND WRITES NOTHING THAT WAS THERE: 'Below w.heap.size w w'' (Derived/Below.lean: '.refl', '.alloc', '.drew', '.setCell' at a new block, '.trans'). Open each 'IsRow' by 'rcases' AHEAD of 'go_enter'; part every test ahead of the walk. -/
theorem walk (a0 : Int) (a1 : Option Addr) (len1 cap1 : Nat) (z1 : List Int) (a2 : Option Addr) (len2 cap2 : Nat) (z2 : List Int) (a3 : Int) (w : World) (w0 : (Lit.int .i64 a0).wf = true) (w1 : IsRow .i64 w a1 len1 cap1 z1) (w2 : IsRow .i64 w a2 len2 cap2 z2) (w3 : (Lit.int .i64 a3).wf = true) (hT : Tab w) :
    Calls Tryd.prog 4 #[.int .i64 a0, .slice a1 len1 cap1, .slice a2 len2 cap2, .int .i64 a3] w fun e w' => e = .returned (.bool true) ∧ Below w.heap.size w w' := by
  exact LawGraphReach.walk a0 a1 len1 cap1 z1 a2 len2 cap2 z2 a3 w w0 w1 w2 w3 hT

/-! ### THE ROW's STEP: WRITTEN OUT: LEAVE IT -/
set_option maxRecDepth 100000 in
theorem lifted (os : Os) (started : os.Started) (H : Type) (enc : TypeId × Value → H) :
    ReturnsInHanded {} Tryd.checked os 4 .any (fun w args => (Rows.graphReachSpec.pre enc Tryd.prog Tryd.f4 [] false w args ∧ laidMetH Tryd.prog laidT w) ∧ sizedMet enc Tryd.prog Tryd.f4 (OpenSpec.ofChange Rows.graphReachSpec) false w args)
      (Rows.graphReachSpec.post enc Tryd.prog Tryd.f4 false true false false) := by
  refine returnsInHanded_of_change_and (C := Tryd.checked) (X := fun w _ => laidMetH Tryd.prog laidT w) (fun _ _ _ hh h => h.of_heap hh) own started (by kernel_rfl) Tryd.func4
    (ChangeSpec.witness_shaped (enc := enc) (C := Tryd.checked) (os := os) (X := fun w _ => laidMetH Tryd.prog laidT w) false (World.doorLaid Tryd.prog 14 os) #[.int .i64 0, .slice none 0 0, .slice none 0 0, .int .i64 0] 8 rfl (World.shaped_of_RefB (by kernel_rfl) (by kernel_rfl)) (by kernel_rfl) (by kernel_rfl) (by kernel_rfl) (door_met os _)) ?_
  intro W base args ds gs before hval0 hW _ _ hL _
  have hval : ∀ (j : Nat) t v, Tryd.f4.params[j]? = some t → args[j]? = some v → Value.okWide Tryd.prog W .any base t v := hval0
  have hW' := hW
  obtain ⟨p, q, hA0, hV, rfl, hfz, hnd⟩ := hW
  have hA : DataW.TrodAll enc Tryd.prog W 0 (fun _ => true) true Tryd.f4.params.toList args.toList ds p := hA0
  rw [Tryd.params4] at hA hval
  obtain ⟨v0, vs0, d0, ds0, p0, q0, hargs, rfl, rfl, h0, r0⟩ := trodAll_cons hA
  obtain ⟨v1, vs1, d1, ds1, p1, q1, rfl, rfl, rfl, h1, r1⟩ := trodAll_cons r0
  obtain ⟨v2, vs2, d2, ds2, p2, q2, rfl, rfl, rfl, h2, r2⟩ := trodAll_cons r1
  obtain ⟨v3, vs3, d3, ds3, p3, q3, rfl, rfl, rfl, h3, r3⟩ := trodAll_cons r2
  obtain ⟨rfl, rfl, rfl⟩ := trodAll_nil r3
  obtain rfl : args = #[v0, v1, v2, v3] := by cases args; simp_all
  obtain ⟨rfl, rfl⟩ := trodVars_none hV
  obtain ⟨a0, rfl, rfl, rfl, w0⟩ := open_int Tryd.underlying3 (hval 0 3 v0 rfl rfl) h0
  obtain ⟨a1, len1, cap1, rfl⟩ := okWide_slice Tryd.underlying22 (hval 1 22 v1 rfl rfl)
  have k1 := h1
  have lt1 : ∀ x ∈ p1, x.block < W.heap.size := by obtain ⟨m, hm⟩ := k1; exact DataW.trod_lt m _ _ _ hm
  obtain ⟨z1, w1⟩ : ∃ zs, IsRow .i64 W a1 len1 cap1 zs := by
    obtain ⟨fuel, hf⟩ := h1
    rcases open_ints Tryd.underlying22 Tryd.underlying3 (by kernel_rfl) hf with ⟨hcs, _⟩ | ⟨x, l, c, zs, hcs, _, hl, hm, hz, _, hcell, hwz⟩
    · simp [Value.cells] at hcs
      obtain ⟨rfl, rfl, rfl⟩ := hcs
      exact ⟨[], .inl ⟨rfl, rfl, rfl, rfl⟩⟩
    · simp [Value.cells] at hcs
      obtain ⟨rfl, rfl, rfl⟩ := hcs
      exact ⟨zs, .inr ⟨_, rfl, hl, hm, by simpa using hz, hcell, hwz⟩⟩
  obtain ⟨a2, len2, cap2, rfl⟩ := okWide_slice Tryd.underlying22 (hval 2 22 v2 rfl rfl)
  have k2 := h2
  have lt2 : ∀ x ∈ p2, x.block < W.heap.size := by obtain ⟨m, hm⟩ := k2; exact DataW.trod_lt m _ _ _ hm
  obtain ⟨z2, w2⟩ : ∃ zs, IsRow .i64 W a2 len2 cap2 zs := by
    obtain ⟨fuel, hf⟩ := h2
    rcases open_ints Tryd.underlying22 Tryd.underlying3 (by kernel_rfl) hf with ⟨hcs, _⟩ | ⟨x, l, c, zs, hcs, _, hl, hm, hz, _, hcell, hwz⟩
    · simp [Value.cells] at hcs
      obtain ⟨rfl, rfl, rfl⟩ := hcs
      exact ⟨[], .inl ⟨rfl, rfl, rfl, rfl⟩⟩
    · simp [Value.cells] at hcs
      obtain ⟨rfl, rfl, rfl⟩ := hcs
      exact ⟨zs, .inr ⟨_, rfl, hl, hm, by simpa using hz, hcell, hwz⟩⟩
  obtain ⟨a3, rfl, rfl, rfl, w3⟩ := open_int Tryd.underlying3 (hval 3 3 v3 rfl rfl) h3
  clear hA0 hval0
  refine (walk a0 a1 len1 cap1 z1 a2 len2 cap2 z2 a3 W w0 w1 w2 w3 (of_laid hL)).mono fun e W' ⟨he, bel⟩ => ?_
  subst he
  exact ⟨_, rfl, _, _, _, [], _, [], hW', trodAll_mk1 (shut_bool Tryd.underlying4 _), (trodAll_cons_mk (shut_int Tryd.underlying3 w0) (trodAll_cons_mk (Below.trod laidOut (by kernel_rfl) (of_decide_eq_true (by kernel_rfl)) k1 bel lt1) (trodAll_cons_mk (Below.trod laidOut (by kernel_rfl) (of_decide_eq_true (by kernel_rfl)) k2 bel lt2) (trodAll_cons_mk (shut_int Tryd.underlying3 w3) trodAll_mk0)))), rfl, bel.frame _, fun h => by cases h⟩

theorem over : Rows.graphReachRow.holds Tryd.pinned (OpenSpec.ofChange Rows.graphReachSpec) :=
  OpenClaim.holds_of_wide 4 Tryd.f4 rfl rfl rfl rfl rfl rfl rfl ⟨rfl, rfl, rfl, rfl, rfl⟩ rfl rfl rfl rfl rfl (by kernel_rfl) Tryd.func4 (by kernel_rfl)
    (of_decide_eq_true (by kernel_rfl)) (by unfold Func.isWrapper; first | (rw [if_pos (by decide +kernel)]; kernel_rfl) | (rw [if_neg (by decide +kernel)]; exact ⟨rfl, rfl⟩))
    (fun os started H enc _ => lifted os started H enc)


/-! ### THE CARD -/
theorem cardHolds : Rows.GraphReachCardSaid :=
  Claim7.holds_tied_plain_at .later [] [.data] true (true, "fb1c7afc0f795047f9d06904fdd55d6c9f5b6031f2a9367aa7dd34fb37da98a6") true
    over (fun _ h => by cases h) (by kernel_rfl) (fun _ h => by cases h) graphReach_row_tie rfl ⟨rfl, rfl⟩ (by kernel_rfl) rfl
    (fun f fn hf hfn => by
      obtain rfl : f = 4 := Option.some.inj ((show Tryd.prog.funcNamed "simproof/simprooflaw03.GraphReach" = some 4 by kernel_rfl).symm.trans hf) |>.symm
      obtain rfl : fn = Tryd.f4 := (Option.some.inj (Tryd.func4.symm.trans hfn)).symm
      exact ⟨by kernel_rfl, fun j t ht => by
        rw [Tryd.params4] at ht
        have hm : t ∈ [3, 22, 22, 3] := by simpa using Array.mem_of_getElem? ht
        have hall : ([3, 22, 22, 3].all fun u => !Tryd.prog.wantsStandIn u) = true := by kernel_rfl
        exact (show Tryd.prog.wantsStandIn t = false by simpa using List.all_eq_true.1 hall t hm)⟩)
    (by kernel_rfl)
end Go.Proofs.YtjbmmagaeaphoaaDoor.graphReach
