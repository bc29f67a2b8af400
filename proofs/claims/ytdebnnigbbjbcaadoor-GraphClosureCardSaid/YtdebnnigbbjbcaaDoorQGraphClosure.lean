/-
  The walk of GraphClosure: Reach contains its starts, is monotone and idempotent; two vertices reach each other just if one component holds both.
  The tied card of the statement GraphClosure: for every input the law answers true and leaves its arguments as they were; the condition is the listed table of math/bits, which the card ties to the program's text. The frame of this proof was written by the guide's program, the walk is the text LawGraphClosure's.
-/
import Derived.Test.YtdebnnigbbjbcaaDoorK17
import Derived.Test.YtdebnnigbbjbcaaDoorK27
import Derived.Test.YtdebnnigbbjbcaaDoorK2
import Derived.Test.YtdebnnigbbjbcaaDoorK26
import Derived.Test.YtdebnnigbbjbcaaDoorRows
import Derived.Test.YtdebnnigbbjbcaaDoorCards
import Derived.Test.YtdebnnigbbjbcaaDoorTie
import Derived.Test.YtdebnnigbbjbcaaDoorK8
import Derived.SevenTiedPlain
import Derived.SevenTiedAt
import Derived.WalkKit
import Derived.ProofKit
import Derived.OpenShut
import Derived.ShutString
import Derived.ChangeOld
import Derived.Below

namespace Go.Proofs.YtdebnnigbbjbcaaDoor.LawGraphClosure
open Go Go.RowKit Go.Proofs Go.Proofs.YtdebnnigbbjbcaaDoor

set_option maxRecDepth 100000 in
set_option maxHeartbeats 8000000 in
theorem walk (a0 : Int) (a1 : Option Addr) (len1 cap1 : Nat) (z1 : List Int) (a2 : Option Addr) (len2 cap2 : Nat) (z2 : List Int) (a3 : Option Addr) (len3 cap3 : Nat) (z3 : List Int) (w : World) (w0 : (Lit.int .i64 a0).wf = true) (w1 : Row .i64 w a1 len1 cap1 z1) (w2 : Row .i64 w a2 len2 cap2 z2) (w3 : Row .i64 w a3 len3 cap3 z3) (hT : Tab w) :
    Calls Tryd.prog 8 #[.int .i64 a0, .slice a1 len1 cap1, .slice a2 len2 cap2, .slice a3 len3 cap3] w fun e w' => e = .returned (.bool true) ∧ Below w.heap.size w w' := by
  obtain ⟨i0, hi0, hz0, hz1, hz2⟩ := info_parts info_int
  have htb : 0 < w.heap.size := World.block_lt_of_cell? w _ (hT 0 (by omega))
  have hn : I64 a0 := by have := bounds_i64 w0; unfold I64; omega
  obtain ⟨hx, _, _, hz⟩ := w1.ints
  obtain ⟨zs, hzs⟩ : ∃ zs, z1.take len1 = zs := ⟨_, rfl⟩
  rw [hzs] at hx hz
  have hz64 := i64_of hz
  obtain ⟨hy, hl2, hl2', hzy⟩ := w2.ints
  obtain ⟨ys, hys⟩ : ∃ ys, z2.take len2 = ys := ⟨_, rfl⟩
  rw [hys] at hy hzy
  have hy64 := i64_of hzy
  obtain ⟨hv, _, _, hzv⟩ := w3.ints
  obtain ⟨us, hus⟩ : ∃ us, z3.take len3 = us := ⟨_, rfl⟩
  rw [hus] at hv hzv
  have hv64 := i64_of hzv
  have HS := Lib.hid (size_any a0 hn w)
  obtain ⟨k, hk⟩ : ∃ k, sizeN a0 = k := ⟨_, rfl⟩
  have hk10 : k < 10 := by rw [← hk]; exact sizeN_lt a0
  rw [hk] at HS
  have hEl := edgesL_len k zs
  have hEd := edgesL_lt k zs
  have HED := Lib.hid (edges_any k len1 cap1 a1 zs w (by omega) hx hz64)
  obtain ⟨E, hE⟩ : ∃ E, edgesL k zs = E := ⟨_, rfl⟩
  rw [hE] at hEl hEd HED
  have HT := Lib.hid hT
  have HEd := Lib.hid hEd
  have HY := Lib.hid hy
  have HY64 := Lib.hid hy64
  have HYL := Lib.hid hy.len
  have HV := Lib.hid hv
  have HV64 := Lib.hid hv64
  have HVL := Lib.hid hv.len
  have HRZ := Lib.hid (reach_zero len2 cap2 a2 ys w hy (by omega))
  clear hx hz hz64 hzs w1 w0 hk hE hEd hT hy hzy hys hy64 w2 hv hzv hus hv64 w3
  rcases Nat.eq_zero_or_pos k with hk0 | hk0
  · subst hk0
    have HS0 : Hid (Calls Tryd.prog 11 #[.int .i64 a0] w fun e w' => e = .returned (.int .i64 0) ∧ w' = w) := HS
    clear HS
    go_enter Tryd.func8, Tryd.ntmps8
    go_wp2_with (first
      | (go_at_call 11
         refine HS0.out.mono ?_
         rintro e w2 ⟨rfl, rfl⟩)
      | (go_at_call 19
         refine HRZ.out.mono ?_
         rintro e w3 ⟨A3, c3, rfl, hB3⟩
         have hs3 := hB3.size
         have HB3 := Lib.hid hB3
         have HLV := Lib.hid (lives_any w3 (HT.out.keep (hB3.block _ htb)))
         clear hB3)
      | (go_at_call 17
         refine HLV.out.mono ?_
         rintro e w4 ⟨rfl, hB4⟩
         have HB4 := Lib.hid (HB3.out.trans (hB4.mono (by omega)))
         clear hB4))
    go_ret
    exact ⟨rfl, HB4.out⟩
  have hkz : ((k : Int) == 0) = false := by simp; omega
  clear HRZ
  go_enter Tryd.func8, Tryd.ntmps8
  go_wp2_with (first
    | (go_at_call 11
       refine HS.out.mono ?_
       rintro e w2 ⟨rfl, rfl⟩)
    | (go_at_call 12
       refine HED.out.mono ?_
       rintro e w3 ⟨v3, rfl, ho3, hB3⟩
       obtain ⟨A3, c3, rfl, _, _⟩ := ho3.slice
       have HRA := Lib.hid (reach_at (c := c3) (by omega) (by omega) (ho3.edg).2 HEd.out)
       have HPA := Lib.hid (comp_at (c := c3) (by omega) (by omega) (ho3.edg).2 HEd.out)
       have HB3 := Lib.hid hB3
       have hs3 := hB3.size
       clear ho3 hB3))
  obtain ⟨nx, hnx⟩ : ∃ nx, succs k E = nx := ⟨_, rfl⟩
  have hnl : nx.length = k := by rw [← hnx, succs_len]
  rw [hnx] at HRA HPA
  unfold ReachAt at HRA
  unfold CompAt at HPA
  have hcl := comps_len nx
  have HCR := Lib.hid (comps_rows nx)
  have HNL := Lib.hid hnl
  have HTG := Lib.hid (fun v u (hv : v < k) (hu : u < k) => tog_both (nx := nx) (v := v) (w := u) (by rw [hnl]; exact hv) (by rw [hnl]; exact hu))
  have HR1 := Lib.hid (fun v (hv : v < k) => reach_own HRA.out [v] (fun x hx => by rw [List.mem_singleton] at hx; omega) (by simp))
  have HRN := Lib.hid (fun v => rset_len nx [v])
  obtain ⟨cs, hcs⟩ : ∃ cs, comps nx = cs := ⟨_, rfl⟩
  rw [hcs] at HTG HPA HCR hcl
  clear hnx hcs
  go_loopw [11, 12] (fun o i wr => ∃ j : Nat, j ≤ len2 ∧ j ≤ 4 ∧ i = .int .i64 j ∧ Own wr w3.heap.size o (fewN k (ys.take j)) ∧ Below w3.heap.size w3 wr) (fun _ i _ => 4 - (intOf i).toNat)
  case atStart => exact ⟨0, Nat.zero_le _, by omega, rfl, Own.nil _ _, Below.refl _ _⟩
  case round =>
    obtain ⟨j, hjn, hj4, rfl, hown, hB⟩ := hrel
    obtain ⟨oA, oc, rfl, _, _⟩ := hown.slice
    have hLj : (fewN k (ys.take j)).length = j := by
      rw [fewN_len, List.length_take, HYL.out]
      omega
    have hLk := fewN_lt hk0 (ys.take j)
    obtain ⟨L, hL⟩ : ∃ L, fewN k (ys.take j) = L := ⟨_, rfl⟩
    rw [hL] at hLj hLk hown ⊢
    rw [hLj] at hown ⊢
    have HL := Lib.hid hL
    have HLJ := Lib.hid hLj
    have HLK := Lib.hid hLk
    have HO := Lib.hid hown
    have hsz := hB.size
    have hB0 := hB
    obtain ⟨wo, hwo⟩ : ∃ W, W = wr := ⟨_, rfl⟩
    subst hwo
    clear hL hown hLk hLj
    by_cases hc : j < len2 ∧ j < 4
    · obtain ⟨h1, h2⟩ := hc
      obtain ⟨b, off, rfl, hbb, hcs⟩ := HY.out.at_ (by omega)
      have hcj := ((HB3.out.trans (hB.mono hs3)).cell (p := ⟨b, off + j, none⟩) hbb).trans (hcs j h1)
      obtain ⟨z, hz⟩ : ∃ z, ys[j]?.getD 0 = z := ⟨_, rfl⟩
      rw [hz] at hcj
      have hzl : ys[j]? = some z := by
        rw [List.getElem?_eq_getElem (by rw [HYL.out]; exact h1)] at hz ⊢
        exact congrArg some hz
      have hain := around_in z (k : Int) (by omega)
      have HAR := Lib.hid (around_any z (k : Int) (HY64.out z (List.mem_of_getElem? hzl)) (by omega) (by omega) wo)
      have hq : fewN k (ys.take (j + 1)) = L ++ [(around z k).toNat] := by rw [take_snoc' hzl, fewN_snoc, HL.out]
      obtain ⟨a, ha⟩ := Int.eq_ofNat_of_zero_le hain.1
      rw [ha] at HAR hq
      rw [Int.toNat_natCast] at hq
      have HQ := Lib.hid hq
      have HOA := Lib.hid (show (wo.alloc (.cells #[.int .i64 (a : Int)] 3)).ownsRow w3.heap.size 3 1 (.slice oA j oc) j (L.map nv) from by
        have h4 := own_of_block (w' := wo.alloc (.cells #[.int .i64 (a : Int)] 3)) HO.out (fun b hb => Below.heap_alloc _ _ _ (HO.out.lt b hb).2)
        rw [HLJ.out] at h4
        exact h4)
      clear hcs hz hzl ha hain hq
      go_wp2_with (first
        | (go_at_call 18
           refine HAR.out.mono ?_
           rintro e w5 ⟨rfl, rfl⟩)
        | (at_builtin
           refine wpList_append_lies _ rfl (.tmp 49) (.tmp 56) 22 rfl w3.heap.size 3 i0 _ 1 8 Tryd.underlying22 hi0 hz0 hz1 hz2 rfl (by decide) (.slice oA j oc) j (L.map nv) rfl HOA.out ⟨_, 0, none⟩ 1 1 [.int .i64 (a : Int)] rfl rfl (fun j u hu => cell_one_new _ _ _ j u hu) (by simp [Value.oneCell']) (by decide) (by simp only [maxLen]; omega) (by omega) (by simp; omega) _ rfl ?_
           intro g7 c7 w7 hown7 hgrow7 hat7 hlt7
           have ho7 : Own w7 w3.heap.size (.slice (some ⟨g7, 0, none⟩) (j + 1) c7) (L ++ [a]) := by
             unfold Own
             rw [List.length_append, HLJ.out, List.map_append]
             exact hown7
           have HO7 := Lib.hid ho7
           have HB7 := Lib.hid ((hB.alloc hsz _).grown hgrow7 (by simp; omega) (fun b e => (HO.out.lt b e).1))
           clear ho7 hown7 hgrow7 hat7))
      go_roundw
      case rel => exact ⟨j + 1, by omega, by omega, by go_num, by rw [HQ.out]; exact HO7.out, HB7.out⟩
      case measure => simp [intOf]; omega
    · have hor : ¬ j < len2 ∨ (j < len2 ∧ ¬ j < 4) := by omega
      have HX := Lib.hid (HO.out.keep (w' := wo.alloc (.cells #[] 3)) fun b hb => Below.heap_alloc _ _ _ (HO.out.lt b hb).2)
      have HSL := Lib.hid (own_slc (w := wo.alloc (.cells #[] 3)) (zs := L.map fun n : Nat => (n : Int)) (by
        have h1 := HX.out
        unfold Own at h1
        rw [map_nv, HLJ.out] at h1
        exact h1))
      have HLIT := Lib.hid (own_lit0 wo wo.heap.size (Nat.le_refl _))
      have hal : (wo.alloc (.cells #[] 3)).heap.size = wo.heap.size + 1 := by simp
      have HB1x := Lib.hid ((Below.refl wo.heap.size wo).alloc (Nat.le_refl _) (.cells #[] 3))
      clear hc
      have HOL := Lib.hid HO.out
      rcases hor with h1 | ⟨h1, h2⟩
      all_goals
        go_wp2_with (first
          | (at_builtin
             refine wpList_append_slc rfl (.tmp 58) (.tmp 59) 22 rfl wo.heap.size 3 i0 _ 8 Tryd.underlying22 hi0 hz0 hz1 hz2 rfl (.slice (some ⟨_, 0, none⟩) 0 0) 0 [] rfl HLIT.out .i64 oA j oc _ rfl HSL.out (by simp only [maxLen]; omega) (by omega) (by omega) ?_
             intro A7 c7 w7 hown7 hgrow7
             have hB7 := HB1x.out.grown hgrow7 (by omega) (fun b e => by
               have e1 : wo.heap.size = b := by simpa [Value.ownBlock] using e
               omega)
             have hs7 := hB7.size
             have HB7 := Lib.hid hB7
             have ho7 : Own w7 wo.heap.size (.slice A7 j c7) L := by
               unfold Own
               rw [HLJ.out]
               rw [← map_nv, Nat.zero_add, List.nil_append] at hown7
               exact hown7
             rw [Nat.zero_add]
             have HO7 := Lib.hid ho7
             clear hown7 hgrow7 hB7 ho7))
        go_loopw [13, 14] (fun o i wr => ∃ (q : Nat), q ≤ len3 ∧ q ≤ 4 ∧ i = .int .i64 q ∧ Own wr wo.heap.size o (L ++ fewN k (us.take q)) ∧ Below wo.heap.size wo wr) (fun _ i _ => 4 - (intOf i).toNat)
        case atStart => exact ⟨0, Nat.zero_le _, by omega, rfl, by rw [List.take_zero]; show Own _ _ _ (L ++ []); rw [List.append_nil]; exact HO7.out, HB7.out⟩
        case round =>
          obtain ⟨q, hqn, hq4, rfl, hown, hB⟩ := hrel
          obtain ⟨yA, yc, rfl, _, _⟩ := hown.slice
          have hMq : (L ++ fewN k (us.take q)).length = j + q := by
            rw [List.length_append, HLJ.out, fewN_len, List.length_take, HVL.out]
            omega
          have hMk : ∀ x ∈ L ++ fewN k (us.take q), x < k := fun x hx => by
            rcases List.mem_append.1 hx with h | h
            · exact HLK.out x h
            · exact fewN_lt hk0 _ x h
          have hMs : ∀ x ∈ L, x ∈ L ++ fewN k (us.take q) := fun x hx => List.mem_append_left _ hx
          obtain ⟨M, hM⟩ : ∃ M, L ++ fewN k (us.take q) = M := ⟨_, rfl⟩
          rw [hM] at hMq hMk hMs hown ⊢
          rw [hMq] at hown ⊢
          have HM := Lib.hid hM
          have HMQ := Lib.hid hMq
          have HMK := Lib.hid hMk
          have HMS := Lib.hid hMs
          have HOM := Lib.hid hown
          have hszq := hB.size
          obtain ⟨wp, hwp⟩ : ∃ W, W = wr := ⟨_, rfl⟩
          subst hwp
          obtain ⟨r, hr⟩ : ∃ r, j + q = r := ⟨_, rfl⟩
          have hr8 : r ≤ 8 := by omega
          rw [hr] at hown HOM HMQ ⊢
          have HRR := Lib.hid hr
          clear hM hown hMk hMs hMq hr
          by_cases hc : q < len3 ∧ q < 4
          · obtain ⟨h3, h4⟩ := hc
            obtain ⟨b, off, rfl, hbb, hcs⟩ := HV.out.at_ (by omega)
            have hcj := (((HB3.out.trans (hB0.mono hs3)).trans (hB.mono (by omega))).cell (p := ⟨b, off + q, none⟩) hbb).trans (hcs q h3)
            obtain ⟨z, hz⟩ : ∃ z, us[q]?.getD 0 = z := ⟨_, rfl⟩
            rw [hz] at hcj
            have hzl : us[q]? = some z := by
              rw [List.getElem?_eq_getElem (by rw [HVL.out]; exact h3)] at hz ⊢
              exact congrArg some hz
            have hain := around_in z (k : Int) (by omega)
            have HAR := Lib.hid (around_any z (k : Int) (HV64.out z (List.mem_of_getElem? hzl)) (by omega) (by omega) wp)
            have hq : L ++ fewN k (us.take (q + 1)) = M ++ [(around z k).toNat] := by rw [take_snoc' hzl, fewN_snoc, ← List.append_assoc, HM.out]
            obtain ⟨a, ha⟩ := Int.eq_ofNat_of_zero_le hain.1
            rw [ha] at HAR hq
            rw [Int.toNat_natCast] at hq
            have HQ := Lib.hid hq
            have HOA := Lib.hid (show (wp.alloc (.cells #[.int .i64 (a : Int)] 3)).ownsRow wo.heap.size 3 1 (.slice yA r yc) r (M.map nv) from by
              have h4 := own_of_block (w' := wp.alloc (.cells #[.int .i64 (a : Int)] 3)) HOM.out (fun b hb => Below.heap_alloc _ _ _ (HOM.out.lt b hb).2)
              rw [HMQ.out] at h4
              exact h4)
            clear hcs hz hzl ha hain hq
            go_wp2_with (first
              | (go_at_call 18
                 refine HAR.out.mono ?_
                 rintro e w8 ⟨rfl, rfl⟩)
              | (at_builtin
                 refine wpList_append_lies _ rfl (.tmp 71) (.tmp 78) 22 rfl wo.heap.size 3 i0 _ 1 8 Tryd.underlying22 hi0 hz0 hz1 hz2 rfl (by decide) (.slice yA r yc) r (M.map nv) rfl HOA.out ⟨_, 0, none⟩ 1 1 [.int .i64 (a : Int)] rfl rfl (fun j u hu => cell_one_new _ _ _ j u hu) (by simp [Value.oneCell']) (by decide) (by simp only [maxLen]; omega) (by omega) (by simp; omega) _ rfl ?_
                 intro g8 c8 w8 hown8 hgrow8 hat8 hlt8
                 have ho8 : Own w8 wo.heap.size (.slice (some ⟨g8, 0, none⟩) (r + 1) c8) (M ++ [a]) := by
                   unfold Own
                   rw [List.length_append, HMQ.out, List.map_append]
                   exact hown8
                 have HO8 := Lib.hid ho8
                 have HB8 := Lib.hid ((hB.alloc hszq _).grown hgrow8 (by simp; omega) (fun b e => (HOM.out.lt b e).1))
                 clear ho8 hown8 hgrow8 hat8))
            go_roundw
            case rel => exact ⟨q + 1, by omega, by omega, by go_num, by rw [HQ.out]; exact HO8.out, HB8.out⟩
            case measure => simp [intOf]; omega
          · have hor2 : ¬ q < len3 ∨ (q < len3 ∧ ¬ q < 4) := by omega
            clear hc
            have B0 : Below w3.heap.size w3 wp := hB0.trans (hB.mono hsz)
            have hOL : Own wp w3.heap.size (.slice oA j oc) L := HO.out.keep fun b hb => hB.block b (HO.out.lt b hb).2
            have HOL := Lib.hid hOL
            have hcr1 := rset_len nx L
            have hcr2 := rset_len nx M
            have HRL := Lib.hid (reach_own HRA.out L HLK.out (by rw [HLJ.out]; omega))
            have HRM := Lib.hid (reach_own HRA.out M HMK.out (by rw [HMQ.out]; omega))
            have HRS := Lib.hid (reach_own HRA.out (rset nx L) (fun x hx => by have := rset_lt x hx; rw [HNL.out] at this; exact this) (by omega))
            rw [rset_idem] at HRS
            have HST := Lib.hid (fun x => rset_mono (nx := nx) HMS.out x)
            have HLS := Lib.hid (fun x (hx : x ∈ L) => rset_start (nx := nx) hx (by rw [HNL.out]; exact HLK.out x hx))
            obtain ⟨S, hS⟩ : ∃ S, rset nx L = S := ⟨_, rfl⟩
            obtain ⟨T, hTT⟩ : ∃ T, rset nx M = T := ⟨_, rfl⟩
            rw [hS] at HRL HRS HST HLS hcr1
            rw [hTT] at HRM HST hcr2
            clear hS hTT hOL
            rcases hor2 with h3 | ⟨h3, h4⟩
            all_goals as_aux_lemma =>
              go_wp2_with (first
                | (go_at_call 19
                   refine (HRL.out _ B0 _ _ _ _ HOL.out).mono ?_
                   rintro e w9 ⟨A9, c9, rfl, ho9, hb9⟩
                   have B9 := B0.trans (hb9.mono B0.size)
                   have HO9 := Lib.hid ho9
                   have HMM := Lib.hid (HOM.out.keep fun b hb => hb9.block b (HOM.out.lt b hb).2)
                   have HL9 := Lib.hid (HOL.out.keep fun b hb => hb9.block b (HOL.out.lt b hb).2)
                   clear ho9 hb9 HRL)
                | (go_at_call 19
                   refine (HRM.out _ B9 _ _ _ _ HMM.out).mono ?_
                   rintro e w10 ⟨A10, c10, rfl, ho10, hb10⟩
                   have B10 := B9.trans (hb10.mono B9.size)
                   have HO10 := Lib.hid ho10
                   have HS10 := Lib.hid (HO9.out.keep fun b hb => hb10.block b (HO9.out.lt b hb).2)
                   have HL10 := Lib.hid (HL9.out.keep fun b hb => hb10.block b (HL9.out.lt b hb).2)
                   clear ho10 hb10 HRM HO9 HL9))
              go_loopw [17] (fun i wr => ∃ p : Nat, p ≤ S.length ∧ i = .int .i64 p ∧ wr = w10) (fun i _ => S.length - (intOf i).toNat)
              case atStart => exact ⟨0, Nat.zero_le _, rfl, rfl⟩
              case round =>
                obtain ⟨p, hp, rfl, hw⟩ := hrel
                rw [hw]
                clear hw
                by_cases hlt : p < S.length
                · obtain ⟨gS, cS, e, _, _⟩ := HS10.out.form (by omega)
                  injection e with e1 _ e3
                  subst e1 e3
                  have hcx := HS10.out.cell hlt
                  obtain ⟨x, hx⟩ : ∃ x, S[p]?.getD 0 = x := ⟨_, rfl⟩
                  rw [hx] at hcx
                  unfold nv at hcx
                  have hxm : x ∈ S := by
                    rw [List.getElem?_eq_getElem hlt] at hx
                    exact hx ▸ List.getElem_mem hlt
                  have HHA := Lib.hid (hasN_any A10 c10 x T _ w10 HO10.out (by omega))
                  rw [decide_eq_true (HST.out x hxm)] at HHA
                  clear hx hxm
                  go_wp2_with (go_at_call 27; refine HHA.out.mono ?_; rintro e w11 ⟨rfl, rfl⟩)
                  go_roundw
                  case rel => exact ⟨p + 1, by omega, by go_num, by first | rfl | trivial⟩
                  case measure => simp [intOf]; omega
                · go_wp2_with fail
                  go_loopw [18] (fun i wr => ∃ p : Nat, p ≤ j ∧ i = .int .i64 p ∧ wr = w10) (fun i _ => j - (intOf i).toNat)
                  case atStart => exact ⟨0, Nat.zero_le _, rfl, rfl⟩
                  case round =>
                    obtain ⟨p4, hp4, rfl, hw⟩ := hrel
                    rw [hw]
                    clear hw
                    by_cases hlt4 : p4 < j
                    · obtain ⟨gS, cS, e, _, _⟩ := HL10.out.form (by rw [HLJ.out]; omega)
                      injection e with e1 e2 e3
                      clear e2
                      subst e1 e3
                      have hcx := HL10.out.cell (i := p4) (by rw [HLJ.out]; omega)
                      obtain ⟨x, hx⟩ : ∃ x, L[p4]?.getD 0 = x := ⟨_, rfl⟩
                      rw [hx] at hcx
                      unfold nv at hcx
                      have hxm : x ∈ L := by
                        rw [List.getElem?_eq_getElem (by rw [HLJ.out]; omega)] at hx
                        exact hx ▸ List.getElem_mem _
                      have HHA := Lib.hid (hasN_any A9 c9 x S _ w10 HS10.out (by omega))
                      rw [decide_eq_true (HLS.out x hxm)] at HHA
                      clear hx hxm
                      go_wp2_with (go_at_call 27; refine HHA.out.mono ?_; rintro e w11 ⟨rfl, rfl⟩)
                      go_roundw
                      case rel => exact ⟨p4 + 1, by omega, by go_num, by first | rfl | trivial⟩
                      case measure => simp [intOf]; omega
                    · go_wp2_with (first
                        | (go_at_call 19
                           refine (HRS.out _ B10 _ _ _ _ HS10.out).mono ?_
                           rintro e w11 ⟨A11, c11, rfl, ho11, hb11⟩
                           have B11 := B10.trans (hb11.mono B10.size)
                           have HSS := Lib.hid (same_own w11 _ _ c11 c9 A11 A9 S ho11 (HS10.out.keep fun b hb => hb11.block b (HS10.out.lt b hb).2) (by omega))
                           clear ho11 hb11 HRS)
                        | (go_at_call 16
                           refine HSS.out.mono ?_
                           rintro e w12 ⟨rfl, hb12⟩
                           have B12 := B11.trans (hb12.mono B11.size)
                           clear hb12 HSS)
                        | (go_at_call 24
                           refine (HPA.out _ B12).mono ?_
                           rintro e w13 ⟨A13, c13, rfl, ho13, hb13⟩
                           have B13 := B12.trans (hb13.mono B12.size)
                           have HO13 := Lib.hid ho13
                           clear ho13 hb13 HPA))
                      go_loopw [20] (fun i wr => ∃ v : Nat, v ≤ k ∧ i = .int .i64 v ∧ Below w13.heap.size w13 wr) (fun i _ => k - (intOf i).toNat)
                      case atStart => exact ⟨0, Nat.zero_le _, rfl, Below.refl _ _⟩
                      case round =>
                        obtain ⟨v, hv, rfl, hB5⟩ := hrel
                        by_cases hvk : v < k
                        · go_wp2_with fail
                          go_loopw [21] (fun i wr => ∃ u : Nat, u ≤ k ∧ i = .int .i64 u ∧ Below w13.heap.size w13 wr) (fun i _ => k - (intOf i).toNat)
                          case atStart => exact ⟨0, Nat.zero_le _, rfl, hB5⟩
                          case round =>
                            obtain ⟨u, hu, rfl, hB6⟩ := hrel
                            by_cases huk : u < k
                            · obtain ⟨wl, hwl⟩ : ∃ W, W = wr := ⟨_, rfl⟩
                              subst hwl
                              have BL := B13.trans (hB6.mono B13.size)
                              have BL1 := BL.alloc BL.size (.cells #[.int .i64 (v : Int)] 3)
                              have HL1 := Lib.hid (own_lit1 wl w3.heap.size v BL.size)
                              have HTV := HTG.out v u hvk huk
                              have hor3 : (decide (u ∈ rset nx [v]) = false ∧ tog cs v u = false) ∨ (decide (u ∈ rset nx [v]) = true ∧ decide (v ∈ rset nx [u]) = false ∧ tog cs v u = false) ∨ (decide (u ∈ rset nx [v]) = true ∧ decide (v ∈ rset nx [u]) = true ∧ tog cs v u = true) := by
                                rw [HTV]
                                cases decide (u ∈ rset nx [v]) <;> cases decide (v ∈ rset nx [u]) <;> simp
                              clear HTV hB5
                              rcases hor3 with ⟨hb1, hbb⟩ | ⟨hb1, hb2, hbb⟩ | ⟨hb1, hb2, hbb⟩
                              all_goals
                                have HBB := Lib.hid hbb
                                clear hbb
                                go_wp2_with (first
                                  | (go_at_call 19
                                     refine (HR1.out v hvk _ BL1 _ _ _ _ HL1.out).mono ?_
                                     rintro e w14 ⟨A14, c14, rfl, ho14, hb14⟩
                                     have B14 := BL1.trans (hb14.mono BL1.size)
                                     have HZ := Lib.hid (hB6.trans ((((Below.refl wl.heap.size wl).alloc (Nat.le_refl _) (.cells #[.int .i64 (v : Int)] 3)).trans (hb14.mono (by simp))).mono hB6.size))
                                     have hl14 := HRN.out v
                                     have HA14 := Lib.hid (hasN_any A14 c14 u _ _ w14 ho14 (by omega))
                                     rw [hb1] at HA14
                                     have BL2 := B14.alloc B14.size (.cells #[.int .i64 (u : Int)] 3)
                                     have HL2 := Lib.hid (own_lit1 w14 w3.heap.size u B14.size)
                                     clear ho14 hb14 BL1 HL1)
                                  | (go_at_call 27
                                     refine HA14.out.mono ?_
                                     rintro e w16 ⟨rfl, hw⟩
                                     have hw := hw.symm
                                     subst hw
                                     clear HA14)
                                  | (go_at_call 19
                                     refine (HR1.out u huk _ BL2 _ _ _ _ HL2.out).mono ?_
                                     rintro e w15 ⟨A15, c15, rfl, ho15, hb15⟩
                                     have HZ2 := HZ
                                     clear HZ
                                     have HZ := Lib.hid (HZ2.out.trans ((((Below.refl w14.heap.size w14).alloc (Nat.le_refl _) (.cells #[.int .i64 (u : Int)] 3)).trans (hb15.mono (by simp))).mono HZ2.out.size))
                                     have hl15 := HRN.out u
                                     have HA15 := Lib.hid (hasN_any A15 c15 v _ _ w15 ho15 (by omega))
                                     rw [hb2] at HA15
                                     clear ho15 hb15 BL2 HL2)
                                  | (go_at_call 27
                                     refine HA15.out.mono ?_
                                     rintro e w17 ⟨rfl, hw⟩
                                     have hw := hw.symm
                                     subst hw
                                     clear HA15))
                                clear hb1
                                go_loopw [23, 24] (fun t i wi => ∃ p : Nat, p ≤ cs.length ∧ t = .bool (tog (cs.take p) v u) ∧ i = .int .i64 p ∧ Below w13.heap.size w13 wi) (fun _ i _ => cs.length - (intOf i).toNat)
                                case atStart => exact ⟨0, Nat.zero_le _, rfl, rfl, HZ.out⟩
                                case round =>
                                  obtain ⟨p7, hp7, rfl, rfl, hB7⟩ := hrel
                                  by_cases hlt7 : p7 < cs.length
                                  · obtain ⟨_, k1⟩ := (HO13.out.below hB7 (Nat.le_refl _)).at_ (k := p7)
                                    obtain ⟨gP, vP, l, rfl, hgP, hl1, ho1, hc1⟩ := k1 hlt7
                                    obtain ⟨Av, cv, rfl, _, _⟩ := ho1.slice
                                    have hll := HCR.out _ (List.mem_of_getElem? hl1)
                                    have HH1 := Lib.hid (hasN_any Av cv v l _ _ ho1 (by omega))
                                    have HH2 := Lib.hid (hasN_any Av cv u l _ _ ho1 (by omega))
                                    have HTK := Lib.hid (show tog (cs.take (p7 + 1)) v u = (tog (cs.take p7) v u || (decide (v ∈ l) && decide (u ∈ l))) from by rw [take_snoc' hl1, tog_snoc])
                                    obtain ⟨tb, ht⟩ : ∃ b, tog (cs.take p7) v u = b := ⟨_, rfl⟩
                                    rw [ht] at HTK ⊢
                                    clear k1 hl1 ho1 ht
                                    cases tb with
                                    | true =>
                                      go_wp2_with fail
                                      go_roundw
                                      case rel => exact ⟨p7 + 1, by omega, by rw [HTK.out]; rfl, by go_num, hB7⟩
                                      case measure => simp [intOf]; omega
                                    | false =>
                                      cases hv1 : decide (v ∈ l) with
                                      | false =>
                                        rw [hv1] at HH1 HTK
                                        clear hv1
                                        go_wp2_with (go_at_call 27; refine HH1.out.mono ?_; rintro e w18 ⟨rfl, hw⟩; have hw := hw.symm; subst hw; clear HH1)
                                        go_roundw
                                        case rel => exact ⟨p7 + 1, by omega, by rw [HTK.out]; rfl, by go_num, hB7⟩
                                        case measure => simp [intOf]; omega
                                      | true =>
                                        obtain ⟨tu, hv2⟩ : ∃ b, decide (u ∈ l) = b := ⟨_, rfl⟩
                                        rw [hv1] at HH1 HTK
                                        rw [hv2] at HH2 HTK
                                        clear hv1 hv2
                                        cases tu
                                        all_goals
                                          go_wp2_with (first
                                            | (go_at_call 27; refine HH1.out.mono ?_; rintro e w18 ⟨rfl, hw⟩; have hw := hw.symm; subst hw; clear HH1)
                                            | (go_at_call 27; refine HH2.out.mono ?_; rintro e w19 ⟨rfl, hw⟩; have hw := hw.symm; subst hw; clear HH2))
                                          go_roundw
                                          case rel => exact ⟨p7 + 1, by omega, by rw [HTK.out]; rfl, by go_num, hB7⟩
                                          case measure => simp [intOf]; omega
                                  · rw [List.take_of_length_le (show cs.length ≤ p7 by omega), HBB.out]
                                    go_wp2_with fail
                                    go_roundw
                                    case rel => exact ⟨u + 1, by omega, by go_num, hB7⟩
                                    case measure => simp [intOf]; omega
                            · go_wp2_with fail
                              go_roundw
                              case rel => exact ⟨v + 1, by omega, by go_num, hB6⟩
                              case measure => simp [intOf]; omega
                        · have BZ := HB3.out.trans ((B13.trans (hB5.mono B13.size)).mono hs3)
                          have HLV := Lib.hid (lives_any _ (HT.out.keep (BZ.block _ htb)))
                          have HBZ := Lib.hid BZ
                          go_wp2_with (go_at_call 17
                                       refine HLV.out.mono ?_
                                       rintro e w20 ⟨rfl, hB20⟩)
                          go_ret
                          exact ⟨rfl, HBZ.out.trans (hB20.mono HBZ.out.size)⟩
end Go.Proofs.YtdebnnigbbjbcaaDoor.LawGraphClosure

namespace Go.Proofs.YtdebnnigbbjbcaaDoor.graphClosure
open Go.ChangeShapes Go.WideShapes Go.ChangeAt Go.RowKit
open Go.ChangeMaps (open_string shut_string)
set_option linter.unusedVariables false

theorem own : ownKnob Tryd.prog.godebug = none := by kernel_rfl
theorem laidOut : laidOutB Tryd.prog = true := by kernel_rfl

/-- WHAT THE WALK IS TOLD OF A SLICE OF INTEGERS THAT CAME IN: it is nil; or it leads to a row of 'cap' cells, the numbers 'zs' (the first 'len' are its elements, the rest its spare room), each fitting its kind. -/
def IsRow (k : IntKind) (w : World) (a : Option Addr) (len cap : Nat) (zs : List Int) : Prop :=
  (a = none ∧ len = 0 ∧ cap = 0 ∧ zs = []) ∨
  ∃ x, a = some x ∧ len ≤ cap ∧ cap ≤ maxLen ∧ zs.length = cap ∧ (∀ i, i < zs.length → w.cell? (x.add i) = some (.int k (zs.getD i 0))) ∧ ∀ n ∈ zs, (Lit.int k n).wf = true

/-! ### STEP 1: THE WALK: the Go text returns true, AND WRITES NOTHING THAT WAS THERE: 'Below w.heap.size w w'' (Derived/Below.lean: '.refl', '.alloc', '.drew', '.setCell' at a new block, '.trans'). Open each 'IsRow' by 'rcases' AHEAD of 'go_enter'; part every test ahead of the walk. -/
theorem walk (a0 : Int) (a1 : Option Addr) (len1 cap1 : Nat) (z1 : List Int) (a2 : Option Addr) (len2 cap2 : Nat) (z2 : List Int) (a3 : Option Addr) (len3 cap3 : Nat) (z3 : List Int) (w : World) (w0 : (Lit.int .i64 a0).wf = true) (w1 : IsRow .i64 w a1 len1 cap1 z1) (w2 : IsRow .i64 w a2 len2 cap2 z2) (w3 : IsRow .i64 w a3 len3 cap3 z3) (hT : Tab w) :
    Calls Tryd.prog 8 #[.int .i64 a0, .slice a1 len1 cap1, .slice a2 len2 cap2, .slice a3 len3 cap3] w fun e w' => e = .returned (.bool true) ∧ Below w.heap.size w w' := by
  exact LawGraphClosure.walk a0 a1 len1 cap1 z1 a2 len2 cap2 z2 a3 len3 cap3 z3 w w0 w1 w2 w3 hT

/-! ### THE ROW's STEP: WRITTEN OUT: LEAVE IT -/
set_option maxRecDepth 100000 in
theorem lifted (os : Os) (started : os.Started) (H : Type) (enc : TypeId × Value → H) :
    ReturnsInHanded {} Tryd.checked os 8 .any (fun w args => (Rows.graphClosureSpec.pre enc Tryd.prog Tryd.f8 [] false w args ∧ laidMetH Tryd.prog laidT w) ∧ sizedMet enc Tryd.prog Tryd.f8 (OpenSpec.ofChange Rows.graphClosureSpec) false w args)
      (Rows.graphClosureSpec.post enc Tryd.prog Tryd.f8 false true false false) := by
  refine returnsInHanded_of_change_and (C := Tryd.checked) (X := fun w _ => laidMetH Tryd.prog laidT w) (fun _ _ _ hh h => h.of_heap hh) own started (by kernel_rfl) Tryd.func8
    (ChangeSpec.witness_shaped (enc := enc) (C := Tryd.checked) (os := os) (X := fun w _ => laidMetH Tryd.prog laidT w) false (World.doorLaid Tryd.prog 14 os) #[.int .i64 0, .slice none 0 0, .slice none 0 0, .slice none 0 0] 8 rfl (World.shaped_of_RefB (by kernel_rfl) (by kernel_rfl)) (by kernel_rfl) (by kernel_rfl) (by kernel_rfl) (door_met os _)) ?_
  intro W base args ds gs before hval0 hW _ _ hL _
  have hval : ∀ (j : Nat) t v, Tryd.f8.params[j]? = some t → args[j]? = some v → Value.okWide Tryd.prog W .any base t v := hval0
  have hW' := hW
  obtain ⟨p, q, hA0, hV, rfl, hfz, hnd⟩ := hW
  have hA : DataW.TrodAll enc Tryd.prog W 0 (fun _ => true) true Tryd.f8.params.toList args.toList ds p := hA0
  rw [Tryd.params8] at hA hval
  obtain ⟨v0, vs0, d0, ds0, p0, q0, hargs, rfl, rfl, h0, r0⟩ := trodAll_cons hA
  obtain ⟨v1, vs1, d1, ds1, p1, q1, rfl, rfl, rfl, h1, r1⟩ := trodAll_cons r0
  obtain ⟨v2, vs2, d2, ds2, p2, q2, rfl, rfl, rfl, h2, r2⟩ := trodAll_cons r1
  obtain ⟨v3, vs3, d3, ds3, p3, q3, rfl, rfl, rfl, h3, r3⟩ := trodAll_cons r2
  obtain ⟨rfl, rfl, rfl⟩ := trodAll_nil r3
  obtain rfl : args = #[v0, v1, v2, v3] := by cases args; simp_all
  obtain ⟨rfl, rfl⟩ := trodVars_none hV
  obtain ⟨a0, rfl, rfl, rfl, w0⟩ := open_int Tryd.underlying3 (hval 0 3 v0 rfl rfl) h0
  obtain ⟨a1, len1, cap1, rfl⟩ := okWide_slice Tryd.underlying22 (hval 1 22 v1 rfl rfl)
  have k1 := h1
  have lt1 : ∀ x ∈ p1, x.block < W.heap.size := by obtain ⟨m, hm⟩ := k1; exact DataW.trod_lt m _ _ _ hm
  obtain ⟨z1, w1⟩ : ∃ zs, IsRow .i64 W a1 len1 cap1 zs := by
    obtain ⟨fuel, hf⟩ := h1
    rcases open_ints Tryd.underlying22 Tryd.underlying3 (by kernel_rfl) hf with ⟨hcs, _⟩ | ⟨x, l, c, zs, hcs, _, hl, hm, hz, _, hcell, hwz⟩
    · simp [Value.cells] at hcs
      obtain ⟨rfl, rfl, rfl⟩ := hcs
      exact ⟨[], .inl ⟨rfl, rfl, rfl, rfl⟩⟩
    · simp [Value.cells] at hcs
      obtain ⟨rfl, rfl, rfl⟩ := hcs
      exact ⟨zs, .inr ⟨_, rfl, hl, hm, by simpa using hz, hcell, hwz⟩⟩
  obtain ⟨a2, len2, cap2, rfl⟩ := okWide_slice Tryd.underlying22 (hval 2 22 v2 rfl rfl)
  have k2 := h2
  have lt2 : ∀ x ∈ p2, x.block < W.heap.size := by obtain ⟨m, hm⟩ := k2; exact DataW.trod_lt m _ _ _ hm
  obtain ⟨z2, w2⟩ : ∃ zs, IsRow .i64 W a2 len2 cap2 zs := by
    obtain ⟨fuel, hf⟩ := h2
    rcases open_ints Tryd.underlying22 Tryd.underlying3 (by kernel_rfl) hf with ⟨hcs, _⟩ | ⟨x, l, c, zs, hcs, _, hl, hm, hz, _, hcell, hwz⟩
    · simp [Value.cells] at hcs
      obtain ⟨rfl, rfl, rfl⟩ := hcs
      exact ⟨[], .inl ⟨rfl, rfl, rfl, rfl⟩⟩
    · simp [Value.cells] at hcs
      obtain ⟨rfl, rfl, rfl⟩ := hcs
      exact ⟨zs, .inr ⟨_, rfl, hl, hm, by simpa using hz, hcell, hwz⟩⟩
  obtain ⟨a3, len3, cap3, rfl⟩ := okWide_slice Tryd.underlying22 (hval 3 22 v3 rfl rfl)
  have k3 := h3
  have lt3 : ∀ x ∈ p3, x.block < W.heap.size := by obtain ⟨m, hm⟩ := k3; exact DataW.trod_lt m _ _ _ hm
  obtain ⟨z3, w3⟩ : ∃ zs, IsRow .i64 W a3 len3 cap3 zs := by
    obtain ⟨fuel, hf⟩ := h3
    rcases open_ints Tryd.underlying22 Tryd.underlying3 (by kernel_rfl) hf with ⟨hcs, _⟩ | ⟨x, l, c, zs, hcs, _, hl, hm, hz, _, hcell, hwz⟩
    · simp [Value.cells] at hcs
      obtain ⟨rfl, rfl, rfl⟩ := hcs
      exact ⟨[], .inl ⟨rfl, rfl, rfl, rfl⟩⟩
    · simp [Value.cells] at hcs
      obtain ⟨rfl, rfl, rfl⟩ := hcs
      exact ⟨zs, .inr ⟨_, rfl, hl, hm, by simpa using hz, hcell, hwz⟩⟩
  clear hA0 hval0
  refine (walk a0 a1 len1 cap1 z1 a2 len2 cap2 z2 a3 len3 cap3 z3 W w0 w1 w2 w3 (of_laid hL)).mono fun e W' ⟨he, bel⟩ => ?_
  subst he
  exact ⟨_, rfl, _, _, _, [], _, [], hW', trodAll_mk1 (shut_bool Tryd.underlying4 _), (trodAll_cons_mk (shut_int Tryd.underlying3 w0) (trodAll_cons_mk (Below.trod laidOut (by kernel_rfl) (of_decide_eq_true (by kernel_rfl)) k1 bel lt1) (trodAll_cons_mk (Below.trod laidOut (by kernel_rfl) (of_decide_eq_true (by kernel_rfl)) k2 bel lt2) (trodAll_cons_mk (Below.trod laidOut (by kernel_rfl) (of_decide_eq_true (by kernel_rfl)) k3 bel lt3) trodAll_mk0)))), rfl, bel.frame _, fun h => by cases h⟩

theorem over : Rows.graphClosureRow.holds Tryd.pinned (OpenSpec.ofChange Rows.graphClosureSpec) :=
  OpenClaim.holds_of_wide 8 Tryd.f8 rfl rfl rfl rfl rfl rfl rfl ⟨rfl, rfl, rfl, rfl, rfl⟩ rfl rfl rfl rfl rfl (by kernel_rfl) Tryd.func8 (by kernel_rfl)
    (of_decide_eq_true (by kernel_rfl)) (by unfold Func.isWrapper; first | (rw [if_pos (by decide +kernel)]; kernel_rfl) | (rw [if_neg (by decide +kernel)]; exact ⟨rfl, rfl⟩))
    (fun os started H enc _ => lifted os started H enc)


/-! ### THE CARD -/
theorem cardHolds : Rows.GraphClosureCardSaid :=
  Claim7.holds_tied_plain_at .later [] [.data] true (true, "fb1c7afc0f795047f9d06904fdd55d6c9f5b6031f2a9367aa7dd34fb37da98a6") true
    over (fun _ h => by cases h) (by kernel_rfl) (fun _ h => by cases h) graphClosure_row_tie rfl ⟨rfl, rfl⟩ (by kernel_rfl) rfl
    (fun f fn hf hfn => by
      obtain rfl : f = 8 := Option.some.inj ((show Tryd.prog.funcNamed "simproof/simprooflaw03.GraphClosure" = some 8 by kernel_rfl).symm.trans hf) |>.symm
      obtain rfl : fn = Tryd.f8 := (Option.some.inj (Tryd.func8.symm.trans hfn)).symm
      exact ⟨by kernel_rfl, fun j t ht => by
        rw [Tryd.params8] at ht
        have hm : t ∈ [3, 22, 22, 22] := by simpa using Array.mem_of_getElem? ht
        have hall : ([3, 22, 22, 22].all fun u => !Tryd.prog.wantsStandIn u) = true := by kernel_rfl
        exact (show Tryd.prog.wantsStandIn t = false by simpa using List.all_eq_true.1 hall t hm)⟩)
    (by kernel_rfl)
end Go.Proofs.YtdebnnigbbjbcaaDoor.graphClosure
