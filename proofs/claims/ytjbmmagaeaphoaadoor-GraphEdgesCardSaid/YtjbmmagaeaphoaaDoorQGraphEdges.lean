/-
  The walk of GraphEdges: the edges turned round, some of them repeated, give the same results.
  The tied card of the statement GraphEdges: for every input the law answers true and leaves its arguments as they were; the condition is the listed table of math/bits, which the card ties to the program's text. The frame of this proof was written by the guide's program, the walk is the text LawGraphEdges's.
-/
import Derived.Test.YtjbmmagaeaphoaaDoorK17
import Derived.Test.YtjbmmagaeaphoaaDoorK20
import Derived.Test.YtjbmmagaeaphoaaDoorK6
import Derived.Test.YtjbmmagaeaphoaaDoorK2
import Derived.Test.YtjbmmagaeaphoaaDoorK25
import Derived.Test.YtjbmmagaeaphoaaDoorRows
import Derived.Test.YtjbmmagaeaphoaaDoorCards
import Derived.Test.YtjbmmagaeaphoaaDoorTie
import Derived.Test.YtjbmmagaeaphoaaDoorK8
import Derived.SevenTiedPlain
import Derived.SevenTiedAt
import Derived.WalkKit
import Derived.ProofKit
import Derived.OpenShut
import Derived.ShutString
import Derived.ChangeOld
import Derived.Below

namespace Go.Proofs.YtjbmmagaeaphoaaDoor.LawGraphEdges
open Go Go.RowKit Go.Proofs Go.Proofs.YtjbmmagaeaphoaaDoor

theorem len_few {n : Nat} (h : n ≤ 1000) : H.Len n := by unfold H.Len; omega
/-- The label's bytes. -/
abbrev cmpS : ByteArray := { data := #[99, 111, 109, 112, 111, 110, 101, 110, 116] }
/-- Sum of a row of the call's own, at any later world. -/
theorem sum_own (wr : World) (lo c : Nat) (A : Option Addr) (l : List Nat) (h : Own wr lo (.slice A l.length c) l) (hl : l.length ≤ 1000) : ∀ W, Below wr.heap.size wr W → Calls Tryd.prog 28 #[.string cmpS, .slice A l.length c] W fun e w' => e = .returned (.int .u64 (H.sumI (H.sb cmpS) (l.map fun n : Nat => (n : Int)))) ∧ Below wr.heap.size wr w' := fun W hB => by
  have h1 := ((ints_own h).below hB).more hB.size
  refine (H.sum_any cmpS A l.length c _ W h1 (len_few (by decide)) (len_few hl)).mono ?_
  rintro e w' ⟨rfl, hb⟩
  exact ⟨rfl, hB.trans (hb.mono hB.size)⟩
set_option maxRecDepth 100000 in
set_option maxHeartbeats 8000000 in
theorem walk (a0 : Int) (a1 : Option Addr) (len1 cap1 : Nat) (z1 : List Int) (a2 : Int) (w : World) (w0 : (Lit.int .i64 a0).wf = true) (w1 : Row .i64 w a1 len1 cap1 z1) (w2 : (Lit.int .i64 a2).wf = true) (hT : Tab w) :
    Calls Tryd.prog 10 #[.int .i64 a0, .slice a1 len1 cap1, .int .i64 a2] w fun e w' => e = .returned (.bool true) ∧ Below w.heap.size w w' := by
  obtain ⟨i0, hi0, hz0, hz1, hz2⟩ := info_parts info_pair
  have htb : 0 < w.heap.size := World.block_lt_of_cell? w _ (hT 0 (by omega))
  have hn : I64 a0 := by have := bounds_i64 w0; unfold I64; omega
  have ha2 : I64 a2 := by have := bounds_i64 w2; unfold I64; omega
  obtain ⟨hx, _, _, hz⟩ := w1.ints
  obtain ⟨zs, hzs⟩ : ∃ zs, z1.take len1 = zs := ⟨_, rfl⟩
  rw [hzs] at hx hz
  have hz64 := i64_of hz
  have HS := Lib.hid (size_any a0 hn w)
  obtain ⟨k, hk⟩ : ∃ k, sizeN a0 = k := ⟨_, rfl⟩
  have hk10 : k < 10 := by rw [← hk]; exact sizeN_lt a0
  rw [hk] at HS
  obtain ⟨E, hE⟩ : ∃ E, edgesL k zs = E := ⟨_, rfl⟩
  have hEl := edgesL_len k zs
  have hEd := edgesL_lt k zs
  have HED := Lib.hid (edges_any k len1 cap1 a1 zs w (by omega) hx hz64)
  rw [hE] at hEl hEd HED
  have HT := Lib.hid hT
  have HEd := Lib.hid hEd
  have HA2 := Lib.hid (fun W => around_any a2 3 ha2 (by omega) (by omega) W)
  have hq := around_in a2 3 (by omega)
  obtain ⟨q, hq'⟩ := Int.eq_ofNat_of_zero_le hq.1
  have hq3 : q < 3 := by omega
  rw [hq'] at HA2
  clear hx hz hz64 hzs w1 w0 w2 hk hE hEd hT hn ha2 hq hq'
  go_enter Tryd.func10, Tryd.ntmps10
  go_wp2_with (first
    | (go_at_call 11
       refine HS.out.mono ?_
       rintro e w2 ⟨rfl, rfl⟩)
    | (go_at_call 12
       refine HED.out.mono ?_
       rintro e w3 ⟨v3, rfl, ho3, hB3⟩
       obtain ⟨A3, c3, rfl, _, _⟩ := ho3.slice
       have HO3 := Lib.hid ho3
       have HB3 := Lib.hid hB3
       have hs3 := hB3.size
       clear ho3 hB3))
  go_loopw [9, 10] (fun o i wr => ∃ (p : Nat) (L : List (Nat × Nat)), p ≤ E.length ∧ i = .int .i64 ((p : Int) - 1) ∧ OwnE wr w3.heap.size o L ∧ Hid (Rev E p L) ∧ Below w3.heap.size w3 wr) (fun _ i _ => (intOf i + 1).toNat)
  case atStart => exact ⟨E.length, [], Nat.le_refl _, by go_num, OwnE.nil _ _, Rev.start E, Below.refl _ _⟩
  case round =>
    obtain ⟨p, L, hp, rfl, hown, hrev, hB⟩ := hrel
    obtain ⟨oA, oc, rfl, _, _⟩ := hown.slice
    have hLl := hrev.out.len
    have HO := Lib.hid hown
    have hsz := hB.size
    obtain ⟨wo, hwo⟩ : ∃ W, W = wr := ⟨_, rfl⟩
    subst hwo
    clear hown
    rcases Nat.eq_zero_or_pos p with hp0 | hp0
    · subst hp0
      have hB2 : Below w2.heap.size w2 wo := HB3.out.trans (hB.mono hs3)
      have hs2 := hB2.size
      have hmem := hrev.out.done
      have hLd : ∀ e ∈ L, e.1 < k ∧ e.2 < k := fun e he => HEd.out e (hrev.out.sub e he)
      have hnxe := succs_same (n := k) hmem
      have hL36 : L.length ≤ 36 := by omega
      have hTo := HT.out.keep (hB2.block _ htb)
      have hEa : Edg wo wo.heap.size A3 E.length E := ((HO3.out.edg).2.below hB).more hsz
      have hEb := (HO.out.edg).2
      have HTA := Lib.hid (topo_at (c := c3) (by omega) (by omega) hEa HEd.out)
      have HTB := Lib.hid (topo_at (c := oc) (by omega) (by omega) hEb hLd)
      have HCA := Lib.hid (cyc_at (c := c3) (by omega) (by omega) hEa HEd.out hTo)
      have HCB := Lib.hid (cyc_at (c := oc) (by omega) (by omega) hEb hLd hTo)
      have HRA := Lib.hid (reach_at (c := c3) (by omega) (by omega) hEa HEd.out)
      have HRB := Lib.hid (reach_at (c := oc) (by omega) (by omega) hEb hLd)
      have HPA := Lib.hid (comp_at (c := c3) (by omega) (by omega) hEa HEd.out)
      have HPB := Lib.hid (comp_at (c := oc) (by omega) (by omega) hEb hLd)
      rw [← hnxe] at HTB HCB HRB HPB
      obtain ⟨nx, hnx⟩ : ∃ nx, succs k E = nx := ⟨_, rfl⟩
      have hnl : nx.length = k := by rw [← hnx, succs_len]
      rw [hnx] at HTA HTB HCA HCB HRA HRB HPA HPB
      have HTO := Lib.hid hTo
      have HB2 := Lib.hid hB2
      have htl := topoR_len nx
      have hcl := comps_len nx
      have HCR := Lib.hid (comps_rows nx)
      obtain ⟨R, hR⟩ : ∃ R, topoR nx = R := ⟨_, rfl⟩
      obtain ⟨bb, hbb⟩ : ∃ b, decide ((topoL nx).length = k) = b := ⟨_, rfl⟩
      unfold TopoAt at HTA HTB
      rw [hR, hbb] at HTA HTB
      rw [hR] at htl
      have hbn : (bb != bb) = false := by simp
      obtain ⟨cs, hcs⟩ : ∃ cs, comps nx = cs := ⟨_, rfl⟩
      unfold CompAt at HPA HPB
      rw [hcs] at HPA HPB HCR hcl
      have hcn : ((cs.length : Int) != (cs.length : Int)) = false := by simp
      have hrs : ∀ zs, (rset nx (fromV k zs)).length ≤ 10 := fun zs => by have := rset_len nx (fromV k zs); omega
      have hre : rset nx (fromV k [0, a2]) = rset nx (fromV k [a2, 0]) := rset_same fun x => by
        rw [fromV_mem, fromV_mem]
        simp only [List.mem_cons, List.not_mem_nil, or_false]
        constructor
        · rintro ⟨h1, h2 | h2⟩
          · exact ⟨h1, .inr h2⟩
          · exact ⟨h1, .inl h2⟩
        · rintro ⟨h1, h2 | h2⟩
          · exact ⟨h1, .inr h2⟩
          · exact ⟨h1, .inl h2⟩
      have HRE := Lib.hid hre
      have hrs2 := hrs [a2, 0]
      unfold ReachAt at HRA HRB
      unfold CycAt at HCA HCB
      have B0 : Below wo.heap.size wo wo := Below.refl _ _
      clear hrev hmem hLd hnxe hEa hEb hnx hR hbb hcs hrs hre hTo hB2 hB
      go_wp2_with (first
        | (go_at_call 14
           refine (HTA.out _ B0).mono ?_
           rintro e w4 ⟨A4, c4, rfl, ho4, hb4⟩
           have B4 := B0.trans hb4
           have HO4 := Lib.hid ho4
           clear ho4 hb4 HTA)
        | (go_at_call 14
           refine (HTB.out _ B4).mono ?_
           rintro e w5 ⟨A5, c5, rfl, ho5, hb5⟩
           have B5 := B4.trans (hb5.mono B4.size)
           have HS5 := Lib.hid (same_own w5 _ _ c4 c5 A4 A5 R (HO4.out.keep fun b hb => hb5.block b (HO4.out.lt b hb).2) ho5 (by omega))
           clear ho5 hb5 HTB)
        | (go_at_call 16
           refine HS5.out.mono ?_
           rintro e w6 ⟨rfl, hb6⟩
           have B6 := B5.trans (hb6.mono B5.size)
           clear hb6 HS5)
        | (go_at_call 21
           refine (HCA.out _ B6).mono ?_
           rintro e w7 ⟨A7, C7, c7, rfl, hi7, ho7, hb7⟩
           have B7 := B6.trans (hb7.mono B6.size)
           have hc7 := cyc_len hi7
           have HO7 := Lib.hid ho7
           have HI7 := Lib.hid hi7
           clear ho7 hb7 hi7 HCA)
        | (go_at_call 21
           refine (HCB.out _ B7).mono ?_
           rintro e w8 ⟨A8, C8, c8, rfl, hi8, ho8, hb8⟩
           obtain rfl := HI7.out.same hi8
           have B8 := B7.trans (hb8.mono B7.size)
           have HS8 := Lib.hid (same_own w8 _ _ c7 c8 A7 A8 C7 (HO7.out.keep fun b hb => hb8.block b (HO7.out.lt b hb).2) ho8 (by omega))
           clear ho8 hb8 hi8 HCB)
        | (go_at_call 16
           refine HS8.out.mono ?_
           rintro e w9 ⟨rfl, hb9⟩
           have B9 := B8.trans (hb9.mono B8.size)
           have B9' := B9.alloc B9.size (.cells #[.int .i64 a2, .int .i64 0] 3)
           clear hb9 HS8)
        | (go_at_call 19
           refine (HRA.out _ B9' _ 2 2 [a2, 0] (ints_lit w9 [a2, 0] 2 rfl 3 _ rfl) (by omega)).mono ?_
           rintro e w10 ⟨A10, c10, rfl, ho10, hb10⟩
           have B10 := B9'.trans (hb10.mono B9'.size)
           have B10' := B10.alloc B10.size (.cells #[.int .i64 0, .int .i64 a2] 3)
           have HO10 := Lib.hid ho10
           clear ho10 hb10 HRA)
        | (go_at_call 19
           refine (HRB.out _ B10' _ 2 2 [0, a2] (ints_lit w10 [0, a2] 2 rfl 3 _ rfl) (by omega)).mono ?_
           rw [HRE.out]
           rintro e w11 ⟨A11, c11, rfl, ho11, hb11⟩
           have B11 := B10'.trans (hb11.mono B10'.size)
           have HS11 := Lib.hid (same_own w11 _ _ c10 c11 A10 A11 _ (HO10.out.keep fun b hb => by
             have h1 := (HO10.out.lt b hb).2
             exact (hb11.block b (by simp; omega)).trans (Below.heap_alloc w10 _ b h1)) ho11 (by omega))
           clear ho11 hb11 HRB)
        | (go_at_call 16
           refine HS11.out.mono ?_
           rintro e w12 ⟨rfl, hb12⟩
           have B12 := B11.trans (hb12.mono B11.size)
           clear hb12 HS11)
        | (go_at_call 24
           refine (HPA.out _ B12).mono ?_
           rintro e w13 ⟨A13, c13, rfl, ho13, hb13⟩
           have B13 := B12.trans (hb13.mono B12.size)
           have HO13 := Lib.hid ho13
           clear ho13 hb13 HPA)
        | (go_at_call 24
           refine (HPB.out _ B13).mono ?_
           rintro e w14 ⟨A14, c14, rfl, ho14, hb14⟩
           have B14 := B13.trans (hb14.mono B13.size)
           have HO13' := Lib.hid (HO13.out.below hb14 (Nat.le_refl _))
           have HO14 := Lib.hid ho14
           clear ho14 hb14 HPB HO13))
      go_loopw [17] (fun i wr => ∃ j : Nat, j ≤ cs.length ∧ i = .int .i64 j ∧ Below w14.heap.size w14 wr) (fun i _ => cs.length - (intOf i).toNat)
      case atStart => exact ⟨0, Nat.zero_le _, rfl, Below.refl _ _⟩
      case round =>
        obtain ⟨j, hj, rfl, hB⟩ := hrel
        have hszr := hB.size
        have BR := B14.trans (hB.mono B14.size)
        obtain ⟨wl, hwl⟩ : ∃ W, W = wr := ⟨_, rfl⟩
        subst hwl
        by_cases hlt : j < cs.length
        · obtain ⟨_, k1⟩ := (HO13'.out.below hB (Nat.le_refl _)).at_ (k := j)
          obtain ⟨gA, v, l, rfl, hgA, hl1, ho1, hc1⟩ := k1 hlt
          obtain ⟨_, k2⟩ := (HO14.out.below hB (Nat.le_refl _)).at_ (k := j)
          obtain ⟨gB, v2, l2, rfl, hgB, hl2, ho2, hc2⟩ := k2 hlt
          have e : l2 = l := by
            rw [hl1] at hl2
            injection hl2 with hl2
            exact hl2.symm
          subst e
          have hll := HCR.out _ (List.mem_of_getElem? hl1)
          obtain ⟨Av, cv, rfl, _, _⟩ := ho1.slice
          obtain ⟨Bv, cw, rfl, _, _⟩ := ho2.slice
          have CA := Lib.hid (sum_own wl _ cv Av l2 ho1 (by omega))
          have CB := Lib.hid (sum_own wl _ cw Bv l2 ho2 (by omega))
          obtain ⟨sv, hsv⟩ : ∃ sv, H.sumI (H.sb cmpS) (l2.map fun n : Nat => (n : Int)) = sv := ⟨_, rfl⟩
          rw [hsv] at CA CB
          have hsn : (sv != sv) = false := by simp
          have Bz : Below wl.heap.size wl wl := Below.refl _ _
          have HB := Lib.hid hB
          clear hl1 hl2 ho1 ho2 k1 k2 hsv hB
          go_wp2_with fail
          go_region_held3 (fun W => W.cell? ⟨gA, j, none⟩ = some (.slice Av l2.length cv) ∧ W.cell? ⟨gB, j, none⟩ = some (.slice Bv l2.length cw))
            (first | exact ⟨hc1, hc2⟩ | exact ⟨(B5z.cell (p := ⟨gA, j, none⟩) hgA).trans hc1, (B5z.cell (p := ⟨gB, j, none⟩) hgB).trans hc2⟩ | exact ⟨(B6z.cell (p := ⟨gA, j, none⟩) hgA).trans hc1, (B6z.cell (p := ⟨gB, j, none⟩) hgB).trans hc2⟩)
            (first
              | (go_at_call 28; ((with_reducible refine (CA.out _ ?_).mono ?_); focus (first | exact Bz.drew | exact Bz)); rintro e w15 ⟨rfl, B5z⟩)
              | (go_at_call 28; ((with_reducible refine (CB.out _ ?_).mono ?_); focus (exact B5z)); rintro e w16 ⟨rfl, B6z⟩))
          all_goals
            have HB16 := Lib.hid (HB.out.trans (B6z.mono hszr))
            go_wp2_with fail
            go_roundw
            case rel => exact ⟨j + 1, by omega, by go_num, HB16.out⟩
            case measure => simp [intOf]; omega
        · have HLV := Lib.hid (lives_any wl (HTO.out.keep (BR.block _ (by omega))))
          go_wp2_with (go_at_call 17
                       refine HLV.out.mono ?_
                       rintro e w17 ⟨rfl, hB17⟩)
          go_ret
          exact ⟨rfl, HB2.out.trans ((BR.trans (hB17.mono BR.size)).mono hs2)⟩
    · obtain ⟨u, hu⟩ : ∃ u, p = u + 1 := ⟨p - 1, by omega⟩
      have hpu : (p : Int) - 1 = (u : Int) := by omega
      rw [hpu]
      have huE : u < E.length := by omega
      obtain ⟨x, y, hxy⟩ : ∃ x y, E[u]? = some (x, y) := ⟨E[u].1, E[u].2, List.getElem?_eq_getElem huE⟩
      obtain ⟨gE, cE, e, hgE1, hgE2⟩ := HO3.out.form (by omega)
      injection e with e1 _ e3
      subst e1 e3
      obtain ⟨k1, k2⟩ := HO3.out.cells hxy
      have c1 := (hB.cell (p := ⟨gE, u * 2, none⟩) hgE2).trans k1
      have c2 := (hB.cell (p := ⟨gE, u * 2 + 1, none⟩) hgE2).trans k2
      have HXY := Lib.hid hxy
      have HU := Lib.hid hu
      have HREV := Lib.hid (show Rev E (u + 1) L from hu ▸ hrev.out)
      obtain ⟨r, hr⟩ : ∃ r, u % 3 = r := ⟨_, rfl⟩
      have hr1 : (u : Int).tmod 3 = (r : Int) := by rw [← hr]; rfl
      have HOA := Lib.hid (show (wo.alloc (.cells #[nv x, nv y] 39)).ownsRow w3.heap.size 39 2 (.slice oA L.length oc) L.length (pcs L) from HO.out.keep fun b hb => Below.heap_alloc wo _ b (HO.out.lt b hb).2)
      clear hxy k1 k2 hr hrev hu
      by_cases hrq : r = q
      · have hrq1 : ((r : Int) == (q : Int)) = true := by simp; omega
        have HRQ := Lib.hid hrq
        clear hrq
        go_wp2_with (first
          | (at_builtin
             refine wpList_append_lies _ rfl (.tmp 30) (.tmp 35) 24 rfl w3.heap.size 39 i0 _ 2 16 Tryd.underlying24 hi0 hz0 hz1 hz2 rfl (by decide) (.slice oA L.length oc) L.length (pcs L) rfl HOA.out ⟨wo.heap.size, 0, none⟩ 1 1 [nv x, nv y] rfl rfl (fun j u hu => cells2_row wo _ _ _ j u hu) (by simp [Value.oneCell', nv]) (by decide) (by simp only [maxLen]; omega) (by omega) (by simp; omega) _ rfl ?_
             intro g4 cc4 w4 hown4 hgrow4 hor4 hlt4
             have ho4 : OwnE w4 w3.heap.size (.slice (some ⟨g4, 0, none⟩) (L.length + 1) cc4) (L ++ [(x, y)]) := by
               unfold OwnE
               rw [pcs_snoc, List.length_append]
               exact hown4
             have hB4 := (hB.alloc hsz (.cells #[nv x, nv y] 39)).grown hgrow4 (by simp; omega) (fun b e => (HO.out.lt b e).1)
             have hs4 := hB4.size
             have d1 := (hB4.cell (p := ⟨gE, u * 2, none⟩) hgE2).trans ((hB.cell (p := ⟨gE, u * 2, none⟩) hgE2).symm.trans c1)
             have d2 := (hB4.cell (p := ⟨gE, u * 2 + 1, none⟩) hgE2).trans ((hB.cell (p := ⟨gE, u * 2 + 1, none⟩) hgE2).symm.trans c2)
             have HO4 := Lib.hid ho4
             have HB4 := Lib.hid hB4
             have HOA4 := Lib.hid (show (w4.alloc (.cells #[nv x, nv y] 39)).ownsRow w3.heap.size 39 2 (.slice (some ⟨g4, 0, none⟩) (L.length + 1) cc4) (L.length + 1) (pcs (L ++ [(x, y)])) from by
               have h := ho4.keep (W' := w4.alloc (.cells #[nv x, nv y] 39)) fun b hb => Below.heap_alloc w4 _ b (ho4.lt b hb).2
               unfold OwnE at h
               rw [List.length_append] at h
               exact h)
             clear ho4 hB4 hown4 hgrow4 hor4 HOA)
          | (go_at_call 18
             refine (HA2.out _).mono ?_
             rintro e w5 ⟨rfl, rfl⟩)
          | (at_builtin
             refine wpList_append_lies _ rfl (.tmp 42) (.tmp 47) 24 rfl w3.heap.size 39 i0 _ 2 16 Tryd.underlying24 hi0 hz0 hz1 hz2 rfl (by decide) (.slice (some ⟨g4, 0, none⟩) (L.length + 1) cc4) (L.length + 1) (pcs (L ++ [(x, y)])) rfl HOA4.out ⟨_, 0, none⟩ 1 1 [nv x, nv y] rfl rfl (fun j u hu => cells2_row _ _ _ _ j u hu) (by simp [Value.oneCell', nv]) (by decide) (by simp only [maxLen]; omega) (by omega) (by simp; omega) _ rfl ?_
             intro g6 cc6 w6 hown6 hgrow6 hor6 hlt6
             have ho6 : OwnE w6 w3.heap.size (.slice (some ⟨g6, 0, none⟩) (L.length + 1 + 1) cc6) (L ++ [(x, y)] ++ [(x, y)]) := by
               unfold OwnE
               rw [pcs_snoc, List.length_append, List.length_append]
               exact hown6
             have HO6 := Lib.hid ho6
             have HB6 := Lib.hid ((HB4.out.alloc hs4 _).grown hgrow6 (by simp; omega) (fun b e => (HO4.out.lt b e).1))
             clear ho6 hown6 hgrow6 hor6))
        go_roundw
        case rel => exact ⟨u, _, by omega, by go_num, HO6.out, HREV.out.two HXY.out, HB6.out⟩
        case measure => first | (simp [intOf]; done) | (simp [intOf]; omega)
      · have hrq1 : ((r : Int) == (q : Int)) = false := by simp; omega
        clear hrq
        go_wp2_with (first
          | (at_builtin
             refine wpList_append_lies _ rfl (.tmp 30) (.tmp 35) 24 rfl w3.heap.size 39 i0 _ 2 16 Tryd.underlying24 hi0 hz0 hz1 hz2 rfl (by decide) (.slice oA L.length oc) L.length (pcs L) rfl HOA.out ⟨wo.heap.size, 0, none⟩ 1 1 [nv x, nv y] rfl rfl (fun j u hu => cells2_row wo _ _ _ j u hu) (by simp [Value.oneCell', nv]) (by decide) (by simp only [maxLen]; omega) (by omega) (by simp; omega) _ rfl ?_
             intro g4 cc4 w4 hown4 hgrow4 hor4 hlt4
             have ho4 : OwnE w4 w3.heap.size (.slice (some ⟨g4, 0, none⟩) (L.length + 1) cc4) (L ++ [(x, y)]) := by
               unfold OwnE
               rw [pcs_snoc, List.length_append]
               exact hown4
             have HB4 := Lib.hid ((hB.alloc hsz (.cells #[nv x, nv y] 39)).grown hgrow4 (by simp; omega) (fun b e => (HO.out.lt b e).1))
             have HO4 := Lib.hid ho4
             clear ho4 hown4 hgrow4 hor4 HOA)
          | (go_at_call 18
             refine (HA2.out _).mono ?_
             rintro e w5 ⟨rfl, rfl⟩))
        go_roundw
        case rel => exact ⟨u, _, by omega, by go_num, HO4.out, HREV.out.one HXY.out, HB4.out⟩
        case measure => first | (simp [intOf]; done) | (simp [intOf]; omega)
end Go.Proofs.YtjbmmagaeaphoaaDoor.LawGraphEdges

namespace Go.Proofs.YtjbmmagaeaphoaaDoor.graphEdges
open Go.ChangeShapes Go.WideShapes Go.ChangeAt Go.RowKit
open Go.ChangeMaps (open_string shut_string)
set_option linter.unusedVariables false

theorem own : ownKnob Tryd.prog.godebug = none := by kernel_rfl
theorem laidOut : laidOutB Tryd.prog = true := by kernel_rfl

/-- WHAT THE WALK IS TOLD OF A SLICE OF INTEGERS THAT CAME IN: it is nil; or it leads to a row of 'cap' cells, the numbers 'zs' (the first 'len' are its elements, the rest its spare room), each fitting its kind. -/
def IsRow (k : IntKind) (w : World) (a : Option Addr) (len cap : Nat) (zs : List Int) : Prop :=
  (a = none ∧ len = 0 ∧ cap = 0 ∧ zs = []) ∨
  ∃ x, a = some x ∧ len ≤ cap ∧ cap ≤ maxLen ∧ zs.length = cap ∧ (∀ i, i < zs.length → w.cell? (x.add i) = some (.int k (zs.getD i 0))) ∧ ∀ n ∈ zs, (Lit.int k n).wf = true

/-! ### STEP 1: THE WALK: the Go text returns true, AND WRITES NOTHING THAT WAS THERE: 'Below w.heap.size w w'' (Derived/Below.lean: '.refl', '.alloc', '.drew', '.setCell' at a new block, '.trans'). Open each 'IsRow' by 'rcases' AHEAD of 'go_enter'; part every test ahead of the walk. -/
theorem walk (a0 : Int) (a1 : Option Addr) (len1 cap1 : Nat) (z1 : List Int) (a2 : Int) (w : World) (w0 : (Lit.int .i64 a0).wf = true) (w1 : IsRow .i64 w a1 len1 cap1 z1) (w2 : (Lit.int .i64 a2).wf = true) (hT : Tab w) :
    Calls Tryd.prog 10 #[.int .i64 a0, .slice a1 len1 cap1, .int .i64 a2] w fun e w' => e = .returned (.bool true) ∧ Below w.heap.size w w' := by
  exact LawGraphEdges.walk a0 a1 len1 cap1 z1 a2 w w0 w1 w2 hT

/-! ### THE ROW's STEP: WRITTEN OUT: LEAVE IT -/
set_option maxRecDepth 100000 in
theorem lifted (os : Os) (started : os.Started) (H : Type) (enc : TypeId × Value → H) :
    ReturnsInHanded {} Tryd.checked os 10 .any (fun w args => (Rows.graphEdgesSpec.pre enc Tryd.prog Tryd.f10 [] false w args ∧ laidMetH Tryd.prog laidT w) ∧ sizedMet enc Tryd.prog Tryd.f10 (OpenSpec.ofChange Rows.graphEdgesSpec) false w args)
      (Rows.graphEdgesSpec.post enc Tryd.prog Tryd.f10 false true false false) := by
  refine returnsInHanded_of_change_and (C := Tryd.checked) (X := fun w _ => laidMetH Tryd.prog laidT w) (fun _ _ _ hh h => h.of_heap hh) own started (by kernel_rfl) Tryd.func10
    (ChangeSpec.witness_shaped (enc := enc) (C := Tryd.checked) (os := os) (X := fun w _ => laidMetH Tryd.prog laidT w) false (World.doorLaid Tryd.prog 14 os) #[.int .i64 0, .slice none 0 0, .int .i64 0] 8 rfl (World.shaped_of_RefB (by kernel_rfl) (by kernel_rfl)) (by kernel_rfl) (by kernel_rfl) (by kernel_rfl) (door_met os _)) ?_
  intro W base args ds gs before hval0 hW _ _ hL _
  have hval : ∀ (j : Nat) t v, Tryd.f10.params[j]? = some t → args[j]? = some v → Value.okWide Tryd.prog W .any base t v := hval0
  have hW' := hW
  obtain ⟨p, q, hA0, hV, rfl, hfz, hnd⟩ := hW
  have hA : DataW.TrodAll enc Tryd.prog W 0 (fun _ => true) true Tryd.f10.params.toList args.toList ds p := hA0
  rw [Tryd.params10] at hA hval
  obtain ⟨v0, vs0, d0, ds0, p0, q0, hargs, rfl, rfl, h0, r0⟩ := trodAll_cons hA
  obtain ⟨v1, vs1, d1, ds1, p1, q1, rfl, rfl, rfl, h1, r1⟩ := trodAll_cons r0
  obtain ⟨v2, vs2, d2, ds2, p2, q2, rfl, rfl, rfl, h2, r2⟩ := trodAll_cons r1
  obtain ⟨rfl, rfl, rfl⟩ := trodAll_nil r2
  obtain rfl : args = #[v0, v1, v2] := by cases args; simp_all
  obtain ⟨rfl, rfl⟩ := trodVars_none hV
  obtain ⟨a0, rfl, rfl, rfl, w0⟩ := open_int Tryd.underlying3 (hval 0 3 v0 rfl rfl) h0
  obtain ⟨a1, len1, cap1, rfl⟩ := okWide_slice Tryd.underlying22 (hval 1 22 v1 rfl rfl)
  have k1 := h1
  have lt1 : ∀ x ∈ p1, x.block < W.heap.size := by obtain ⟨m, hm⟩ := k1; exact DataW.trod_lt m _ _ _ hm
  obtain ⟨z1, w1⟩ : ∃ zs, IsRow .i64 W a1 len1 cap1 zs := by
    obtain ⟨fuel, hf⟩ := h1
    rcases open_ints Tryd.underlying22 Tryd.underlying3 (by kernel_rfl) hf with ⟨hcs, _⟩ | ⟨x, l, c, zs, hcs, _, hl, hm, hz, _, hcell, hwz⟩
    · simp [Value.cells] at hcs
      obtain ⟨rfl, rfl, rfl⟩ := hcs
      exact ⟨[], .inl ⟨rfl, rfl, rfl, rfl⟩⟩
    · simp [Value.cells] at hcs
      obtain ⟨rfl, rfl, rfl⟩ := hcs
      exact ⟨zs, .inr ⟨_, rfl, hl, hm, by simpa using hz, hcell, hwz⟩⟩
  obtain ⟨a2, rfl, rfl, rfl, w2⟩ := open_int Tryd.underlying3 (hval 2 3 v2 rfl rfl) h2
  clear hA0 hval0
  refine (walk a0 a1 len1 cap1 z1 a2 W w0 w1 w2 (of_laid hL)).mono fun e W' ⟨he, bel⟩ => ?_
  subst he
  exact ⟨_, rfl, _, _, _, [], _, [], hW', trodAll_mk1 (shut_bool Tryd.underlying4 _), (trodAll_cons_mk (shut_int Tryd.underlying3 w0) (trodAll_cons_mk (Below.trod laidOut (by kernel_rfl) (of_decide_eq_true (by kernel_rfl)) k1 bel lt1) (trodAll_cons_mk (shut_int Tryd.underlying3 w2) trodAll_mk0))), rfl, bel.frame _, fun h => by cases h⟩

theorem over : Rows.graphEdgesRow.holds Tryd.pinned (OpenSpec.ofChange Rows.graphEdgesSpec) :=
  OpenClaim.holds_of_wide 10 Tryd.f10 rfl rfl rfl rfl rfl rfl rfl ⟨rfl, rfl, rfl, rfl, rfl⟩ rfl rfl rfl rfl rfl (by kernel_rfl) Tryd.func10 (by kernel_rfl)
    (of_decide_eq_true (by kernel_rfl)) (by unfold Func.isWrapper; first | (rw [if_pos (by decide +kernel)]; kernel_rfl) | (rw [if_neg (by decide +kernel)]; exact ⟨rfl, rfl⟩))
    (fun os started H enc _ => lifted os started H enc)


/-! ### THE CARD -/
theorem cardHolds : Rows.GraphEdgesCardSaid :=
  Claim7.holds_tied_plain_at .later [] [.data] true (true, "fb1c7afc0f795047f9d06904fdd55d6c9f5b6031f2a9367aa7dd34fb37da98a6") true
    over (fun _ h => by cases h) (by kernel_rfl) (fun _ h => by cases h) graphEdges_row_tie rfl ⟨rfl, rfl⟩ (by kernel_rfl) rfl
    (fun f fn hf hfn => by
      obtain rfl : f = 10 := Option.some.inj ((show Tryd.prog.funcNamed "simproof/simprooflaw03.GraphEdges" = some 10 by kernel_rfl).symm.trans hf) |>.symm
      obtain rfl : fn = Tryd.f10 := (Option.some.inj (Tryd.func10.symm.trans hfn)).symm
      exact ⟨by kernel_rfl, fun j t ht => by
        rw [Tryd.params10] at ht
        have hm : t ∈ [3, 22, 3] := by simpa using Array.mem_of_getElem? ht
        have hall : ([3, 22, 3].all fun u => !Tryd.prog.wantsStandIn u) = true := by kernel_rfl
        exact (show Tryd.prog.wantsStandIn t = false by simpa using List.all_eq_true.1 hall t hm)⟩)
    (by kernel_rfl)
end Go.Proofs.YtjbmmagaeaphoaaDoor.graphEdges
