/-
  The walk of GraphExtends: an edge along the topological order keeps the order; an edge that closes a path makes the graph cyclic.
  The tied card of the statement GraphExtends: for every input the law answers true and leaves its arguments as they were; the condition is the listed table of math/bits, which the card ties to the program's text. The frame of this proof was written by the guide's program, the walk is the text LawGraphExtends's.
-/
import Derived.Deep.CutRange
import Derived.Test.YtdebnnigbbjbcaaDoorK28
import Derived.Test.YtdebnnigbbjbcaaDoorK6
import Derived.Test.YtdebnnigbbjbcaaDoorK27
import Derived.Test.YtdebnnigbbjbcaaDoorK30
import Derived.Test.YtdebnnigbbjbcaaDoorK2
import Derived.Test.YtdebnnigbbjbcaaDoorK26
import Derived.Test.YtdebnnigbbjbcaaDoorRows
import Derived.Test.YtdebnnigbbjbcaaDoorCards
import Derived.Test.YtdebnnigbbjbcaaDoorTie
import Derived.Test.YtdebnnigbbjbcaaDoorK8
import Derived.SevenTiedPlain
import Derived.SevenTiedAt
import Derived.WalkKit
import Derived.ProofKit
import Derived.OpenShut
import Derived.ShutString
import Derived.ChangeOld
import Derived.Below

namespace Go.Proofs.YtdebnnigbbjbcaaDoor.LawGraphExtends
open Go Go.RowKit Go.Proofs Go.Proofs.YtdebnnigbbjbcaaDoor

set_option maxRecDepth 100000 in
set_option maxHeartbeats 8000000 in
theorem walk (a0 : Int) (a1 : Option Addr) (len1 cap1 : Nat) (z1 : List Int) (a2 a3 : Int) (w : World) (w0 : (Lit.int .i64 a0).wf = true) (w1 : Row .i64 w a1 len1 cap1 z1) (w2 : (Lit.int .i64 a2).wf = true) (w3 : (Lit.int .i64 a3).wf = true) (hT : Tab w) :
    Calls Tryd.prog 9 #[.int .i64 a0, .slice a1 len1 cap1, .int .i64 a2, .int .i64 a3] w fun e w' => e = .returned (.bool true) ∧ Below w.heap.size w w' := by
  have htb : 0 < w.heap.size := World.block_lt_of_cell? w _ (hT 0 (by omega))
  have hn : I64 a0 := by have := bounds_i64 w0; unfold I64; omega
  have hn2 : I64 a2 := by have := bounds_i64 w2; unfold I64; omega
  have hn3 : I64 a3 := by have := bounds_i64 w3; unfold I64; omega
  clear w2 w3
  obtain ⟨hx, _, _, hz⟩ := w1.ints
  obtain ⟨zs, hzs⟩ : ∃ zs, z1.take len1 = zs := ⟨_, rfl⟩
  rw [hzs] at hx hz
  have hz64 := i64_of hz
  have HS := Lib.hid (size_any a0 hn w)
  obtain ⟨k, hk⟩ : ∃ k, sizeN a0 = k := ⟨_, rfl⟩
  have hk10 : k < 10 := by rw [← hk]; exact sizeN_lt a0
  rw [hk] at HS
  have hEl := edgesL_len k zs
  have hEd := edgesL_lt k zs
  have HFW := Lib.hid (forward_any k len1 cap1 a1 zs w (by omega) hx hz64)
  have hFl : (fwdL (edgesL k zs)).length ≤ 18 := by unfold fwdL; rw [List.length_mapIdx]; exact hEl
  have hFd := fwdL_lt hEd
  obtain ⟨F, hF⟩ : ∃ F, fwdL (edgesL k zs) = F := ⟨_, rfl⟩
  rw [hF] at HFW hFl hFd
  have HT := Lib.hid hT
  have HFd := Lib.hid hFd
  obtain ⟨nx, hnx⟩ : ∃ nx, succs k F = nx := ⟨_, rfl⟩
  have hnl : nx.length = k := by rw [← hnx, succs_len]
  have HORD := Lib.hid (fun h => ord_topo hFd (n := k) h)
  rw [hnx] at HORD
  obtain ⟨okB, hok⟩ : ∃ b, decide ((topoL nx).length = k) = b := ⟨_, rfl⟩
  have HR := Lib.hid (show okB = true → (topoR nx).length = k ∧ TOrd k F (topoR nx) from fun h => by
    have h1 : (topoL nx).length = k := by rw [← hok, decide_eq_true_eq] at h; exact h
    have e : topoR nx = topoL nx := by unfold topoR; rw [if_pos (by rw [hnl]; exact h1)]
    rw [e]
    exact ⟨h1, HORD.out h1⟩)
  have HHO := Lib.hid hok
  clear hx hz hz64 hzs w1 w0 hk hF hEd hFd hT HORD hok
  have hor : (okB = false ∨ (okB = true ∧ k = 0)) ∨ (okB = true ∧ 0 < k) := by
    cases okB with
    | false => exact .inl (.inl rfl)
    | true =>
      rcases Nat.eq_zero_or_pos k with h | h
      · exact .inl (.inr ⟨rfl, h⟩)
      · exact .inr ⟨rfl, h⟩
  rcases hor with (rfl | ⟨rfl, hk0⟩) | ⟨rfl, hk0⟩
  rotate_left 2
  · obtain ⟨hRk, hOrd⟩ := HR.out rfl
    obtain ⟨R, hR⟩ : ∃ R, topoR nx = R := ⟨_, rfl⟩
    rw [hR] at hRk hOrd
    have hkz : ((k : Int) == 0) = false := by simp; omega
    obtain ⟨i, hi⟩ := Int.eq_ofNat_of_zero_le (around_in a2 (k : Int) (by omega)).1
    obtain ⟨j, hj⟩ := Int.eq_ofNat_of_zero_le (around_in a3 (k : Int) (by omega)).1
    have hik : i < k := by have := (around_in a2 (k : Int) (by omega)).2; omega
    have hjk : j < k := by have := (around_in a3 (k : Int) (by omega)).2; omega
    have HAI := Lib.hid (fun W => around_any a2 (k : Int) hn2 (by omega) (by omega) W)
    have HAJ := Lib.hid (fun W => around_any a3 (k : Int) hn3 (by omega) (by omega) W)
    rw [hi] at HAI
    rw [hj] at HAJ
    have hac : ¬ HasCyc nx := by rw [← hnx]; exact hOrd.acyclic HFd.out
    have HCLO := Lib.hid (closing_iff (n := k) (i := i) (j := j) HFd.out hik hjk (by rw [hnx]; exact hac))
    have HADL := Lib.hid (add_lt (x := j) (y := i) HFd.out hjk hik)
    have HORD := Lib.hid hOrd
    rw [hnx] at HCLO
    obtain ⟨hB, hhB⟩ : ∃ b, decide (j ∈ rset nx [i]) = b := ⟨_, rfl⟩
    have hgd := succs_good k (F ++ [(j, i)])
    have hti := topo_iff (succs k (F ++ [(j, i)]))
    rw [succs_len] at hti
    obtain ⟨okC, hokC⟩ : ∃ b, decide ((topoL (succs k (F ++ [(j, i)]))).length = k) = b := ⟨_, rfl⟩
    have hhor : (hB = true ∧ okC = false) ∨ (hB = false ∧ okC = true) := by
      by_cases h : j ∈ rset nx [i]
      · refine .inl ⟨by rw [← hhB]; exact decide_eq_true h, ?_⟩
        rw [← hokC]
        exact decide_eq_false fun e => (hti.1 e) (HCLO.out.2 h)
      · refine .inr ⟨by rw [← hhB]; exact decide_eq_false h, ?_⟩
        rw [← hokC]
        exact decide_eq_true (hti.2 fun e => h (HCLO.out.1 e))
    have HCY := Lib.hid (show ∀ CC, IsCyc (succs k (F ++ [(j, i)])) k k CC → ((CC.length : Int) == 0) = okC from fun CC hC => by
      have h1 := isCyc_iff hgd (C := CC) (by rw [succs_len]; exact hC)
      rw [← hti] at h1
      rw [← hokC, Bool.eq_iff_iff, beq_iff_eq, decide_eq_true_eq, ← h1]
      constructor
      · intro e
        exact List.eq_nil_of_length_eq_zero (by omega)
      · intro e
        rw [e]
        rfl)
    have HOKC := Lib.hid hokC
    have HHB := Lib.hid hhB
    have hhor := Lib.hid hhor
    clear hi hj hn2 hn3 hac HR hti hgd hokC hhB
    go_enter Tryd.func9, Tryd.ntmps9
    have hor2 : ((i : Int) != (j : Int)) = false ∨ (((i : Int) != (j : Int)) = true ∧ i ≠ j) := by
      by_cases h : i = j
      · subst h
        exact .inl (by simp)
      · exact .inr ⟨by simp; omega, h⟩
    go_upto_region 10 with (first
      | (go_at_call 11
         refine HS.out.mono ?_
         rintro e w2 ⟨rfl, rfl⟩)
      | (go_at_call 13
         refine HFW.out.mono ?_
         rintro e w3 ⟨v3, rfl, ho3, hB3⟩
         obtain ⟨A3, c3, rfl, _, _⟩ := ho3.slice
         have HTA := Lib.hid (topo_at (c := c3) (by omega) (by omega) (ho3.edg).2 HFd.out)
         have HRA := Lib.hid (reach_at (c := c3) (by omega) (by omega) (ho3.edg).2 HFd.out)
         rw [hnx] at HTA HRA
         unfold TopoAt at HTA
         rw [HHO.out, hR] at HTA
         rw [hRk] at HTA
         have HO3 := Lib.hid ho3
         have HB3 := Lib.hid hB3
         have hs3 := hB3.size
         clear ho3 hB3)
      | (go_at_call 14
         refine (HTA.out _ (Below.refl _ _)).mono ?_
         rintro e w4 ⟨A4, c4, rfl, ho4, hb4⟩
         have HB34 := Lib.hid hb4
         have HE4 := Lib.hid (((HO3.out.edg).2.below hb4).more hb4.size)
         have HRE := Lib.hid (respects_any k F.length c3 w3.heap.size c4 A3 A4 F R w4 (by omega) (by omega) HE4.out HFd.out ho4 HORD.out)
         have HO4 := Lib.hid ho4
         clear ho4 hb4 HTA)
      | (go_at_call 26
         refine HRE.out.mono ?_
         rintro e w5 ⟨rfl, hb5⟩
         have HB35 := Lib.hid (HB34.out.trans (hb5.mono HB34.out.size))
         have HO5 := Lib.hid (HO4.out.keep fun b hb => hb5.block b (HO4.out.lt b hb).2)
         clear hb5 HRE)
      | (go_at_call 18
         refine (HAI.out _).mono ?_
         rintro e w6 ⟨rfl, hw⟩
         subst hw
         clear HAI)
      | (go_at_call 18
         refine (HAJ.out _).mono ?_
         rintro e w6 ⟨rfl, hw⟩
         subst hw))
    obtain ⟨gR, cR, eR, _, hgR, _, _⟩ := HO5.out.form (by rw [hRk]; exact hk0)
    injection eR with eR1 eR2 eR3
    subst eR1
    clear eR2 eR3
    rcases hor2 with hij | ⟨hij, hne⟩
    · have BZ := HB35.out
      have BZ2 := HB3.out.trans (BZ.mono hs3)
      rcases hhor.out with ⟨rfl, rfl⟩ | ⟨rfl, rfl⟩
      all_goals as_aux_lemma =>
        have hz3 := BZ.size
        have hz2 := BZ2.size
        have HR1 := Lib.hid (reach_own HRA.out [i] (fun x hx => by rw [List.mem_singleton] at hx; omega) (by simp))
        have BL1 := BZ.alloc BZ.size (.cells #[.int .i64 (i : Int)] 3)
        have HL1 := Lib.hid (own_lit1 w5 w3.heap.size i BZ.size)
        have hrl := rset_len nx [i]
        have HSRC3 := Lib.hid (fun (W : World) (hb : Below w3.heap.size w3 W) => (HO3.out.below hb (Nat.le_refl _)).src)
        go_wp2_with (first
          | (go_at_call 19
             refine (HR1.out _ BL1 _ _ _ _ HL1.out).mono ?_
             rintro e w11 ⟨A11, c11, rfl, ho11, hb11⟩
             have B11 := BL1.trans (hb11.mono BL1.size)
             have HO11 := Lib.hid ho11
             have HS11 := Lib.hid (HSRC3.out (w11.alloc (.cells #[] 39)) (B11.alloc B11.size _))
             clear ho11 hb11 HR1 BL1 HL1)
          | (at_builtin
             refine wpList_append_pairs rfl (.tmp 99) (.tmp 100) rfl w11.heap.size (some ⟨w11.heap.size, 0, none⟩) 0 0 [] rfl (ownE_lit0 w11 _ (Nat.le_refl _)) A3 F.length c3 F rfl HS11.out (by simp; omega) (by simp) ?_
             intro A12 c12 w12 hown12 hgr12
             have hb12 : Below w11.heap.size w11 w12 := ((Below.refl _ w11).alloc (Nat.le_refl _) _).grown hgr12 (by simp) (fun b e => by simp [Value.ownBlock] at e; omega)
             rw [Nat.zero_add, List.nil_append] at hown12
             rw [Nat.zero_add]
             have HW12 := Lib.hid hown12
             have HB12 := Lib.hid hb12
             have hz12 := hb12.size
             clear hown12 hgr12 hb12)
          | (at_builtin
             refine wpList_append_pairs rfl (.tmp 101) (.tmp 105) rfl w11.heap.size A12 F.length c12 F rfl (ownE_alloc HW12.out) (some ⟨w12.heap.size, 0, none⟩) 1 1 [(j, i)] rfl (src_litg w12 _ j i rfl) (by simp; omega) (by simp; omega) ?_
             intro A13 c13 w13 hown13 hgr13
             have hb13 : Below w11.heap.size w11 w13 := (HB12.out.alloc hz12 _).grown hgr13 (by simp; omega) (fun b e => (HW12.out.lt b e).1)
             have he13 := (hown13.edg).2
             rw [List.length_append, List.length_singleton] at he13
             have B13 := B11.trans (hb13.mono B11.size)
             have HT13 := HT.out.keep ((HB3.out.trans (B13.mono hs3)).block _ htb)
             have HTC := Lib.hid (topo_at (c := c13) (by omega) (by omega) he13 HADL.out)
             have HCC := Lib.hid (cyc_at (c := c13) (by omega) (by omega) he13 HADL.out HT13)
             unfold TopoAt at HTC
             unfold CycAt at HCC
             rw [HOKC.out] at HTC
             have HO13 := Lib.hid (HO11.out.keep fun b hb => hb13.block b (HO11.out.lt b hb).2)
             have HT13 := Lib.hid HT13
             clear hown13 hgr13 he13 hb13)
          | (go_at_call 14
             refine (HTC.out _ (Below.refl _ _)).mono ?_
             rintro e w14 ⟨A14, c14, rfl, _, hb14⟩
             have B14 := B13.trans (hb14.mono B13.size)
             have HO14 := Lib.hid (HO13.out.keep fun b hb => hb14.block b (HO13.out.lt b hb).2)
             have HHA := Lib.hid (hasN_any A11 c11 j (rset nx [i]) _ w14 HO14.out (by omega))
             rw [HHB.out] at HHA
             have HB14 := Lib.hid hb14
             clear hb14 HTC)
          | (go_at_call 27
             refine HHA.out.mono ?_
             rintro e w15 ⟨rfl, hw⟩
             have hw := hw.symm
             subst hw
             clear HHA)
          | (go_at_call 21
             refine (HCC.out _ HB14.out).mono ?_
             rintro e w16 ⟨A16, CC, c16, rfl, hC, _, hb16⟩
             have hcl0 := HCY.out CC hC
             have B16 := B14.trans (hb16.mono B14.size)
             have HLV := Lib.hid (lives_any w16 (HT.out.keep ((HB3.out.trans (B16.mono hs3)).block _ htb)))
             clear hC hb16 HCC)
          | (go_at_call 17
             refine HLV.out.mono ?_
             rintro e w17 ⟨rfl, hb17⟩
             have HB17 := Lib.hid (HB3.out.trans ((B16.trans (hb17.mono B16.size)).mono hs3))
             clear hb17))
        go_ret
        exact ⟨rfl, HB17.out⟩
    · obtain ⟨p, hp⟩ : ∃ p, min i j = p := ⟨_, rfl⟩
      obtain ⟨q, hq⟩ : ∃ q, max i j = q := ⟨_, rfl⟩
      have hmn : min (i : Int) (j : Int) = (p : Int) := by omega
      have hmx : max (i : Int) (j : Int) = (q : Int) := by omega
      have hpq : p < q := by omega
      have hpk : p < k := by omega
      have hqk : q < k := by omega
      clear hp hq
      obtain ⟨xi, hxi⟩ : ∃ x, R[p]? = some x := ⟨_, List.getElem?_eq_getElem (by omega)⟩
      obtain ⟨xj, hxj⟩ : ∃ x, R[q]? = some x := ⟨_, List.getElem?_eq_getElem (by omega)⟩
      have hci := HO5.out.cell (i := p) (by omega)
      have hcj := HO5.out.cell (i := q) (by omega)
      rw [hxi] at hci
      rw [hxj] at hcj
      have hci : w5.cell? ⟨gR, p, none⟩ = some (.int .i64 (xi : Int)) := hci
      have hcj : w5.cell? ⟨gR, q, none⟩ = some (.int .i64 (xj : Int)) := hcj
      have hxil : xi < k := HORD.out.lt xi (List.mem_of_getElem? hxi)
      have hxjl : xj < k := HORD.out.lt xj (List.mem_of_getElem? hxj)
      have hiI : (p : Int) < (k : Int) := by omega
      have hjI : (q : Int) < (k : Int) := by omega
      go_upto_region 11 with fail
      have HOR2 := Lib.hid (HORD.out.add hxi hxj hpq)
      have HAD2 := Lib.hid (add_lt (x := xi) (y := xj) HFd.out hxil hxjl)
      clear hxi hxj
      as_aux_lemma =>
        go_cut [15] from 54 to 71 (fun s15 wx => ∃ A c, s15 = .slice A (F.length + 1) c ∧ OwnE wx w5.heap.size (.slice A (F.length + 1) c) (F ++ [(xi, xj)]) ∧ Below w5.heap.size w5 wx)
        case first =>
          have hs35 := HB35.out.size
          have HK := Lib.hid (fun (W : World) (hb : Below w5.heap.size w5 W) => And.intro ((hb.cell (p := ⟨gR, p, none⟩) hgR).trans hci) ((hb.cell (p := ⟨gR, q, none⟩) hgR).trans hcj))
          have HSRC := Lib.hid (fun (W : World) (hb : Below w5.heap.size w5 W) => ((HO3.out.below HB35.out (Nat.le_refl _)).below hb (Nat.le_refl _)).src)
          go_region_held3 (fun W => W.cell? ⟨gR, p, none⟩ = some (Value.int .i64 (xi : Int)) ∧ W.cell? ⟨gR, q, none⟩ = some (Value.int .i64 (xj : Int)))
            (exact HK.out _ (by repeat (first | with_reducible exact Below.refl _ _ | with_reducible exact hb7 | with_reducible exact hb6 | with_reducible refine Below.drew ?_ | with_reducible refine Below.alloc ?_ (by first | omega | (simp; done) | (simp; omega)) _)))
            (first
              | (refine step_append_pairs rfl (.tmp 54) (.tmp 55) rfl w5.heap.size _ 0 0 [] (by simp [Act.eval]; rfl) (by repeat (first | with_reducible exact ownE_lit0g _ _ _ (by first | rfl | (simp; done)) (by omega) | with_reducible refine ownE_drew ?_ | with_reducible refine ownE_alloc ?_)) A3 F.length c3 F (by simp [Act.eval]) (HSRC.out _ (by repeat (first | with_reducible exact Below.refl _ _ | with_reducible refine Below.drew ?_ | with_reducible refine Below.alloc ?_ (by first | omega | (simp; done) | (simp; omega)) _))) (by simp; omega) (by first | omega | (simp; done) | (simp; omega)) ?_
                 intro A6 c6 w6 hown6 hgr6
                 have hb6 : Below w5.heap.size w5 w6 := (show Below w5.heap.size w5 _ by repeat (first | with_reducible exact Below.refl _ _ | with_reducible refine Below.drew ?_ | with_reducible refine Below.alloc ?_ (by first | omega | (simp; done) | (simp; omega)) _)).grown hgr6 (by first | omega | (simp; done) | (simp; omega)) (fun b e => by simp [Value.ownBlock] at e; omega)
                 first
                   | have hp6 := src_keep_new hgr6
                   | have hp6 := src_keep_old hgr6
                   | skip
                 have hz6 := hb6.size
                 rw [Nat.zero_add, List.nil_append] at hown6
                 rw [Nat.zero_add])
              | (refine step_append_pairs rfl (.tmp 56) (.tmp 70) rfl w5.heap.size A6 F.length c6 F (by simp [Act.eval]) (by repeat (first | with_reducible exact hown6 | with_reducible refine ownE_drew ?_ | with_reducible refine ownE_alloc ?_)) _ 1 1 [(xi, xj)] (by simp [Act.eval]; rfl) (by repeat (first | with_reducible exact hp6 | with_reducible exact src_litg _ _ _ _ (by first | rfl | (simp; done)) | with_reducible refine src_drew ?_)) (by simp; omega) (by have := hb6.size; first | omega | (simp; done) | (simp; omega)) ?_
                 intro A7 c7 w7 hown7 hgr7
                 have hb7 : Below w5.heap.size w5 w7 := (show Below w5.heap.size w5 _ by repeat (first | with_reducible exact hb6 | with_reducible refine Below.drew ?_ | with_reducible refine Below.alloc ?_ (by have := hb6.size; first | omega | (simp; done) | (simp; omega)) _)).grown hgr7 (by have := hb6.size; first | omega | (simp; done) | (simp; omega)) (fun b e => (hown6.lt b e).1)))
          all_goals
            go_wp2_with fail
            go_meet
            exact ⟨A7, c7, rfl, hown7, hb7⟩
        case rest =>
          obtain ⟨A7, c7, rfl, hown7, hb7⟩ := hcut
          obtain ⟨G, hG⟩ : ∃ G, F ++ [(xi, xj)] = G := ⟨_, rfl⟩
          rw [hG] at hown7 HOR2 HAD2
          have hGl : G.length = F.length + 1 := by rw [← hG]; simp
          have heG := (hown7.edg).2
          rw [hGl] at heG
          have hwh := HOR2.out.whole HAD2.out
          have hgnl : (succs k G).length = k := succs_len k G
          have hR2o : TOrd k G (topoR (succs k G)) ∧ (topoR (succs k G)).length = k := by
            have e : topoR (succs k G) = topoL (succs k G) := by unfold topoR; rw [if_pos (by rw [hgnl]; exact hwh)]
            rw [e]
            exact ⟨ord_topo HAD2.out hwh, hwh⟩
          have HTB := Lib.hid (topo_at (c := c7) (by omega) (by omega) heG HAD2.out)
          unfold TopoAt at HTB
          rw [decide_eq_true hwh] at HTB
          obtain ⟨R2, hR2⟩ : ∃ R2, topoR (succs k G) = R2 := ⟨_, rfl⟩
          rw [hR2] at HTB hR2o
          obtain ⟨hO2, hl2⟩ := hR2o
          rw [hl2] at HTB
          have HO2 := Lib.hid hO2
          have HEG := Lib.hid heG
          have BC := HB35.out.trans (hb7.mono HB35.out.size)
          have HOC := Lib.hid (HO5.out.keep fun b hb => hb7.block b (HO5.out.lt b hb).2)
          clear hG hwh hR2 hO2 heG hown7 hgnl
          go_upto_region 15 with (first
            | (go_at_call 14
               refine (HTB.out _ (Below.refl _ _)).mono ?_
               rintro e w8 ⟨A8, c8, rfl, ho8, hb8⟩
               have hE8 := (HEG.out.below hb8).more hb8.size
               have HRE1 := Lib.hid (respects_any k (F.length + 1) c7 wc.heap.size c8 A7 A8 G R2 w8 (by omega) (by omega) hE8 HAD2.out ho8 HO2.out)
               have B8 := BC.trans (hb8.mono BC.size)
               have HE8 := Lib.hid hE8
               have HOE := Lib.hid (HOC.out.keep fun b hb => hb8.block b (HOC.out.lt b hb).2)
               clear ho8 hb8 HTB hE8)
            | (go_at_call 26
               refine HRE1.out.mono ?_
               rintro e w9 ⟨rfl, hb9⟩
               have B9 := B8.trans (hb9.mono B8.size)
               have HRE2 := Lib.hid (respects_any k (F.length + 1) c7 w3.heap.size c4 A7 (some ⟨gR, 0, none⟩) G R w9 (by omega) (by omega) ((HE8.out.below hb9).more hb9.size) HAD2.out (HOE.out.keep fun b hb => hb9.block b (HOE.out.lt b hb).2) HOR2.out)
               clear hb9 HRE1)
            | (go_at_call 26
               refine HRE2.out.mono ?_
               rintro e w10 ⟨rfl, hb10⟩
               have BZ := B9.trans (hb10.mono B9.size)
               clear hb10 HRE2))
          have BZ2 := HB3.out.trans (BZ.mono hs3)
          rcases hhor.out with ⟨rfl, rfl⟩ | ⟨rfl, rfl⟩
          all_goals as_aux_lemma =>
            have hz3 := BZ.size
            have hz2 := BZ2.size
            have HR1 := Lib.hid (reach_own HRA.out [i] (fun x hx => by rw [List.mem_singleton] at hx; omega) (by simp))
            have BL1 := BZ.alloc BZ.size (.cells #[.int .i64 (i : Int)] 3)
            have HL1 := Lib.hid (own_lit1 w10 w3.heap.size i BZ.size)
            have hrl := rset_len nx [i]
            have HSRC3 := Lib.hid (fun (W : World) (hb : Below w3.heap.size w3 W) => (HO3.out.below hb (Nat.le_refl _)).src)
            go_wp2_with (first
              | (go_at_call 19
                 refine (HR1.out _ BL1 _ _ _ _ HL1.out).mono ?_
                 rintro e w11 ⟨A11, c11, rfl, ho11, hb11⟩
                 have B11 := BL1.trans (hb11.mono BL1.size)
                 have HO11 := Lib.hid ho11
                 have HS11 := Lib.hid (HSRC3.out (w11.alloc (.cells #[] 39)) (B11.alloc B11.size _))
                 clear ho11 hb11 HR1 BL1 HL1)
              | (at_builtin
                 refine wpList_append_pairs rfl (.tmp 99) (.tmp 100) rfl w11.heap.size (some ⟨w11.heap.size, 0, none⟩) 0 0 [] rfl (ownE_lit0 w11 _ (Nat.le_refl _)) A3 F.length c3 F rfl HS11.out (by simp; omega) (by simp) ?_
                 intro A12 c12 w12 hown12 hgr12
                 have hb12 : Below w11.heap.size w11 w12 := ((Below.refl _ w11).alloc (Nat.le_refl _) _).grown hgr12 (by simp) (fun b e => by simp [Value.ownBlock] at e; omega)
                 rw [Nat.zero_add, List.nil_append] at hown12
                 rw [Nat.zero_add]
                 have HW12 := Lib.hid hown12
                 have HB12 := Lib.hid hb12
                 have hz12 := hb12.size
                 clear hown12 hgr12 hb12)
              | (at_builtin
                 refine wpList_append_pairs rfl (.tmp 101) (.tmp 105) rfl w11.heap.size A12 F.length c12 F rfl (ownE_alloc HW12.out) (some ⟨w12.heap.size, 0, none⟩) 1 1 [(j, i)] rfl (src_litg w12 _ j i rfl) (by simp; omega) (by simp; omega) ?_
                 intro A13 c13 w13 hown13 hgr13
                 have hb13 : Below w11.heap.size w11 w13 := (HB12.out.alloc hz12 _).grown hgr13 (by simp; omega) (fun b e => (HW12.out.lt b e).1)
                 have he13 := (hown13.edg).2
                 rw [List.length_append, List.length_singleton] at he13
                 have B13 := B11.trans (hb13.mono B11.size)
                 have HT13 := HT.out.keep ((HB3.out.trans (B13.mono hs3)).block _ htb)
                 have HTC := Lib.hid (topo_at (c := c13) (by omega) (by omega) he13 HADL.out)
                 have HCC := Lib.hid (cyc_at (c := c13) (by omega) (by omega) he13 HADL.out HT13)
                 unfold TopoAt at HTC
                 unfold CycAt at HCC
                 rw [HOKC.out] at HTC
                 have HO13 := Lib.hid (HO11.out.keep fun b hb => hb13.block b (HO11.out.lt b hb).2)
                 have HT13 := Lib.hid HT13
                 clear hown13 hgr13 he13 hb13)
              | (go_at_call 14
                 refine (HTC.out _ (Below.refl _ _)).mono ?_
                 rintro e w14 ⟨A14, c14, rfl, _, hb14⟩
                 have B14 := B13.trans (hb14.mono B13.size)
                 have HO14 := Lib.hid (HO13.out.keep fun b hb => hb14.block b (HO13.out.lt b hb).2)
                 have HHA := Lib.hid (hasN_any A11 c11 j (rset nx [i]) _ w14 HO14.out (by omega))
                 rw [HHB.out] at HHA
                 have HB14 := Lib.hid hb14
                 clear hb14 HTC)
              | (go_at_call 27
                 refine HHA.out.mono ?_
                 rintro e w15 ⟨rfl, hw⟩
                 have hw := hw.symm
                 subst hw
                 clear HHA)
              | (go_at_call 21
                 refine (HCC.out _ HB14.out).mono ?_
                 rintro e w16 ⟨A16, CC, c16, rfl, hC, _, hb16⟩
                 have hcl0 := HCY.out CC hC
                 have B16 := B14.trans (hb16.mono B14.size)
                 have HLV := Lib.hid (lives_any w16 (HT.out.keep ((HB3.out.trans (B16.mono hs3)).block _ htb)))
                 clear hC hb16 HCC)
              | (go_at_call 17
                 refine HLV.out.mono ?_
                 rintro e w17 ⟨rfl, hb17⟩
                 have HB17 := Lib.hid (HB3.out.trans ((B16.trans (hb17.mono B16.size)).mono hs3))
                 clear hb17))
            go_ret
            exact ⟨rfl, HB17.out⟩
  all_goals
    (try (have hkz : ((k : Int) == 0) = true := by simp [hk0]))
    (try clear hk0)
    go_enter Tryd.func9, Tryd.ntmps9
    go_wp2_with (first
      | (go_at_call 11
         refine HS.out.mono ?_
         rintro e w2 ⟨rfl, rfl⟩)
      | (go_at_call 13
         refine HFW.out.mono ?_
         rintro e w3 ⟨v3, rfl, ho3, hB3⟩
         obtain ⟨A3, c3, rfl, _, _⟩ := ho3.slice
         have HTA := Lib.hid (topo_at (c := c3) (by omega) (by omega) (ho3.edg).2 HFd.out)
         rw [hnx] at HTA
         unfold TopoAt at HTA
         rw [HHO.out] at HTA
         have HB3 := Lib.hid hB3
         have hs3 := hB3.size
         clear ho3 hB3)
      | (go_at_call 14
         refine (HTA.out _ (Below.refl _ _)).mono ?_
         rintro e w4 ⟨A4, c4, rfl, ho4, hb4⟩
         have HB4 := Lib.hid (HB3.out.trans (hb4.mono hs3))
         have HLV := Lib.hid (lives_any w4 (HT.out.keep (HB4.out.block _ htb)))
         have hs4 := HB4.out.size
         clear ho4 hb4 HTA)
      | (go_at_call 17
         refine HLV.out.mono ?_
         rintro e w8 ⟨rfl, hb8⟩
         have HB8 := Lib.hid (HB4.out.trans (hb8.mono hs4))
         clear hb8))
    go_ret
    exact ⟨rfl, HB8.out⟩
end Go.Proofs.YtdebnnigbbjbcaaDoor.LawGraphExtends

namespace Go.Proofs.YtdebnnigbbjbcaaDoor.graphExtends
open Go.ChangeShapes Go.WideShapes Go.ChangeAt Go.RowKit
open Go.ChangeMaps (open_string shut_string)
set_option linter.unusedVariables false

theorem own : ownKnob Tryd.prog.godebug = none := by kernel_rfl
theorem laidOut : laidOutB Tryd.prog = true := by kernel_rfl

/-- WHAT THE WALK IS TOLD OF A SLICE OF INTEGERS THAT CAME IN: it is nil; or it leads to a row of 'cap' cells, the numbers 'zs' (the first 'len' are its elements, the rest its spare room), each fitting its kind. -/
def IsRow (k : IntKind) (w : World) (a : Option Addr) (len cap : Nat) (zs : List Int) : Prop :=
  (a = none ∧ len = 0 ∧ cap = 0 ∧ zs = []) ∨
  ∃ x, a = some x ∧ len ≤ cap ∧ cap ≤ maxLen ∧ zs.length = cap ∧ (∀ i, i < zs.length → w.cell? (x.add i) = some (.int k (zs.getD i 0))) ∧ ∀ n ∈ zs, (Lit.int k n).wf = true

/-! ### STEP 1: THE WALK: the Go text returns true, AND WRITES NOTHING THAT WAS THERE: 'Below w.heap.size w w'' (Derived/Below.lean: '.refl', '.alloc', '.drew', '.setCell' at a new block, '.trans'). Open each 'IsRow' by 'rcases' AHEAD of 'go_enter'; part every test ahead of the walk. -/
theorem walk (a0 : Int) (a1 : Option Addr) (len1 cap1 : Nat) (z1 : List Int) (a2 : Int) (a3 : Int) (w : World) (w0 : (Lit.int .i64 a0).wf = true) (w1 : IsRow .i64 w a1 len1 cap1 z1) (w2 : (Lit.int .i64 a2).wf = true) (w3 : (Lit.int .i64 a3).wf = true) (hT : Tab w) :
    Calls Tryd.prog 9 #[.int .i64 a0, .slice a1 len1 cap1, .int .i64 a2, .int .i64 a3] w fun e w' => e = .returned (.bool true) ∧ Below w.heap.size w w' := by
  exact LawGraphExtends.walk a0 a1 len1 cap1 z1 a2 a3 w w0 w1 w2 w3 hT

/-! ### THE ROW's STEP: WRITTEN OUT: LEAVE IT -/
set_option maxRecDepth 100000 in
theorem lifted (os : Os) (started : os.Started) (H : Type) (enc : TypeId × Value → H) :
    ReturnsInHanded {} Tryd.checked os 9 .any (fun w args => (Rows.graphExtendsSpec.pre enc Tryd.prog Tryd.f9 [] false w args ∧ laidMetH Tryd.prog laidT w) ∧ sizedMet enc Tryd.prog Tryd.f9 (OpenSpec.ofChange Rows.graphExtendsSpec) false w args)
      (Rows.graphExtendsSpec.post enc Tryd.prog Tryd.f9 false true false false) := by
  refine returnsInHanded_of_change_and (C := Tryd.checked) (X := fun w _ => laidMetH Tryd.prog laidT w) (fun _ _ _ hh h => h.of_heap hh) own started (by kernel_rfl) Tryd.func9
    (ChangeSpec.witness_shaped (enc := enc) (C := Tryd.checked) (os := os) (X := fun w _ => laidMetH Tryd.prog laidT w) false (World.doorLaid Tryd.prog 14 os) #[.int .i64 0, .slice none 0 0, .int .i64 0, .int .i64 0] 8 rfl (World.shaped_of_RefB (by kernel_rfl) (by kernel_rfl)) (by kernel_rfl) (by kernel_rfl) (by kernel_rfl) (door_met os _)) ?_
  intro W base args ds gs before hval0 hW _ _ hL _
  have hval : ∀ (j : Nat) t v, Tryd.f9.params[j]? = some t → args[j]? = some v → Value.okWide Tryd.prog W .any base t v := hval0
  have hW' := hW
  obtain ⟨p, q, hA0, hV, rfl, hfz, hnd⟩ := hW
  have hA : DataW.TrodAll enc Tryd.prog W 0 (fun _ => true) true Tryd.f9.params.toList args.toList ds p := hA0
  rw [Tryd.params9] at hA hval
  obtain ⟨v0, vs0, d0, ds0, p0, q0, hargs, rfl, rfl, h0, r0⟩ := trodAll_cons hA
  obtain ⟨v1, vs1, d1, ds1, p1, q1, rfl, rfl, rfl, h1, r1⟩ := trodAll_cons r0
  obtain ⟨v2, vs2, d2, ds2, p2, q2, rfl, rfl, rfl, h2, r2⟩ := trodAll_cons r1
  obtain ⟨v3, vs3, d3, ds3, p3, q3, rfl, rfl, rfl, h3, r3⟩ := trodAll_cons r2
  obtain ⟨rfl, rfl, rfl⟩ := trodAll_nil r3
  obtain rfl : args = #[v0, v1, v2, v3] := by cases args; simp_all
  obtain ⟨rfl, rfl⟩ := trodVars_none hV
  obtain ⟨a0, rfl, rfl, rfl, w0⟩ := open_int Tryd.underlying3 (hval 0 3 v0 rfl rfl) h0
  obtain ⟨a1, len1, cap1, rfl⟩ := okWide_slice Tryd.underlying22 (hval 1 22 v1 rfl rfl)
  have k1 := h1
  have lt1 : ∀ x ∈ p1, x.block < W.heap.size := by obtain ⟨m, hm⟩ := k1; exact DataW.trod_lt m _ _ _ hm
  obtain ⟨z1, w1⟩ : ∃ zs, IsRow .i64 W a1 len1 cap1 zs := by
    obtain ⟨fuel, hf⟩ := h1
    rcases open_ints Tryd.underlying22 Tryd.underlying3 (by kernel_rfl) hf with ⟨hcs, _⟩ | ⟨x, l, c, zs, hcs, _, hl, hm, hz, _, hcell, hwz⟩
    · simp [Value.cells] at hcs
      obtain ⟨rfl, rfl, rfl⟩ := hcs
      exact ⟨[], .inl ⟨rfl, rfl, rfl, rfl⟩⟩
    · simp [Value.cells] at hcs
      obtain ⟨rfl, rfl, rfl⟩ := hcs
      exact ⟨zs, .inr ⟨_, rfl, hl, hm, by simpa using hz, hcell, hwz⟩⟩
  obtain ⟨a2, rfl, rfl, rfl, w2⟩ := open_int Tryd.underlying3 (hval 2 3 v2 rfl rfl) h2
  obtain ⟨a3, rfl, rfl, rfl, w3⟩ := open_int Tryd.underlying3 (hval 3 3 v3 rfl rfl) h3
  clear hA0 hval0
  refine (walk a0 a1 len1 cap1 z1 a2 a3 W w0 w1 w2 w3 (of_laid hL)).mono fun e W' ⟨he, bel⟩ => ?_
  subst he
  exact ⟨_, rfl, _, _, _, [], _, [], hW', trodAll_mk1 (shut_bool Tryd.underlying4 _), (trodAll_cons_mk (shut_int Tryd.underlying3 w0) (trodAll_cons_mk (Below.trod laidOut (by kernel_rfl) (of_decide_eq_true (by kernel_rfl)) k1 bel lt1) (trodAll_cons_mk (shut_int Tryd.underlying3 w2) (trodAll_cons_mk (shut_int Tryd.underlying3 w3) trodAll_mk0)))), rfl, bel.frame _, fun h => by cases h⟩

theorem over : Rows.graphExtendsRow.holds Tryd.pinned (OpenSpec.ofChange Rows.graphExtendsSpec) :=
  OpenClaim.holds_of_wide 9 Tryd.f9 rfl rfl rfl rfl rfl rfl rfl ⟨rfl, rfl, rfl, rfl, rfl⟩ rfl rfl rfl rfl rfl (by kernel_rfl) Tryd.func9 (by kernel_rfl)
    (of_decide_eq_true (by kernel_rfl)) (by unfold Func.isWrapper; first | (rw [if_pos (by decide +kernel)]; kernel_rfl) | (rw [if_neg (by decide +kernel)]; exact ⟨rfl, rfl⟩))
    (fun os started H enc _ => lifted os started H enc)


/-! ### THE CARD -/
theorem cardHolds : Rows.GraphExtendsCardSaid :=
  Claim7.holds_tied_plain_at .later [] [.data] true (true, "fb1c7afc0f795047f9d06904fdd55d6c9f5b6031f2a9367aa7dd34fb37da98a6") true
    over (fun _ h => by cases h) (by kernel_rfl) (fun _ h => by cases h) graphExtends_row_tie rfl ⟨rfl, rfl⟩ (by kernel_rfl) rfl
    (fun f fn hf hfn => by
      obtain rfl : f = 9 := Option.some.inj ((show Tryd.prog.funcNamed "simproof/simprooflaw03.GraphExtends" = some 9 by kernel_rfl).symm.trans hf) |>.symm
      obtain rfl : fn = Tryd.f9 := (Option.some.inj (Tryd.func9.symm.trans hfn)).symm
      exact ⟨by kernel_rfl, fun j t ht => by
        rw [Tryd.params9] at ht
        have hm : t ∈ [3, 22, 3, 3] := by simpa using Array.mem_of_getElem? ht
        have hall : ([3, 22, 3, 3].all fun u => !Tryd.prog.wantsStandIn u) = true := by kernel_rfl
        exact (show Tryd.prog.wantsStandIn t = false by simpa using List.all_eq_true.1 hall t hm)⟩)
    (by kernel_rfl)
end Go.Proofs.YtdebnnigbbjbcaaDoor.graphExtends
