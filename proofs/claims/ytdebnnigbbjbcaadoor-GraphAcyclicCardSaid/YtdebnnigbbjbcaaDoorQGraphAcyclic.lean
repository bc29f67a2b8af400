/-
  The walk of GraphAcyclic: a topological order exists just if there is no cycle, and just if each component is one vertex without a loop; the order keeps each edge forward; the cycle is joined by edges.
  The tied card of the statement GraphAcyclic: for every input the law answers true and leaves its arguments as they were; the condition is the listed table of math/bits, which the card ties to the program's text. The frame of this proof was written by the guide's program, the walk is the text LawGraphAcyclic's.
-/
import Derived.Test.YtdebnnigbbjbcaaDoorK28
import Derived.Test.YtdebnnigbbjbcaaDoorK29
import Derived.Test.YtdebnnigbbjbcaaDoorK6
import Derived.Test.YtdebnnigbbjbcaaDoorK20
import Derived.Test.YtdebnnigbbjbcaaDoorK2
import Derived.Test.YtdebnnigbbjbcaaDoorRows
import Derived.Test.YtdebnnigbbjbcaaDoorCards
import Derived.Test.YtdebnnigbbjbcaaDoorTie
import Derived.Test.YtdebnnigbbjbcaaDoorK8
import Derived.SevenTiedPlain
import Derived.SevenTiedAt
import Derived.WalkKit
import Derived.ProofKit
import Derived.OpenShut
import Derived.ShutString
import Derived.ChangeOld
import Derived.Below

namespace Go.Proofs.YtdebnnigbbjbcaaDoor.LawGraphAcyclic
open Go Go.RowKit Go.Proofs Go.Proofs.YtdebnnigbbjbcaaDoor

def noLoop (E : List (Nat × Nat)) : Bool := E.all fun e => decide (e.1 ≠ e.2)
theorem noLoop_snoc (E : List (Nat × Nat)) (e : Nat × Nat) : noLoop (E ++ [e]) = (noLoop E && decide (e.1 ≠ e.2)) := by
  unfold noLoop
  simp
theorem noLoop_iff {k : Nat} {E : List (Nat × Nat)} (hE : ∀ e ∈ E, e.1 < k ∧ e.2 < k) : noLoop E = true ↔ ∀ v, v ∉ nb (succs k E) v := by
  unfold noLoop
  rw [List.all_eq_true]
  constructor
  · intro h v hv
    have := h (v, v) ((nb_succs hE v v).1 hv)
    simp at this
  · intro h e he
    refine decide_eq_true fun hh => h e.1 ?_
    rw [nb_succs hE]
    have : (e.1, e.1) = e := by rw [show (e.1, e.1) = (e.1, e.2) by rw [← hh]]
    rw [this]
    exact he
/-- The first j edges hold this one. -/
def anyE (E : List (Nat × Nat)) (x y : Nat) : Bool := decide ((x, y) ∈ E)
theorem anyE_snoc (E : List (Nat × Nat)) (e : Nat × Nat) (x y : Nat) : anyE (E ++ [e]) x y = (anyE E x y || (decide (e.1 = x) && decide (e.2 = y))) := by
  unfold anyE
  rw [Bool.eq_iff_iff]
  simp only [decide_eq_true_eq, Bool.or_eq_true, Bool.and_eq_true, List.mem_append, List.mem_singleton]
  constructor
  · rintro (h | h)
    · exact .inl h
    · exact .inr (by rw [← h]; exact ⟨rfl, rfl⟩)
  · rintro (h | ⟨h1, h2⟩)
    · exact .inl h
    · exact .inr (by rw [← h1, ← h2])
theorem take_snocE {E : List (Nat × Nat)} {j : Nat} {e : Nat × Nat} (h : E[j]? = some e) : E.take (j + 1) = E.take j ++ [e] := by
  rw [List.take_add_one, h]
  rfl

set_option maxRecDepth 100000 in
set_option maxHeartbeats 8000000 in
theorem walk (a0 : Int) (a1 : Option Addr) (len1 cap1 : Nat) (z1 : List Int) (w : World) (w0 : (Lit.int .i64 a0).wf = true) (w1 : Row .i64 w a1 len1 cap1 z1) (hT : Tab w) :
    Calls Tryd.prog 7 #[.int .i64 a0, .slice a1 len1 cap1] w fun e w' => e = .returned (.bool true) ∧ Below w.heap.size w w' := by
  have htb : 0 < w.heap.size := World.block_lt_of_cell? w _ (hT 0 (by omega))
  have hn : I64 a0 := by have := bounds_i64 w0; unfold I64; omega
  obtain ⟨hx, _, _, hz⟩ := w1.ints
  obtain ⟨zs, hzs⟩ : ∃ zs, z1.take len1 = zs := ⟨_, rfl⟩
  rw [hzs] at hx hz
  have hz64 := i64_of hz
  have HS := Lib.hid (size_any a0 hn w)
  obtain ⟨k, hk⟩ : ∃ k, sizeN a0 = k := ⟨_, rfl⟩
  have hk10 : k < 10 := by rw [← hk]; exact sizeN_lt a0
  rw [hk] at HS
  have hEl := edgesL_len k zs
  have hEd := edgesL_lt k zs
  have HFW := Lib.hid (forward_any k len1 cap1 a1 zs w (by omega) hx hz64)
  have hFl : (fwdL (edgesL k zs)).length ≤ 18 := by unfold fwdL; rw [List.length_mapIdx]; exact hEl
  have hFd := fwdL_lt hEd
  obtain ⟨F, hF⟩ : ∃ F, fwdL (edgesL k zs) = F := ⟨_, rfl⟩
  rw [hF] at HFW hFl hFd
  have HT := Lib.hid hT
  have HFd := Lib.hid hFd
  obtain ⟨nx, hnx⟩ : ∃ nx, succs k F = nx := ⟨_, rfl⟩
  have hnl : nx.length = k := by rw [← hnx, succs_len]
  have hiff := topo_iff nx
  have hcmp := comps_iff nx
  have hnoL := noLoop_iff hFd
  have HORD := Lib.hid (fun h => ord_topo hFd (n := k) h)
  have hgood := succs_good k F
  have HNB := Lib.hid (fun x y => nb_succs hFd x y)
  rw [hnx] at hnoL HORD hgood HNB
  rw [hnl] at hiff hcmp
  rw [← hnoL] at hcmp
  obtain ⟨okB, hok⟩ : ∃ b, decide ((topoL nx).length = k) = b := ⟨_, rfl⟩
  have hok2 : okB = true ↔ ¬ HasCyc nx := by rw [← hok, decide_eq_true_eq]; exact hiff
  have HR := Lib.hid (show okB = true → (topoR nx).length = k ∧ TOrd k F (topoR nx) from fun h => by
    have h1 : (topoL nx).length = k := by rw [← hok, decide_eq_true_eq] at h; exact h
    have e : topoR nx = topoL nx := by unfold topoR; rw [if_pos (by rw [hnl]; exact h1)]
    rw [e]
    exact ⟨h1, HORD.out h1⟩)
  obtain ⟨q, hq⟩ : ∃ q, (comps nx).length = q := ⟨_, rfl⟩
  rw [hq] at hcmp
  obtain ⟨sB, hsB⟩ : ∃ b, ((q : Int) == (k : Int)) = b := ⟨_, rfl⟩
  have hsB2 : sB = true ↔ q = k := by rw [← hsB, beq_iff_eq]; omega
  have HCYC := Lib.hid (fun C (h : IsCyc nx k k C) => isCyc_iff hgood (by rw [hnl]; exact h))
  have hsingle : (sB && noLoop F) = true ↔ ¬ HasCyc nx := by rw [Bool.and_eq_true, hsB2]; exact hcmp
  have HSI := Lib.hid hsingle
  have HOK := Lib.hid hok2
  have HHQ := Lib.hid hq
  have HHO := Lib.hid hok
  clear hx hz hz64 hzs w1 w0 hk hF hEd hFd hT hcmp hnoL hiff hsingle hok2 hsB2 HORD hgood hq hok
  go_enter Tryd.func7, Tryd.ntmps7
  go_wp2_with (first
    | (go_at_call 11
       refine HS.out.mono ?_
       rintro e w2 ⟨rfl, rfl⟩)
    | (go_at_call 13
       refine HFW.out.mono ?_
       rintro e w3 ⟨v3, rfl, ho3, hB3⟩
       obtain ⟨A3, c3, rfl, _, _⟩ := ho3.slice
       have HT3 := HT.out.keep (hB3.block _ htb)
       have HTA := Lib.hid (topo_at (c := c3) (by omega) (by omega) (ho3.edg).2 HFd.out)
       have HCA := Lib.hid (cyc_at (c := c3) (by omega) (by omega) (ho3.edg).2 HFd.out HT3)
       have HPA := Lib.hid (comp_at (c := c3) (by omega) (by omega) (ho3.edg).2 HFd.out)
       rw [hnx] at HTA HCA HPA
       unfold TopoAt at HTA
       unfold CycAt at HCA
       unfold CompAt at HPA
       rw [HHO.out] at HTA
       rw [HHQ.out] at HPA
       have HO3 := Lib.hid (ho3.edg).2
       have HB3 := Lib.hid hB3
       have HT3 := Lib.hid HT3
       have hs3 := hB3.size
       have B3 : Below w3.heap.size w3 w3 := Below.refl _ _
       clear ho3 hB3)
    | (go_at_call 14
       refine (HTA.out _ B3).mono ?_
       rintro e w4 ⟨A4, c4, rfl, ho4, hb4⟩
       have B4 := B3.trans hb4
       have HO4 := Lib.hid ho4
       clear ho4 hb4 HTA)
    | (go_at_call 21
       refine (HCA.out _ B4).mono ?_
       rintro e w5 ⟨A5, C, c5, rfl, hC, ho5, hb5⟩
       have B5 := B4.trans (hb5.mono B4.size)
       have HO5 := Lib.hid ho5
       have HR5 := Lib.hid (HO4.out.keep fun b hb => hb5.block b (HO4.out.lt b hb).2)
       have HC := Lib.hid hC
       clear ho5 hb5 HCA hC)
    | (go_at_call 24
       refine (HPA.out _ B5).mono ?_
       rintro e w6 ⟨A6, c6, rfl, _, hb6⟩
       have B6 := B5.trans (hb6.mono B5.size)
       have HR4 := Lib.hid (HR5.out.keep fun b hb => hb6.block b (HR5.out.lt b hb).2)
       have HC5 := Lib.hid (HO5.out.keep fun b hb => hb6.block b (HO5.out.lt b hb).2)
       clear hb6 HPA))
  have HCL := Lib.hid (HCYC.out C HC.out)
  obtain ⟨R, hR⟩ : ∃ R, topoR nx = R := ⟨_, rfl⟩
  have hRl := topoR_len nx
  have hCl := cyc_len HC.out
  rw [hR] at HR HR4 hRl ⊢
  have HOKC := Lib.hid (fun i (hi : i < C.length) => isCyc_ok HC.out hi)
  have hB06 := HB3.out.trans (B6.mono hs3)
  clear hR B3 B4 B5 HO4 HO5 HR5 HCYC
  go_loopw [11, 12] (fun s i W => ∃ (j : Nat) (b : Bool), j ≤ F.length ∧ s = .bool b ∧ i = .int .i64 (j : Int) ∧ Hid (b = (sB && noLoop (F.take j))) ∧ Below w6.heap.size w6 W) (fun _ i _ => F.length - (intOf i).toNat)
  case atStart => exact ⟨0, sB, Nat.zero_le _, rfl, rfl, (show sB = _ by simp [noLoop]), Below.refl _ _⟩
  case round =>
    obtain ⟨j, b, hj, rfl, rfl, hb, hB⟩ := hrel
    obtain ⟨wo, hwo⟩ : ∃ W, W = wr := ⟨_, rfl⟩
    subst hwo
    by_cases hlt : j < F.length
    · obtain ⟨bb, off, x, y, hAe, hbb, hxy, hc1, hc2⟩ := HO3.out.at_ hlt
      subst hAe
      have hbb6 := Nat.lt_of_lt_of_le hbb B6.size
      have hcx := (hB.cell (p := ⟨bb, off + j * 2, none⟩) hbb6).trans ((B6.cell (p := ⟨bb, off + j * 2, none⟩) hbb).trans hc1)
      have hcy := (hB.cell (p := ⟨bb, off + j * 2 + 1, none⟩) hbb6).trans ((B6.cell (p := ⟨bb, off + j * 2 + 1, none⟩) hbb).trans hc2)
      unfold nv at hcx hcy
      have hn := noLoop_snoc (F.take j) (x, y)
      rw [← take_snocE hxy] at hn
      have HN := Lib.hid hn
      clear hxy hc1 hc2 hn
      cases b with
      | false =>
        have HX := Lib.hid (show false = (sB && noLoop (F.take (j + 1))) by rw [HN.out, ← Bool.and_assoc, ← hb.out]; rfl)
        go_wp2
        go_quiet (fail)
        go_wp2
        go_roundw
        case rel => exact ⟨j + 1, false, by omega, rfl, by go_num, HX.out, below_drewN' hB _⟩
        case measure => simp [intOf]; omega
      | true =>
        obtain ⟨B, hBB⟩ : ∃ B, ((x : Int) != (y : Int)) = B := ⟨_, rfl⟩
        have hBx : B = decide (x ≠ y) := by
          rw [← hBB, Bool.eq_iff_iff]
          simp
          omega
        have HX := Lib.hid (show B = (sB && noLoop (F.take (j + 1))) by rw [HN.out, ← Bool.and_assoc, ← hb.out, hBx]; rfl)
        clear hBx
        go_wp2
        go_quiet (fail)
        go_wp2
        go_roundw
        case rel => exact ⟨j + 1, B, by omega, rfl, by go_num, HX.out, below_drewN' hB _⟩
        case measure => simp [intOf]; omega
    · obtain rfl : F.length = j := by omega
      have hbv := hb.out
      rw [List.take_length] at hbv
      have hbc : b = true ↔ ¬ HasCyc nx := by rw [hbv]; exact HSI.out
      have hBo := B6.trans (hB.mono B6.size)
      have HRO := Lib.hid (HR4.out.keep fun b hb => hB.block b (HR4.out.lt b hb).2)
      have HCO := Lib.hid (HC5.out.keep fun b hb => hB.block b (HC5.out.lt b hb).2)
      have HTO := Lib.hid (HT3.out.keep (hBo.block _ (by omega)))
      have HEO := Lib.hid ((HO3.out.below hBo).more hBo.size)
      have hB2o := HB3.out.trans (hBo.mono hs3)
      have HBO := Lib.hid hB2o
      have hs2o := hB2o.size
      have hso := hBo.size
      clear hb hbv hB hB2o HR4 HC5 HT3 hBo hB06
      by_cases hcyc : HasCyc nx
      · have hb0 : b = false := by
          cases b with
          | false => rfl
          | true => exact absurd hcyc (hbc.1 rfl)
        have hk0 : okB = false := by
          cases okB with
          | false => rfl
          | true => exact absurd hcyc (HOK.out.1 rfl)
        have hCne : C ≠ [] := fun e => (HCL.out.1 e) hcyc
        have hCp : 0 < C.length := List.length_pos_iff.2 hCne
        have hC0 : ((C.length : Int) == 0) = false := by simp [hCne]
        subst hb0 hk0
        clear hcyc hbc hCne
        clear HOK HHO HR
        go_wp2
        go_loopw [13] (fun i W => ∃ p : Nat, p ≤ C.length ∧ i = .int .i64 (p : Int) ∧ Below wo.heap.size wo W) (fun i _ => C.length - (intOf i).toNat)
        case atStart => exact ⟨0, Nat.zero_le _, rfl, Below.refl _ _⟩
        case round =>
          obtain ⟨p, hp, rfl, hB3⟩ := hrel
          obtain ⟨wp, hwp⟩ : ∃ W, W = wr := ⟨_, rfl⟩
          subst hwp
          by_cases hpl : p < C.length
          · obtain ⟨gC, c', e, _, hgC, hcC, _⟩ := HCO.out.form hCp
            injection e with e1 _ e3
            subst e1 e3
            obtain ⟨hok1, hok2, hok3⟩ := HOKC.out p hpl
            obtain ⟨q, hq⟩ : ∃ q, (p + 1) % C.length = q := ⟨_, rfl⟩
            have hql : q < C.length := by rw [← hq]; exact Nat.mod_lt _ hCp
            have hmod : ((p : Int) + 1).tmod (C.length : Int) = (q : Int) := by rw [← hq]; rfl
            rw [hq] at hok1
            have HCP := Lib.hid (HCO.out.keep (w' := wp) fun b hb => hB3.block b (HCO.out.lt b hb).2)
            have hcn := HCP.out.cell hql
            unfold nv at hcn
            obtain ⟨a, ha⟩ : ∃ a, C[p]?.getD 0 = a := ⟨_, rfl⟩
            obtain ⟨z, hz⟩ : ∃ z, C[q]?.getD 0 = z := ⟨_, rfl⟩
            obtain ⟨z0, hz0⟩ : ∃ z, C[0]?.getD 0 = z := ⟨_, rfl⟩
            rw [ha] at hok1 hok2 hok3
            rw [hz] at hok1 hcn
            rw [hz0] at hok2
            have HA := Lib.hid ha
            have HZ0 := Lib.hid hz0
            have HAN := Lib.hid (show anyE F a z = true from decide_eq_true ((HNB.out a z).1 hok1))
            have hne : ((C.length : Nat) : Int) ≠ 0 := by omega
            have hq0 : (0 : Int) ≤ (q : Int) := by omega
            have hq1 : (q : Int) < (C.length : Int) := by omega
            have HO3' := Lib.hid hok3
            clear hq ha hz hz0 hok1 hok3
            go_wp2
            go_loopw [15, 16] (fun s i W => ∃ (r : Nat) (b : Bool), r ≤ F.length ∧ s = .bool b ∧ i = .int .i64 (r : Int) ∧ Hid (b = anyE (F.take r) a z) ∧ Below wo.heap.size wo W) (fun _ i _ => F.length - (intOf i).toNat)
            case atStart => exact ⟨0, false, Nat.zero_le _, rfl, rfl, (show false = _ by simp [anyE]), hB3⟩
            case round =>
              obtain ⟨r, b, hr, rfl, rfl, hb, hB4⟩ := hrel
              obtain ⟨wl, hwl⟩ : ∃ W, W = wr := ⟨_, rfl⟩
              subst hwl
              have HCQ := Lib.hid (HCO.out.keep (w' := wl) fun b hb => hB4.block b (HCO.out.lt b hb).2)
              have hca := HCQ.out.cell hpl
              have hc0 := HCQ.out.cell hCp
              rw [HA.out] at hca
              rw [HZ0.out] at hc0
              unfold nv at hca hc0
              by_cases hrl : r < F.length
              · obtain ⟨bb, off, x, y, hAe, hbb, hxy, hc1, hc2⟩ := HEO.out.at_ hrl
                subst hAe
                have hcx := (hB4.cell (p := ⟨bb, off + r * 2, none⟩) hbb).trans hc1
                have hcy := (hB4.cell (p := ⟨bb, off + r * 2 + 1, none⟩) hbb).trans hc2
                unfold nv at hcx hcy
                have hn := anyE_snoc (F.take r) (x, y) a z
                rw [← take_snocE hxy] at hn
                have HN := Lib.hid hn
                clear hxy hc1 hc2 hn
                cases b with
                | true =>
                  have HX := Lib.hid (show true = anyE (F.take (r + 1)) a z by rw [HN.out, ← hb.out]; rfl)
                  go_wp2
                  go_quiet (fail)
                  go_wp2
                  go_roundw
                  case rel => exact ⟨r + 1, true, by omega, rfl, by go_num, HX.out, below_drewN' hB4 _⟩
                  case measure => simp [intOf]; omega
                | false =>
                  have hxB : ((x : Int) == (a : Int)) = decide (x = a) := by rw [Bool.eq_iff_iff]; simp; omega
                  have hyB : ((y : Int) == (z : Int)) = decide (y = z) := by rw [Bool.eq_iff_iff]; simp; omega
                  have HX := Lib.hid (show (decide (x = a) && decide (y = z)) = anyE (F.take (r + 1)) a z by rw [HN.out, ← hb.out]; rfl)
                  obtain ⟨B1, hB1⟩ : ∃ B, decide (x = a) = B := ⟨_, rfl⟩
                  obtain ⟨B2, hB2⟩ : ∃ B, decide (y = z) = B := ⟨_, rfl⟩
                  rw [hB1] at HX hxB
                  rw [hB2] at HX hyB
                  have heq := eq_pair (x : Int) (y : Int) (a : Int) (z : Int)
                  rw [hxB, hyB] at heq
                  clear hB1 hB2 hxB hyB
                  go_wp2
                  go_quiet (fail)
                  go_wp2
                  go_roundw
                  case rel => exact ⟨r + 1, B1 && B2, by omega, rfl, by go_num, HX.out, below_drewN' hB4 _⟩
                  case measure => simp [intOf]; omega
              · obtain rfl : F.length = r := by omega
                have hbv := hb.out
                rw [List.take_length, HAN.out] at hbv
                subst hbv
                clear hb
                have h1 : decide ((a : Int) < (z0 : Int)) = false := decide_eq_false (by omega)
                have h2 : decide (a < z0) = false := decide_eq_false (by omega)
                have HHA := Lib.hid (fun q A' n' c' hn hA => has_drop (W := wl.drewN q) (own_drewN HCQ.out q) (by omega) (p + 1) a (by omega) A' n' c' hn hA)
                rw [decide_eq_false HO3'.out] at HHA
                have hp1 : (p : Int) + 1 ≤ (C.length : Int) := by omega
                have hp0 : (0 : Int) ≤ (p : Int) + 1 := by omega
                have hCp2 : (0 : Int) < (C.length : Int) := by omega
                have hor : c5 = p + 1 ∨ ¬ c5 = p + 1 := by omega
                rcases hor with hor | hor
                all_goals
                  go_wp2
                  go_quiet (first | (go_at_call 27; refine Calls.quiet_of_same (HHA.out _ _ _ _ (by omega) (by first | exact .inl (by omega) | exact .inr rfl))))
                  go_wp2
                  go_roundw
                  case rel => exact ⟨p + 1, by omega, by go_num, below_drewN' hB4 _⟩
                  case measure => simp [intOf]; omega
          · obtain rfl : C.length = p := by omega
            have HLV := Lib.hid (lives_any wp (HTO.out.keep (hB3.block _ (by omega))))
            have HB3 := Lib.hid (HBO.out.trans (hB3.mono hs2o))
            have hs3p := HB3.out.size
            go_wp2_with (go_at_call 17
                         refine HLV.out.mono ?_
                         rintro e w8 ⟨rfl, hb8⟩
                         have HB8 := Lib.hid (HB3.out.trans (hb8.mono hs3p))
                         clear hb8)
            go_ret
            exact ⟨rfl, HB8.out⟩
      · have hb0 : b = true := hbc.2 hcyc
        have hk0 : okB = true := HOK.out.2 hcyc
        have hCe : C = [] := HCL.out.2 hcyc
        subst hb0 hk0 hCe
        obtain ⟨hRk, hOrd⟩ := HR.out rfl
        have HRE := Lib.hid (respects_any k F.length c3 w3.heap.size c4 A3 A4 F R wo (by omega) (by omega) HEO.out HFd.out (by have := HRO.out; rw [hRk] at this; exact this) hOrd)
        rw [hRk]
        clear hcyc hbc hOrd hRk
        go_wp2_with (first
          | (go_at_call 26
             refine HRE.out.mono ?_
             rintro e w7 ⟨rfl, hb7⟩
             have HLV := Lib.hid (lives_any w7 (HTO.out.keep (hb7.block _ (by omega))))
             have HB7 := Lib.hid (HBO.out.trans (hb7.mono hs2o))
             have hs7 := HB7.out.size
             clear hb7)
          | (go_at_call 17
             refine HLV.out.mono ?_
             rintro e w8 ⟨rfl, hb8⟩
             have HB8 := Lib.hid (HB7.out.trans (hb8.mono hs7))
             clear hb8))
        go_ret
        exact ⟨rfl, HB8.out⟩
end Go.Proofs.YtdebnnigbbjbcaaDoor.LawGraphAcyclic

namespace Go.Proofs.YtdebnnigbbjbcaaDoor.graphAcyclic
open Go.ChangeShapes Go.WideShapes Go.ChangeAt Go.RowKit
open Go.ChangeMaps (open_string shut_string)
set_option linter.unusedVariables false

theorem own : ownKnob Tryd.prog.godebug = none := by kernel_rfl
theorem laidOut : laidOutB Tryd.prog = true := by kernel_rfl

/-- WHAT THE WALK IS TOLD OF A SLICE OF INTEGERS THAT CAME IN: it is nil; or it leads to a row of 'cap' cells, the numbers 'zs' (the first 'len' are its elements, the rest its spare room), each fitting its kind. -/
def IsRow (k : IntKind) (w : World) (a : Option Addr) (len cap : Nat) (zs : List Int) : Prop :=
  (a = none ∧ len = 0 ∧ cap = 0 ∧ zs = []) ∨
  ∃ x, a = some x ∧ len ≤ cap ∧ cap ≤ maxLen ∧ zs.length = cap ∧ (∀ i, i < zs.length → w.cell? (x.add i) = some (.int k (zs.getD i 0))) ∧ ∀ n ∈ zs, (Lit.int k n).wf = true

/-! ### STEP 1: THE WALK: the Go text returns true, AND WRITES NOTHING THAT WAS THERE: 'Below w.heap.size w w'' (Derived/Below.lean: '.refl', '.alloc', '.drew', '.setCell' at a new block, '.trans'). Open each 'IsRow' by 'rcases' AHEAD of 'go_enter'; part every test ahead of the walk. -/
theorem walk (a0 : Int) (a1 : Option Addr) (len1 cap1 : Nat) (z1 : List Int) (w : World) (w0 : (Lit.int .i64 a0).wf = true) (w1 : IsRow .i64 w a1 len1 cap1 z1) (hT : Tab w) :
    Calls Tryd.prog 7 #[.int .i64 a0, .slice a1 len1 cap1] w fun e w' => e = .returned (.bool true) ∧ Below w.heap.size w w' := by
  exact LawGraphAcyclic.walk a0 a1 len1 cap1 z1 w w0 w1 hT

/-! ### THE ROW's STEP: WRITTEN OUT: LEAVE IT -/
set_option maxRecDepth 100000 in
theorem lifted (os : Os) (started : os.Started) (H : Type) (enc : TypeId × Value → H) :
    ReturnsInHanded {} Tryd.checked os 7 .any (fun w args => (Rows.graphAcyclicSpec.pre enc Tryd.prog Tryd.f7 [] false w args ∧ laidMetH Tryd.prog laidT w) ∧ sizedMet enc Tryd.prog Tryd.f7 (OpenSpec.ofChange Rows.graphAcyclicSpec) false w args)
      (Rows.graphAcyclicSpec.post enc Tryd.prog Tryd.f7 false true false false) := by
  refine returnsInHanded_of_change_and (C := Tryd.checked) (X := fun w _ => laidMetH Tryd.prog laidT w) (fun _ _ _ hh h => h.of_heap hh) own started (by kernel_rfl) Tryd.func7
    (ChangeSpec.witness_shaped (enc := enc) (C := Tryd.checked) (os := os) (X := fun w _ => laidMetH Tryd.prog laidT w) false (World.doorLaid Tryd.prog 14 os) #[.int .i64 0, .slice none 0 0] 8 rfl (World.shaped_of_RefB (by kernel_rfl) (by kernel_rfl)) (by kernel_rfl) (by kernel_rfl) (by kernel_rfl) (door_met os _)) ?_
  intro W base args ds gs before hval0 hW _ _ hL _
  have hval : ∀ (j : Nat) t v, Tryd.f7.params[j]? = some t → args[j]? = some v → Value.okWide Tryd.prog W .any base t v := hval0
  have hW' := hW
  obtain ⟨p, q, hA0, hV, rfl, hfz, hnd⟩ := hW
  have hA : DataW.TrodAll enc Tryd.prog W 0 (fun _ => true) true Tryd.f7.params.toList args.toList ds p := hA0
  rw [Tryd.params7] at hA hval
  obtain ⟨v0, vs0, d0, ds0, p0, q0, hargs, rfl, rfl, h0, r0⟩ := trodAll_cons hA
  obtain ⟨v1, vs1, d1, ds1, p1, q1, rfl, rfl, rfl, h1, r1⟩ := trodAll_cons r0
  obtain ⟨rfl, rfl, rfl⟩ := trodAll_nil r1
  obtain rfl : args = #[v0, v1] := by cases args; simp_all
  obtain ⟨rfl, rfl⟩ := trodVars_none hV
  obtain ⟨a0, rfl, rfl, rfl, w0⟩ := open_int Tryd.underlying3 (hval 0 3 v0 rfl rfl) h0
  obtain ⟨a1, len1, cap1, rfl⟩ := okWide_slice Tryd.underlying22 (hval 1 22 v1 rfl rfl)
  have k1 := h1
  have lt1 : ∀ x ∈ p1, x.block < W.heap.size := by obtain ⟨m, hm⟩ := k1; exact DataW.trod_lt m _ _ _ hm
  obtain ⟨z1, w1⟩ : ∃ zs, IsRow .i64 W a1 len1 cap1 zs := by
    obtain ⟨fuel, hf⟩ := h1
    rcases open_ints Tryd.underlying22 Tryd.underlying3 (by kernel_rfl) hf with ⟨hcs, _⟩ | ⟨x, l, c, zs, hcs, _, hl, hm, hz, _, hcell, hwz⟩
    · simp [Value.cells] at hcs
      obtain ⟨rfl, rfl, rfl⟩ := hcs
      exact ⟨[], .inl ⟨rfl, rfl, rfl, rfl⟩⟩
    · simp [Value.cells] at hcs
      obtain ⟨rfl, rfl, rfl⟩ := hcs
      exact ⟨zs, .inr ⟨_, rfl, hl, hm, by simpa using hz, hcell, hwz⟩⟩
  clear hA0 hval0
  refine (walk a0 a1 len1 cap1 z1 W w0 w1 (of_laid hL)).mono fun e W' ⟨he, bel⟩ => ?_
  subst he
  exact ⟨_, rfl, _, _, _, [], _, [], hW', trodAll_mk1 (shut_bool Tryd.underlying4 _), (trodAll_cons_mk (shut_int Tryd.underlying3 w0) (trodAll_cons_mk (Below.trod laidOut (by kernel_rfl) (of_decide_eq_true (by kernel_rfl)) k1 bel lt1) trodAll_mk0)), rfl, bel.frame _, fun h => by cases h⟩

theorem over : Rows.graphAcyclicRow.holds Tryd.pinned (OpenSpec.ofChange Rows.graphAcyclicSpec) :=
  OpenClaim.holds_of_wide 7 Tryd.f7 rfl rfl rfl rfl rfl rfl rfl ⟨rfl, rfl, rfl, rfl, rfl⟩ rfl rfl rfl rfl rfl (by kernel_rfl) Tryd.func7 (by kernel_rfl)
    (of_decide_eq_true (by kernel_rfl)) (by unfold Func.isWrapper; first | (rw [if_pos (by decide +kernel)]; kernel_rfl) | (rw [if_neg (by decide +kernel)]; exact ⟨rfl, rfl⟩))
    (fun os started H enc _ => lifted os started H enc)


/-! ### THE CARD -/
theorem cardHolds : Rows.GraphAcyclicCardSaid :=
  Claim7.holds_tied_plain_at .later [] [.data] true (true, "fb1c7afc0f795047f9d06904fdd55d6c9f5b6031f2a9367aa7dd34fb37da98a6") true
    over (fun _ h => by cases h) (by kernel_rfl) (fun _ h => by cases h) graphAcyclic_row_tie rfl ⟨rfl, rfl⟩ (by kernel_rfl) rfl
    (fun f fn hf hfn => by
      obtain rfl : f = 7 := Option.some.inj ((show Tryd.prog.funcNamed "simproof/simprooflaw03.GraphAcyclic" = some 7 by kernel_rfl).symm.trans hf) |>.symm
      obtain rfl : fn = Tryd.f7 := (Option.some.inj (Tryd.func7.symm.trans hfn)).symm
      exact ⟨by kernel_rfl, fun j t ht => by
        rw [Tryd.params7] at ht
        have hm : t ∈ [3, 22] := by simpa using Array.mem_of_getElem? ht
        have hall : ([3, 22].all fun u => !Tryd.prog.wantsStandIn u) = true := by kernel_rfl
        exact (show Tryd.prog.wantsStandIn t = false by simpa using List.all_eq_true.1 hall t hm)⟩)
    (by kernel_rfl)
end Go.Proofs.YtdebnnigbbjbcaaDoor.graphAcyclic
