/-
  The walk of PosetCovers: Covers is the reference's; its order is the order, and without one cover it is not.
  The tied card of the statement PosetCovers: for every input the law answers true and leaves its arguments as they were; the condition is the listed table of math/bits, which the card ties to the program's text. The frame of this proof was written by the guide's program, the walk is the text LawPosetCovers's.
-/
import Derived.Test.YtlgdcbhdmffnoaaDoorK21
import Derived.Test.YtlgdcbhdmffnoaaDoorK19
import Derived.Test.YtlgdcbhdmffnoaaDoorK7
import Derived.Test.YtlgdcbhdmffnoaaDoorK20
import Derived.BigQuiet
import Derived.Deep.QuietTactic
import Derived.Deep.RegionHeld3
import Derived.Deep.RegionLaw
import Derived.Deep.DrawnRows
import Derived.Test.YtlgdcbhdmffnoaaDoorRows
import Derived.Test.YtlgdcbhdmffnoaaDoorCards
import Derived.Test.YtlgdcbhdmffnoaaDoorTie
import Derived.Test.YtlgdcbhdmffnoaaDoorK3
import Derived.SevenTiedPlain
import Derived.SevenTiedAt
import Derived.WalkKit
import Derived.ProofKit
import Derived.OpenShut
import Derived.ShutString
import Derived.ChangeOld
import Derived.Below

namespace Go.Proofs.YtlgdcbhdmffnoaaDoor.LawPosetCovers
open Go Go.RowKit Go.Proofs Go.Proofs.YtlgdcbhdmffnoaaDoor
attribute [local go_sem ↓] Go.wp_at_zero Go.wp_at_succ

set_option maxRecDepth 100000 in
set_option maxHeartbeats 4000000 in
theorem walk (a0 : Int) (a1 : Option Addr) (len1 cap1 : Nat) (z1 : List Int) (a2 : Int) (w : World) (w0 : (Lit.int .i64 a0).wf = true) (w1 : Row .i64 w a1 len1 cap1 z1) (w2 : (Lit.int .i64 a2).wf = true) (hT : Tab w) :
    Calls Tryd.prog 6 #[.int .i64 a0, .slice a1 len1 cap1, .int .i64 a2] w fun e w' => e = .returned (.bool true) ∧ Below w.heap.size w w' := by
  have hn : I64 a0 := by have := bounds_i64 w0; unfold I64; omega
  have hn2 : I64 a2 := by have := bounds_i64 w2; unfold I64; omega
  obtain ⟨hx, _, _, hz⟩ := w1.ints
  obtain ⟨zs, hzs⟩ : ∃ zs, z1.take len1 = zs := ⟨_, rfl⟩
  rw [hzs] at hx hz
  have hz64 := i64_of hz
  have HCY := Lib.hid (cyc_a a0 hn a1 len1 cap1 zs w hx hz64)
  have HLV := Lib.hid (fun V hb => lives_a w V hT hb)
  cases hk : okA a0 zs with
  | false =>
    rw [hk] at HCY
    clear hx hz hz64 hzs w1 w0 w2 hT hn hn2
    go_enter Tryd.func6, Tryd.ntmps6
    go_wp2_with (first
      | (go_at_call 23; refine HCY.out.mono ?_; clear HCY; rintro e w2 ⟨rfl, hb2⟩)
      | (go_at_call 17; refine (HLV.out _ hb2).mono ?_; clear HLV; rintro e w3 ⟨rfl, hb3⟩))
    go_ret
    exact ⟨rfl, hb3⟩
  | true =>
    rw [hk] at HCY
    obtain ⟨hcl, hRl, hlt⟩ := ordA_cl a0 hk
    have hk8 := nA_lt a0
    have HMA := Lib.hid (fun W (hb : Below w.heap.size w W) => made_a a0 hn a1 len1 cap1 zs w W hT hx hz64 hk hb)
    have HCL := Lib.hid hcl
    have HLT := Lib.hid hlt
    have HT := Lib.hid hT
    have HN2 := Lib.hid hn2
    obtain ⟨k, hkk⟩ : ∃ k, nA a0 = k := ⟨_, rfl⟩
    obtain ⟨R, hR⟩ : ∃ R, ordA a0 zs = R := ⟨_, rfl⟩
    obtain ⟨M, hM⟩ : ∃ M, PO.wAll (m0 (prA a0 zs)) (nA a0) = M := ⟨_, rfl⟩
    simp only [hkk, hR] at HMA HCL hk8 hRl HLT
    rw [hkk] at hM
    simp only [hM] at HMA HLT
    have HRL := Lib.hid hRl
    clear hx hz hz64 hzs w1 w0 w2 hT hn hcl hkk hR hk hlt hM hn2
    go_enter Tryd.func6, Tryd.ntmps6
    go_wp2_with (first
      | (go_at_call 23; refine HCY.out.mono ?_; clear HCY; rintro e w2 ⟨rfl, hb2⟩; have HB2 := Lib.hid hb2; clear hb2)
      | (go_at_call 24; refine (HMA.out _ HB2.out).mono ?_; clear HMA; rintro e w3 ⟨p, A3, c3, gs, rfl, hG⟩; obtain ⟨w4, hw4⟩ : ∃ W, w3.alloc (.cells #[.int .i64 (k : Int), .slice A3 k c3] 33) = W := ⟨_, rfl⟩; obtain ⟨b, hb⟩ : ∃ b, w3.heap.size = b := ⟨_, rfl⟩; have HW4 := Lib.hid hw4; have HBB := Lib.hid hb; rw [hw4, hb] at hG; have HG := Lib.hid hG; clear hG hw4 hb)
      | (rw [HW4.out, HBB.out]))
    have hcov := callsIn_wide.1 (covers_in 6 (by omega) HG.out.od hRl (by omega) HCL.out (HG.out.tab HT.out) (Nat.le_refl _))
    refine hcov.mono ?_
    clear hcov
    rintro e w5 ⟨v5, rfl, ho5, hb5⟩
    obtain ⟨A5, c5, rfl⟩ := ownP_form ho5
    have HO5 := Lib.hid ho5
    have HG5 := Lib.hid (HG.out.next hb5)
    obtain ⟨e0, e1, _, _⟩ := HG5.out.ob.facts
    have hqn := covs_len R (by omega)
    have hco := cov_ord HCL.out (by omega)
    rw [hRl] at hco
    have HCI := Lib.hid (covs_in HCL.out.small)
    rw [hRl] at HCI
    have HCO := Lib.hid hco
    have HCX := Lib.hid (fun q x y h => covX_ord HCL.out (by omega) (q := q) (x := x) (y := y) h)
    have HCN := Lib.hid (fun q => covX_in HCL.out.small q)
    simp only [hRl] at HCX HCN
    have HXE := Lib.hid (fun q => (show covX R q = (PO.covs R).take q ++ (PO.covs R).drop (q + 1) from rfl))
    obtain ⟨E, hE⟩ : ∃ E, PO.covs R = E := ⟨_, rfl⟩
    have HE := Lib.hid hE
    simp only [hE] at HCX HCI HCO HO5 hqn HXE ⊢
    clear ho5 hb5 HW4 HBB HG hco hE
    go_wp2_with fail
    refine (refCovers_any w5 w.heap.size k A3 c3 gs M HG5.out.mx (by omega) R hRl HLT.out).mono ?_
    rintro e w6 ⟨v6, rfl, ho6, hb6⟩
    rw [HE.out] at ho6
    obtain ⟨A6, c6, rfl⟩ := ownP_form ho6
    have HO6 := Lib.hid ho6
    have HP6 := Lib.hid (HO5.out.keep fun b hb => hb6.block b (HO5.out.lt b hb).2)
    have HG6 := Lib.hid (HG5.out.next hb6)
    clear ho6 hb6 HO5 HG5 e0 e1
    go_wp2_with fail
    refine (samePairs_any A5 A6 _ _ c5 c6 _ _ w6 (ownP_edg HP6.out).2 (ownP_edg HO6.out).2 (by omega)).mono ?_
    rintro e w7 ⟨rfl, hb7⟩
    rw [decide_eq_true rfl]
    have HP7 := Lib.hid (HP6.out.keep fun b hb => hb7.block b (HP6.out.lt b hb).2)
    have HG7 := Lib.hid (HG6.out.next hb7)
    have hcn7 := HG7.out.n
    clear hb7 HP6 HG6 HO6
    go_wp2_with fail
    refine (new_e k E.length c5 A5 E w7 (HG7.out.tab HT.out) (by omega) (by omega) (ownP_edg HP7.out).2 HCI.out).mono ?_
    rintro e w8 ⟨hb8, ⟨hk5, _⟩ | ⟨_, p2, rfl, hod⟩⟩
    · exfalso
      rw [HCO.out.1] at hk5
      cases hk5
    have HOD := Lib.hid hod
    have HP8 := Lib.hid (HP7.out.keep fun b hb => hb8.block b (HP7.out.lt b hb).2)
    have HG8 := Lib.hid (HG7.out.next hb8)
    have hcn := HG8.out.n
    have hcl2 := ordE_cl (show k ≤ 8 by omega) HCI.out HCO.out.1
    have HC2 := Lib.hid hcl2
    have hRl2 := hcl2.2.1
    obtain ⟨R2, hR2⟩ : ∃ R2, ordE k E = R2 := ⟨_, rfl⟩
    rw [hR2] at hRl2 HOD HC2 HCO
    clear hb8 HP7 HG7 hod hcl2 hcn7 hR2
    go_wp2_with fail
    go_loopw [12] (fun i V => ∃ a : Nat, a ≤ k ∧ i = .int .i64 (a : Int) ∧ V = w8) (fun i _ => k - (intOf i).toNat)
    case atStart => exact ⟨0, by omega, rfl, rfl⟩
    case round =>
      obtain ⟨a, ha, rfl, rfl⟩ := hrel
      obtain ⟨w8, hw8⟩ : ∃ W, W = wr := ⟨_, rfl⟩
      subst hw8
      by_cases hak : a < k
      · go_wp2_with fail
        go_loopw [13] (fun i V => ∃ b : Nat, b ≤ k ∧ i = .int .i64 (b : Int) ∧ V = w8) (fun i _ => k - (intOf i).toNat)
        case atStart => exact ⟨0, by omega, rfl, rfl⟩
        case round =>
          obtain ⟨b', hb', rfl, rfl⟩ := hrel
          by_cases hbk : b' < k
          · have h1 := less_any HOD.out (by omega) HC2.out.1.small (a : Int) (b' : Int)
            have h2 := less_any HG8.out.od (by omega) HCL.out.small (a : Int) (b' : Int)
            rw [PO.ltI_nat' HC2.out.1.small, HCO.out.2] at h1
            rw [PO.ltI_nat' HCL.out.small] at h2
            obtain ⟨t, ht⟩ : ∃ t, PO.lt R a b' = t := ⟨_, rfl⟩
            rw [ht] at h1 h2
            have H1 := Lib.hid h1
            have H2 := Lib.hid h2
            have htt : (t != t) = false := by simp
            clear h1 h2 ht
            go_wp2_with (first
              | (go_at_call 18; ((with_reducible refine H1.out.mono ?_)); clear H1; rintro e w' ⟨rfl, rfl⟩)
              | (go_at_call 18; ((with_reducible refine H2.out.mono ?_)); clear H2; rintro e w' ⟨rfl, rfl⟩))
            go_roundw
            case rel => exact ⟨b' + 1, by omega, by go_num, trivial⟩
            case measure => simp [intOf]; omega
          · go_wp2_with fail
            go_roundw
            case rel => exact ⟨a + 1, by omega, by go_num, trivial⟩
            case measure => simp [intOf]; omega
      · obtain rfl : a = k := by omega
        by_cases hE0 : E.length = 0
        · have hz : ((E.length : Int) == 0) = true := by rw [hE0]; rfl
          have HLV2 := Lib.hid (HLV.out w8 HG8.out.bel)
          clear hE0
          go_wp2_with (go_at_call 17; refine HLV2.out.mono ?_; rintro e w9 ⟨rfl, hb9⟩)
          go_ret
          exact ⟨rfl, hb9⟩
        · have hz : ((E.length : Int) == 0) = false := beq_eq_false_iff_ne.2 (by omega)
          have hE1 : 0 < E.length := by omega
          obtain ⟨q, hq⟩ : ∃ q, gN a2 (E.length : Int) = q := ⟨_, rfl⟩
          have hql := gN_lt a2 (m := (E.length : Int)) (by omega)
          have har := around_any a2 (E.length : Int) HN2.out (by omega) (by omega) w8
          rw [gN_eq a2 (by omega), hq] at har
          rw [hq] at hql
          have hql2 : q < E.length := by omega
          have HAR := Lib.hid har
          obtain ⟨⟨x, y⟩, hxy⟩ : ∃ e, E[q]? = some e := ⟨E[q], List.getElem?_eq_getElem hql2⟩
          obtain ⟨g, hA5, hg8, hEc⟩ : ∃ g, A5 = some ⟨g, 0, none⟩ ∧ g < w8.heap.size ∧ E.length ≤ c5 := by
            rcases HP8.out.2 with ⟨_, e⟩ | ⟨g, cap, cur, e, _, h2, h3, _⟩
            · omega
            · injection e with e1 _ e3
              exact ⟨g, e1, heap_lt h2, by omega⟩
          have hqc : (q : Int) + 1 ≤ (c5 : Int) := by omega
          subst hA5
          have hinx := HCI.out _ (List.mem_of_getElem? hxy)
          have HXX := Lib.hid (HCX.out q x y hxy)
          have HXN := Lib.hid (HCN.out q)
          have hxe := HXE.out q
          obtain ⟨X, hX⟩ : ∃ X, covX R q = X := ⟨_, rfl⟩
          rw [hX] at HXX HXN hxe
          have HXE2 := Lib.hid hxe
          have hXl : X.length + 1 = E.length := by rw [hxe, List.length_append, List.length_take, List.length_drop]; omega
          have HXY := Lib.hid hxy
          have hq0 : (0 : Int) ≤ (q : Int) := by omega
          have hq1 : (q : Int) + 1 ≤ (E.length : Int) := by omega
          have hq2 : (0 : Int) ≤ (q : Int) + 1 := by omega
          have hqt : ((q : Int) + 1).toNat = q + 1 := by omega
          have hpx : w8.cell? ⟨g, q * 2, none⟩ = some (.int .i64 (x : Int)) := by
            have := World.ownsRow.cells HP8.out rfl (q * 2) (nv x) (by rw [pc_get, show q * 2 / 2 = q by omega, HXY.out]; simp)
            rw [Addr.add_lit, Nat.zero_add] at this
            exact this
          have hpy : w8.cell? ⟨g, q * 2 + 1, none⟩ = some (.int .i64 (y : Int)) := by
            have := World.ownsRow.cells HP8.out rfl (q * 2 + 1) (nv y) (by rw [pc_get, show (q * 2 + 1) / 2 = q by omega, HXY.out]; simp)
            rw [Addr.add_lit, Nat.zero_add] at this
            exact this
          have HPX := Lib.hid hpx
          have HPY := Lib.hid hpy
          clear hpx hpy
          have hb8 : b < w8.heap.size := heap_lt HG8.out.ob
          have HNW := Lib.hid (fun (V : World) A c (h1 : Tab V) (h2 : Edg V V.heap.size A X.length X) => (new_e a X.length c A X V h1 (by omega) (by omega) h2 HXN.out).mono fun e w' r => (show Below V.heap.size V w' ∧ ∃ p, e = .returned (.tuple #[.pointer (some ⟨p, 0, none⟩), .int .i64 0]) ∧ Od w' w'.heap.size p (ordE a X) from by
            rcases r.2 with ⟨h, _⟩ | ⟨_, h⟩
            · rw [HXX.out.1] at h; cases h
            · exact ⟨r.1, h⟩))
          have HSR := Lib.hid (src_take HP8.out (q := q) (by omega))
          clear hE0 har hq hxy hX hxe HCX HCN HXE
          go_wp2_with (first
            | (go_at_call 13; refine HAR.out.mono ?_; rintro e w' ⟨rfl, rfl⟩)
            | (at_builtin
               refine wpList_append_pairs rfl (.tmp 79) (.tmp 82) rfl w8.heap.size none 0 0 [] rfl ⟨rfl, .inl ⟨rfl, rfl⟩⟩ (some ⟨g, 0, none⟩) q c5 (E.take q) rfl HSR.out (by simp; omega) (Nat.le_refl _) ?_
               intro A9 c9 w9 hown9 hgrow9
               rw [Nat.zero_add, List.nil_append] at hown9
               rw [Nat.zero_add]
               have HO9 := Lib.hid hown9
               have hb9 := (Below.refl w8.heap.size w8).grown hgrow9 (Nat.le_refl _) (fun b e => by cases e)
               have HB9 := Lib.hid hb9
               clear hown9 hgrow9 hb9))
          have hs9 := HB9.out.size
          have HG9 := Lib.hid (HG8.out.next HB9.out)
          have HOD9 := Lib.hid ((HOD.out.below HB9.out).more hs9)
          have HP9 := Lib.hid (HP8.out.keep fun b hb => HB9.out.block b (HP8.out.lt b hb).2)
          have hcn9 := HG9.out.n
          have hq3 : (E.take q).length = q := by rw [List.length_take]; omega
          have HQ3 := Lib.hid hq3
          have hbl : b < w9.heap.size := heap_lt HG9.out.ob
          have Bz : Below w8.heap.size w9 w9 := Below.refl _ _
          have hwq : IntKind.i64.wrap ((q : Int) + 1) = (q : Int) + 1 := by rw [IntKind.wrap_i64]; omega
          have hlw : w9.heap.size = w9.heap.size := rfl
          clear hcn HP8 HSR HOD hq3 hlw
          obtain ⟨gA, hsd, hga⟩ : ∃ gA, SrcP w9 gA (E.length - (q + 1)) (c5 - (q + 1)) (E.drop (q + 1)) ∧ (if c5 = q + 1 then some ⟨g, 0, none⟩ else some ⟨g, (q + 1) * 2, none⟩) = gA := ⟨_, src_drop HP9.out (by omega), rfl⟩
          have HSD := Lib.hid hsd
          clear hsd
          go_region_held3 (fun W => W.cell? ⟨b, 0, none⟩ = some (.int .i64 (a : Int)))
            (first | exact hcn9 | exact hc10 | exact hc11)
            (first
              | (refine step_append_pairs rfl (.tmp 87) (.tmp 91) rfl w8.heap.size A9 q c9 (E.take q) (by simp [Act.eval]) HO9.out gA (E.length - (q + 1)) (c5 - (q + 1)) (E.drop (q + 1)) (by first | (simp [Act.eval]; done) | (simp [Act.eval]; rfl)) HSD.out (by rw [HQ3.out, List.length_drop]; omega) hs9 ?_
                 intro A10 c10 w10 hown10 hgrow10
                 rw [← HXE2.out] at hown10
                 rw [show q + (E.length - (q + 1)) = X.length by omega] at hown10 ⊢
                 have b10 : Below w8.heap.size w9 w10 := (Bz.drew).grown hgrow10 hs9 (fun b e => (HO9.out.lt b e).1)
                 have z10 := b10.size
                 have HO10 := Lib.hid hown10
                 have HG10 := Lib.hid (HG8.out.next (HB9.out.trans b10))
                 have HB810 := Lib.hid (HB9.out.trans b10)
                 have hc10 : w10.cell? ⟨b, 0, none⟩ = some (.int .i64 (a : Int)) := (hgrow10.cell_far ⟨b, 0, none⟩ hbl (fun e => by have := (HO9.out.lt b e.symm).1; omega)).trans hcn9
                 clear hown10 hgrow10 b10)
              | (go_at_call 15
                 refine (HNW.out w10 A10 c10 (HG10.out.tab HT.out) (ownP_edg HO10.out).2).mono ?_
                 rintro e w11 ⟨hb11, p3, rfl, hod3⟩
                 have HO3 := Lib.hid hod3
                 have HG11 := Lib.hid (HG10.out.next hb11)
                 have HB811 := Lib.hid (HB810.out.trans (hb11.mono HB810.out.size))
                 have hc11 := (hb11.cell (p := ⟨b, 0, none⟩) (show b < w10.heap.size by omega)).trans hc10
                 clear hb11 hod3))
          have hcx := (HB811.out.cell (p := ⟨g, q * 2, none⟩) hg8).trans HPX.out
          have hcy := (HB811.out.cell (p := ⟨g, q * 2 + 1, none⟩) hg8).trans HPY.out
          have hcl3 := ordE_cl (show a ≤ 8 by omega) HXN.out HXX.out.1
          have hrl3 := hcl3.2.1
          have HL3 := Lib.hid (fun V (h : Below w11.heap.size w11 V) => (less_any ((HO3.out.below h).more h.size) (by omega) hcl3.1.small (x : Int) (y : Int)).mono fun e w' r => (show e = .returned (.bool false) ∧ V = w' from ⟨by rw [r.1, PO.ltI_nat' hcl3.1.small, HXX.out.2], r.2⟩))
          have HLV2 := Lib.hid (fun V (h : Below w11.heap.size w11 V) => (lives_any V ((HG11.out.next h).tab HT.out)).mono fun e w' r => (show e = .returned (.bool true) ∧ Below w11.heap.size w11 w' from ⟨r.1, h.trans (r.2.mono h.size)⟩))
          have B11 : Below w11.heap.size w11 w11 := Below.refl _ _
          have hg11 : g < w11.heap.size := by have := HB811.out.size; omega
          have hql3 : (q : Int) < (E.length : Int) := by omega
          have HFIN := Lib.hid HG11.out.bel
          clear hcl3 hrl3 HLV HO3 HG11 HB811 HG10 HB810 HO10 HNW HXX HXN hc11 hc10 hcn9 hwq
          go_wp2_with fail
          go_region_held3 (fun W => W.cell? ⟨g, q * 2, none⟩ = some (.int .i64 (x : Int)) ∧ W.cell? ⟨g, q * 2 + 1, none⟩ = some (.int .i64 (y : Int)))
            (first | exact ⟨hcx, hcy⟩ | exact ⟨(B13.cell (p := ⟨g, q * 2, none⟩) hg11).trans hcx, (B13.cell (p := ⟨g, q * 2 + 1, none⟩) hg11).trans hcy⟩)
            (first
              | (go_at_call 18; ((with_reducible refine (HL3.out _ ?_).mono ?_); focus (first | exact B11.drew | exact B11)); rintro e w12 ⟨rfl, rfl⟩)
              | (go_at_call 17; ((with_reducible refine (HLV2.out _ ?_).mono ?_); focus (first | exact B11.drew | exact B11)); rintro e w13 ⟨rfl, B13⟩))
          all_goals
            go_wp2_with fail
            go_ret
            exact ⟨rfl, HFIN.out.trans (B13.mono HFIN.out.size)⟩
end Go.Proofs.YtlgdcbhdmffnoaaDoor.LawPosetCovers

namespace Go.Proofs.YtlgdcbhdmffnoaaDoor.posetCovers
open Go.ChangeShapes Go.WideShapes Go.ChangeAt Go.RowKit
open Go.ChangeMaps (open_string shut_string)
set_option linter.unusedVariables false

theorem own : ownKnob Tryd.prog.godebug = none := by kernel_rfl
theorem laidOut : laidOutB Tryd.prog = true := by kernel_rfl

/-- WHAT THE WALK IS TOLD OF A SLICE OF INTEGERS THAT CAME IN: it is nil; or it leads to a row of 'cap' cells, the numbers 'zs' (the first 'len' are its elements, the rest its spare room), each fitting its kind. -/
def IsRow (k : IntKind) (w : World) (a : Option Addr) (len cap : Nat) (zs : List Int) : Prop :=
  (a = none ∧ len = 0 ∧ cap = 0 ∧ zs = []) ∨
  ∃ x, a = some x ∧ len ≤ cap ∧ cap ≤ maxLen ∧ zs.length = cap ∧ (∀ i, i < zs.length → w.cell? (x.add i) = some (.int k (zs.getD i 0))) ∧ ∀ n ∈ zs, (Lit.int k n).wf = true

/-! ### STEP 1: THE WALK: the Go text returns true, AND WRITES NOTHING THAT WAS THERE: 'Below w.heap.size w w'' (Derived/Below.lean: '.refl', '.alloc', '.drew', '.setCell' at a new block, '.trans'). Open each 'IsRow' by 'rcases' AHEAD of 'go_enter'; part every test ahead of the walk. -/
theorem walk (a0 : Int) (a1 : Option Addr) (len1 cap1 : Nat) (z1 : List Int) (a2 : Int) (w : World) (w0 : (Lit.int .i64 a0).wf = true) (w1 : IsRow .i64 w a1 len1 cap1 z1) (w2 : (Lit.int .i64 a2).wf = true) (hT : Tab w) :
    Calls Tryd.prog 6 #[.int .i64 a0, .slice a1 len1 cap1, .int .i64 a2] w fun e w' => e = .returned (.bool true) ∧ Below w.heap.size w w' := by
  exact LawPosetCovers.walk a0 a1 len1 cap1 z1 a2 w w0 w1 w2 hT

/-! ### THE ROW's STEP: WRITTEN OUT: LEAVE IT -/
set_option maxRecDepth 100000 in
theorem lifted (os : Os) (started : os.Started) (H : Type) (enc : TypeId × Value → H) :
    ReturnsInHanded {} Tryd.checked os 6 .any (fun w args => (Rows.posetCoversSpec.pre enc Tryd.prog Tryd.f6 [] false w args ∧ laidMetH Tryd.prog laidT w) ∧ sizedMet enc Tryd.prog Tryd.f6 (OpenSpec.ofChange Rows.posetCoversSpec) false w args)
      (Rows.posetCoversSpec.post enc Tryd.prog Tryd.f6 false true false false) := by
  refine returnsInHanded_of_change_and (C := Tryd.checked) (X := fun w _ => laidMetH Tryd.prog laidT w) (fun _ _ _ hh h => h.of_heap hh) own started (by kernel_rfl) Tryd.func6
    (ChangeSpec.witness_shaped (enc := enc) (C := Tryd.checked) (os := os) (X := fun w _ => laidMetH Tryd.prog laidT w) false (World.doorLaid Tryd.prog 14 os) #[.int .i64 0, .slice none 0 0, .int .i64 0] 8 rfl (World.shaped_of_RefB (by kernel_rfl) (by kernel_rfl)) (by kernel_rfl) (by kernel_rfl) (by kernel_rfl) (door_met os _)) ?_
  intro W base args ds gs before hval0 hW _ _ hL _
  have hval : ∀ (j : Nat) t v, Tryd.f6.params[j]? = some t → args[j]? = some v → Value.okWide Tryd.prog W .any base t v := hval0
  have hW' := hW
  obtain ⟨p, q, hA0, hV, rfl, hfz, hnd⟩ := hW
  have hA : DataW.TrodAll enc Tryd.prog W 0 (fun _ => true) true Tryd.f6.params.toList args.toList ds p := hA0
  rw [Tryd.params6] at hA hval
  obtain ⟨v0, vs0, d0, ds0, p0, q0, hargs, rfl, rfl, h0, r0⟩ := trodAll_cons hA
  obtain ⟨v1, vs1, d1, ds1, p1, q1, rfl, rfl, rfl, h1, r1⟩ := trodAll_cons r0
  obtain ⟨v2, vs2, d2, ds2, p2, q2, rfl, rfl, rfl, h2, r2⟩ := trodAll_cons r1
  obtain ⟨rfl, rfl, rfl⟩ := trodAll_nil r2
  obtain rfl : args = #[v0, v1, v2] := by cases args; simp_all
  obtain ⟨rfl, rfl⟩ := trodVars_none hV
  obtain ⟨a0, rfl, rfl, rfl, w0⟩ := open_int Tryd.underlying3 (hval 0 3 v0 rfl rfl) h0
  obtain ⟨a1, len1, cap1, rfl⟩ := okWide_slice Tryd.underlying22 (hval 1 22 v1 rfl rfl)
  have k1 := h1
  have lt1 : ∀ x ∈ p1, x.block < W.heap.size := by obtain ⟨m, hm⟩ := k1; exact DataW.trod_lt m _ _ _ hm
  obtain ⟨z1, w1⟩ : ∃ zs, IsRow .i64 W a1 len1 cap1 zs := by
    obtain ⟨fuel, hf⟩ := h1
    rcases open_ints Tryd.underlying22 Tryd.underlying3 (by kernel_rfl) hf with ⟨hcs, _⟩ | ⟨x, l, c, zs, hcs, _, hl, hm, hz, _, hcell, hwz⟩
    · simp [Value.cells] at hcs
      obtain ⟨rfl, rfl, rfl⟩ := hcs
      exact ⟨[], .inl ⟨rfl, rfl, rfl, rfl⟩⟩
    · simp [Value.cells] at hcs
      obtain ⟨rfl, rfl, rfl⟩ := hcs
      exact ⟨zs, .inr ⟨_, rfl, hl, hm, by simpa using hz, hcell, hwz⟩⟩
  obtain ⟨a2, rfl, rfl, rfl, w2⟩ := open_int Tryd.underlying3 (hval 2 3 v2 rfl rfl) h2
  clear hA0 hval0
  refine (walk a0 a1 len1 cap1 z1 a2 W w0 w1 w2 (of_laid hL)).mono fun e W' ⟨he, bel⟩ => ?_
  subst he
  exact ⟨_, rfl, _, _, _, [], _, [], hW', trodAll_mk1 (shut_bool Tryd.underlying4 _), (trodAll_cons_mk (shut_int Tryd.underlying3 w0) (trodAll_cons_mk (Below.trod laidOut (by kernel_rfl) (of_decide_eq_true (by kernel_rfl)) k1 bel lt1) (trodAll_cons_mk (shut_int Tryd.underlying3 w2) trodAll_mk0))), rfl, bel.frame _, fun h => by cases h⟩

theorem over : Rows.posetCoversRow.holds Tryd.pinned (OpenSpec.ofChange Rows.posetCoversSpec) :=
  OpenClaim.holds_of_wide 6 Tryd.f6 rfl rfl rfl rfl rfl rfl rfl ⟨rfl, rfl, rfl, rfl, rfl⟩ rfl rfl rfl rfl rfl (by kernel_rfl) Tryd.func6 (by kernel_rfl)
    (of_decide_eq_true (by kernel_rfl)) (by unfold Func.isWrapper; first | (rw [if_pos (by decide +kernel)]; kernel_rfl) | (rw [if_neg (by decide +kernel)]; exact ⟨rfl, rfl⟩))
    (fun os started H enc _ => lifted os started H enc)


/-! ### THE CARD -/
theorem cardHolds : Rows.PosetCoversCardSaid :=
  Claim7.holds_tied_plain_at .later [] [.data] true (true, "69b8748036c1ab40a488c13c974df10cd19b3b935a840f5165b1f86c23c10982") true
    over (fun _ h => by cases h) (by kernel_rfl) (fun _ h => by cases h) posetCovers_row_tie rfl ⟨rfl, rfl⟩ (by kernel_rfl) rfl
    (fun f fn hf hfn => by
      obtain rfl : f = 6 := Option.some.inj ((show Tryd.prog.funcNamed "simproof/simprooflaw04.PosetCovers" = some 6 by kernel_rfl).symm.trans hf) |>.symm
      obtain rfl : fn = Tryd.f6 := (Option.some.inj (Tryd.func6.symm.trans hfn)).symm
      exact ⟨by kernel_rfl, fun j t ht => by
        rw [Tryd.params6] at ht
        have hm : t ∈ [3, 22, 3] := by simpa using Array.mem_of_getElem? ht
        have hall : ([3, 22, 3].all fun u => !Tryd.prog.wantsStandIn u) = true := by kernel_rfl
        exact (show Tryd.prog.wantsStandIn t = false by simpa using List.all_eq_true.1 hall t hm)⟩)
    (by kernel_rfl)
end Go.Proofs.YtlgdcbhdmffnoaaDoor.posetCovers
