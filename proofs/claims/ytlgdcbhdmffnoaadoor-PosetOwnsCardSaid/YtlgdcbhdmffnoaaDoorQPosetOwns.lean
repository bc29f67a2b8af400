/-
  The walk of PosetOwns: what a caller writes into the pairs or the answers does not reach the order.
  The tied card of the statement PosetOwns: for every input the law answers true and leaves its arguments as they were; the condition is the listed table of math/bits, which the card ties to the program's text. The frame of this proof was written by the guide's program, the walk is the text LawPosetOwns's.
-/
import Derived.Test.YtlgdcbhdmffnoaaDoorK16
import Derived.Test.YtlgdcbhdmffnoaaDoorK18
import Derived.Test.YtlgdcbhdmffnoaaDoorK2
import Derived.Test.YtlgdcbhdmffnoaaDoorK7
import Derived.Test.YtlgdcbhdmffnoaaDoorK20
import Derived.Test.YtlgdcbhdmffnoaaDoorK19
import Derived.BigQuiet
import Derived.Deep.QuietTactic
import Derived.Deep.RegionHeld3
import Derived.Deep.DrawnRows
import Derived.Test.YtlgdcbhdmffnoaaDoorRows
import Derived.Test.YtlgdcbhdmffnoaaDoorCards
import Derived.Test.YtlgdcbhdmffnoaaDoorTie
import Derived.Test.YtlgdcbhdmffnoaaDoorK3
import Derived.SevenTiedPlain
import Derived.SevenTiedAt
import Derived.WalkKit
import Derived.ProofKit
import Derived.OpenShut
import Derived.ShutString
import Derived.ChangeOld
import Derived.Below

namespace Go.Proofs.YtlgdcbhdmffnoaaDoor.LawPosetOwns
open Go Go.RowKit Go.Proofs Go.Proofs.YtlgdcbhdmffnoaaDoor
attribute [local go_sem ↓] Go.wp_at_zero Go.wp_at_succ

/-- What a slice of at least one element shows of its block. -/
def Pb (w V : World) (t : TypeId) (A : Option Addr) (n s : Nat) : Prop := 0 < n → ∃ g, A = some ⟨g, 0, none⟩ ∧ w.heap.size ≤ g ∧ Cb V t g (n * s)
theorem covs_len (R : List Nat) (h : R.length ≤ 8) : (PO.covs R).length ≤ 64 := by
  have h1 := covTo_len R R.length
  have h2 : R.length * R.length ≤ 8 * 8 := Nat.mul_le_mul h h
  have h3 : covTo R R.length = PO.covs R := rfl
  rw [h3] at h1
  omega
/-- The answer of a call that makes pairs, where it may be written. -/
theorem ownP_cb {V : World} {lo : Nat} {A : Option Addr} {c : Nat} {E : List (Nat × Nat)} (h : OwnP V lo (.slice A E.length c) E) {i : Nat} (hi : i < E.length) : ∃ g, A = some ⟨g, 0, none⟩ ∧ lo ≤ g ∧ Cb V 23 g (E.length * 2) := by
  rcases h.2 with ⟨_, e⟩ | ⟨g, cap, cur, e, h1, _⟩
  · omega
  · injection e with e1
    subst e1
    exact ⟨g, rfl, h1, Cb.of_own h⟩
theorem Pb.of_pairs {w V : World} {lo : Nat} {A : Option Addr} {c : Nat} {E : List (Nat × Nat)} (h : OwnP V lo (.slice A E.length c) E) (hl : w.heap.size ≤ lo) : Pb w V 23 A E.length 2 := fun h0 => by
  obtain ⟨g, e, h1, h2⟩ := ownP_cb h h0
  exact ⟨g, e, by omega, h2⟩
theorem own_cb {V : World} {lo n : Nat} {A : Option Addr} {c : Nat} {E : List Nat} (h : Own V lo (.slice A n c) E) {i : Nat} (hi : i < n) : ∃ g, A = some ⟨g, 0, none⟩ ∧ lo ≤ g ∧ Cb V 3 g n := by
  obtain ⟨A', c', e, _, _⟩ := h.slice
  injection e with _ e2 _
  subst e2
  rcases h.2 with ⟨_, e⟩ | ⟨g, cap, cur, e, h1, _⟩
  · omega
  · injection e with e1
    subst e1
    exact ⟨g, rfl, h1, by have := Cb.of_own h; rwa [Nat.mul_one] at this⟩
theorem Pb.of_ints {w V : World} {lo n : Nat} {A : Option Addr} {c : Nat} {E : List Nat} (h : Own V lo (.slice A n c) E) (hl : w.heap.size ≤ lo) : Pb w V 3 A n 1 := fun h0 => by
  obtain ⟨g, e, h1, h2⟩ := own_cb h h0
  exact ⟨g, e, by omega, by rwa [Nat.mul_one]⟩
theorem Pb.keep {w V V' : World} {t : TypeId} {A : Option Addr} {n s : Nat} (h : Pb w V t A n s) (hb : Below V.heap.size V V') : Pb w V' t A n s := fun h0 => by
  obtain ⟨g, e, h1, h2⟩ := h h0
  exact ⟨g, e, h1, h2.keep hb⟩
set_option maxRecDepth 100000 in
set_option maxHeartbeats 4000000 in
theorem walk (a0 : Int) (a1 : Option Addr) (len1 cap1 : Nat) (z1 : List Int) (w : World) (w0 : (Lit.int .i64 a0).wf = true) (w1 : Row .i64 w a1 len1 cap1 z1) (hT : Tab w) :
    Calls Tryd.prog 12 #[.int .i64 a0, .slice a1 len1 cap1] w fun e w' => e = .returned (.bool true) ∧ Below w.heap.size w w' := by
  have hn : I64 a0 := by have := bounds_i64 w0; unfold I64; omega
  obtain ⟨hx, _, _, hz⟩ := w1.ints
  obtain ⟨zs, hzs⟩ : ∃ zs, z1.take len1 = zs := ⟨_, rfl⟩
  rw [hzs] at hx hz
  have hz64 := i64_of hz
  have HCY := Lib.hid (cyc_a a0 hn a1 len1 cap1 zs w hx hz64)
  have HLV := Lib.hid (fun V hb => lives_a w V hT hb)
  cases hk : okA a0 zs with
  | false =>
    rw [hk] at HCY
    clear hx hz hz64 hzs w1 w0 hT hn
    go_enter Tryd.func12, Tryd.ntmps12
    go_wp2_with (first
      | (go_at_call 23; refine HCY.out.mono ?_; clear HCY; rintro e w2 ⟨rfl, hb2⟩)
      | (go_at_call 17; refine (HLV.out _ hb2).mono ?_; clear HLV; rintro e w3 ⟨rfl, hb3⟩))
    go_ret
    exact ⟨rfl, hb3⟩
  | true =>
    rw [hk] at HCY
    obtain ⟨hcl, hRl, hlt⟩ := ordA_cl a0 hk
    have hk8 := nA_lt a0
    have hprl := prA_lt a0 zs
    have hpln := prA_len a0 zs
    have HCL := Lib.hid hcl
    have HLT := Lib.hid hlt
    have HRL := Lib.hid hRl
    have HT := Lib.hid hT
    have HOK := Lib.hid (show okE (nA a0) (prA a0 zs) = true from hk)
    have HPRL := Lib.hid hprl
    have HAR := Lib.hid (fun V => around_any a0 8 hn (by omega) (by omega) V)
    simp only [gN_eq a0 (show (0 : Int) < 8 by omega)] at HAR
    have HPA := Lib.hid (fun V (hb : Below w.heap.size w V) => pairs_e (nA a0) (by omega) a1 len1 cap1 zs V (ints_mono (hx.below hb) hb.size) hz64)
    obtain ⟨E, hE⟩ : ∃ E, prA a0 zs = E := ⟨_, rfl⟩
    have hE' : prE (nA a0) zs = E := hE
    rw [hE'] at HPA
    rw [hE] at HOK HPRL hpln
    obtain ⟨R, hR⟩ : ∃ R, ordA a0 zs = R := ⟨_, rfl⟩
    have hRE : ordE (nA a0) E = R := by rw [← hE, ← hR]; rfl
    obtain ⟨M, hM⟩ : ∃ M, PO.wAll (m0 (prA a0 zs)) (nA a0) = M := ⟨_, rfl⟩
    have hM' : PO.wAll (m0 E) (nA a0) = M := by rw [← hE]; exact hM
    have hgk : gN a0 8 = nA a0 := rfl
    simp only [hR, hM] at HCL hRl HLT HRL
    simp only [hgk] at HAR
    obtain ⟨k, hkk⟩ : ∃ k, nA a0 = k := ⟨_, rfl⟩
    simp only [hkk] at HAR HPA HRL hRl hk8 HOK HPRL hRE hM'
    have HRE := Lib.hid hRE
    have HME := Lib.hid hM'
    clear hx hz hz64 hzs w1 w0 hT hn hcl hkk hR hk hlt hM hE hE' hM' hRE hprl hgk
    go_enter Tryd.func12, Tryd.ntmps12
    go_wp2_with (first
      | (go_at_call 23; refine HCY.out.mono ?_; clear HCY; rintro e w2 ⟨rfl, hb2⟩; have HB2 := Lib.hid hb2; clear hb2)
      | (go_at_call 13; refine (HAR.out _).mono ?_; clear HAR; rintro e w' ⟨rfl, rfl⟩))
    refine (HPA.out _ HB2.out).mono ?_
    clear HPA
    rintro e w3 ⟨A6, c6, rfl, ho3, hb3⟩
    have hsz2 := HB2.out.size
    have HB3 := Lib.hid (HB2.out.trans (hb3.mono hsz2))
    have HED3 := Lib.hid (ownP_edg ho3).2
    have HP3 := Lib.hid (Pb.of_pairs (w := w) ho3 hsz2)
    clear ho3 hb3
    go_wp2_with fail
    refine (new_e k E.length c6 A6 E w3 (HT.out.below HT.out.lt HB3.out) (by omega) (by omega) HED3.out HPRL.out).mono ?_
    rintro e w4 ⟨hb4, ⟨hk5, _⟩ | ⟨_, p, rfl, hod⟩⟩
    · exfalso
      rw [HOK.out] at hk5
      cases hk5
    rw [HRE.out] at hod
    have HOD := Lib.hid hod
    have HB4 := Lib.hid (HB3.out.trans (hb4.mono HB3.out.size))
    have HED4 := Lib.hid (edg_mono (HED3.out.below hb4) hb4.size)
    have HP4 := Lib.hid (HP3.out.keep hb4)
    clear hod hb4 HED3 HP3
    go_wp2_with fail
    refine (refNew_any k E.length c6 A6 E w4 (by omega) (by omega) HED4.out HPRL.out).mono ?_
    rintro e w5 ⟨hb5, ⟨rfl, a, ha, hcy⟩ | ⟨-, v, gs, rfl, hmx⟩⟩
    · exfalso
      have := (ok_iff (by omega) HPRL.out).1 HOK.out a ha
      rw [hcy] at this
      cases this
    obtain ⟨vA, vc, rfl, _, _⟩ := own_slice hmx.own
    rw [HME.out] at hmx
    have hsz4 := HB4.out.size
    have hG := Gd.made ((HOD.out.below hb5).more hb5.size) (hmx.lower (lo' := w.heap.size) hsz4) (HB4.out.trans (hb5.mono hsz4))
    obtain ⟨w6, hw6⟩ : ∃ W, w5.alloc (.cells #[.int .i64 (k : Int), .slice vA k vc] 33) = W := ⟨_, rfl⟩
    obtain ⟨b, hb⟩ : ∃ b, w5.heap.size = b := ⟨_, rfl⟩
    have HP6 := Lib.hid (show Pb w w6 23 A6 E.length 2 by rw [← hw6]; exact (HP4.out.keep hb5).keep ((Below.refl _ _).alloc (Nat.le_refl _) _))
    rw [hw6, hb] at hG
    have HG6 := Lib.hid hG
    have HW6 := Lib.hid hw6
    have HBB := Lib.hid hb
    clear hG hw6 hb hb5 hmx HOD HB4 HED4 HP4 HB3 HB2
    go_wp2_with fail
    rw [HW6.out, HBB.out]
    clear HW6 HBB
    go_loopw [11] (fun i V => ∃ j : Nat, j ≤ E.length ∧ i = .int .i64 (j : Int) ∧ Hid (Gd w V p b k (.slice vA k vc) R gs M) ∧ Hid (Pb w V 23 A6 E.length 2)) (fun i _ => E.length - (intOf i).toNat)
    case atStart => exact ⟨0, by omega, rfl, HG6.out, HP6.out⟩
    case round =>
      clear HG6 HP6
      obtain ⟨j, hj, rfl, hG, hP⟩ := hrel
      by_cases hjl : j < E.length
      · obtain ⟨g, hAg, hg, hcb⟩ := hP.out (by omega)
        subst hAg
        obtain ⟨x0, hx0⟩ := hcb.cell (i := j * 2) (by omega)
        obtain ⟨x1, hx1⟩ := hcb.cell (i := j * 2 + 1) (by omega)
        have hf0 := hcb.free (j * 2)
        have hf1 := hcb.free (j * 2 + 1)
        have HGN := Lib.hid ((hG.out.setCb hcb hg (.inr rfl) (j * 2) (.int .i64 0)).setCb (hcb.set (j * 2) (.int .i64 0)) hg (.inr rfl) (j * 2 + 1) (.int .i64 0))
        have HPN := Lib.hid (show Pb w ((wr.setCell ⟨g, j * 2, none⟩ (.int .i64 0)).setCell ⟨g, j * 2 + 1, none⟩ (.int .i64 0)) 23 (some ⟨g, 0, none⟩) E.length 2 from fun _ => ⟨g, rfl, hg, (hcb.set _ _).set _ _⟩)
        clear hcb
        go_wp2_with fail
        go_roundw
        case rel => exact ⟨j + 1, by omega, by go_num, HGN.out, HPN.out⟩
        case measure => simp [intOf]; omega
      · have hcov := callsIn_wide.1 (covers_in 6 (by omega) hG.out.od HRL.out (by omega) HCL.out (hG.out.tab HT.out) (Nat.le_refl _))
        have HCV := Lib.hid hcov
        clear hcov
        go_wp2_with fail
        refine HCV.out.mono ?_
        clear HCV
        rintro e w7 ⟨v7, rfl, ho7, hb7⟩
        obtain ⟨A7, c7, rfl⟩ := ownP_form ho7
        have hsr := hG.out.bel.size
        have HP7 := Lib.hid (Pb.of_pairs (w := w) ho7 hsr)
        have HG7 := Lib.hid (hG.out.next hb7)
        have hcl := covs_len R (by omega)
        obtain ⟨q, hq⟩ : ∃ q, (PO.covs R).length = q := ⟨_, rfl⟩
        rw [hq] at HP7 hcl ⊢
        clear hq ho7 hb7 hG hP
        go_wp2_with fail
        go_loopw [13] (fun i V => ∃ j : Nat, j ≤ q ∧ i = .int .i64 (j : Int) ∧ Hid (Gd w V p b k (.slice vA k vc) R gs M) ∧ Hid (Pb w V 23 A7 q 2)) (fun i _ => q - (intOf i).toNat)
        case atStart => exact ⟨0, by omega, rfl, HG7.out, HP7.out⟩
        case round =>
          clear HG7 HP7
          obtain ⟨j, hj, rfl, hG, hP⟩ := hrel
          by_cases hjl : j < q
          · obtain ⟨g, hAg, hg, hcb⟩ := hP.out (by omega)
            subst hAg
            obtain ⟨x0, hx0⟩ := hcb.cell (i := j * 2) (by omega)
            obtain ⟨x1, hx1⟩ := hcb.cell (i := j * 2 + 1) (by omega)
            have hf0 := hcb.free (j * 2)
            have hf1 := hcb.free (j * 2 + 1)
            have HGN := Lib.hid ((hG.out.setCb hcb hg (.inr rfl) (j * 2) (.int .i64 (-1))).setCb (hcb.set (j * 2) (.int .i64 (-1))) hg (.inr rfl) (j * 2 + 1) (.int .i64 (-1)))
            have HPN := Lib.hid (show Pb w ((wr.setCell ⟨g, j * 2, none⟩ (.int .i64 (-1))).setCell ⟨g, j * 2 + 1, none⟩ (.int .i64 (-1))) 23 (some ⟨g, 0, none⟩) q 2 from fun _ => ⟨g, rfl, hg, (hcb.set _ _).set _ _⟩)
            clear hcb
            go_wp2_with fail
            go_roundw
            case rel => exact ⟨j + 1, by omega, by go_num, HGN.out, HPN.out⟩
            case measure => simp [intOf]; omega
          · have HLI := Lib.hid (linear_any hG.out.od (by have := HRL.out; omega) HCL.out.small (hG.out.tab HT.out) (Nat.le_refl _))
            have htl := HCL.out.topo.trans HRL.out
            obtain ⟨L, hL⟩ : ∃ L, topoL (PO.rows R) = L := ⟨_, rfl⟩
            rw [hL] at HLI htl
            have HTL := Lib.hid htl
            clear htl
            go_wp2_with fail
            refine HLI.out.mono ?_
            clear HLI
            rintro e w8 ⟨v8, rfl, ho8, hb8⟩
            obtain ⟨A8, c8, rfl, _, _⟩ := ho8.slice
            have hsr := hG.out.bel.size
            rw [HTL.out] at ho8 ⊢
            have HP8 := Lib.hid (Pb.of_ints (w := w) ho8 hsr)
            have HG8 := Lib.hid (hG.out.next hb8)
            clear ho8 hb8 hG hP
            go_wp2_with fail
            go_loopw [15] (fun i V => ∃ j : Nat, j ≤ k ∧ i = .int .i64 (j : Int) ∧ Hid (Gd w V p b k (.slice vA k vc) R gs M) ∧ Hid (Pb w V 3 A8 k 1)) (fun i _ => k - (intOf i).toNat)
            case atStart => exact ⟨0, by omega, rfl, HG8.out, HP8.out⟩
            case round =>
              clear HG8 HP8
              obtain ⟨j, hj, rfl, hG, hP⟩ := hrel
              by_cases hjl : j < k
              · obtain ⟨g, hAg, hg, hcb⟩ := hP.out (by omega)
                subst hAg
                obtain ⟨x0, hx0⟩ := hcb.cell (i := j) (by omega)
                have hf0 := hcb.free j
                have HGN := Lib.hid (hG.out.setCb hcb hg (.inl rfl) j (.int .i64 (-1)))
                have HPN := Lib.hid (show Pb w (wr.setCell ⟨g, j, none⟩ (.int .i64 (-1))) 3 (some ⟨g, 0, none⟩) k 1 from fun _ => ⟨g, rfl, hg, hcb.set _ _⟩)
                clear hcb
                go_wp2_with fail
                go_roundw
                case rel => exact ⟨j + 1, by omega, by go_num, HGN.out, HPN.out⟩
                case measure => simp [intOf]; omega
              · obtain rfl : j = k := by omega
                have HG9 := Lib.hid hG.out
                obtain ⟨w9, hw9⟩ : ∃ W, W = wr := ⟨_, rfl⟩
                subst hw9
                clear hG hP
                have C1 := Lib.hid (fun V (h : Below w9.heap.size w9 V) => (callsIn_wide.1 (covers_in 6 (by omega) (HG9.out.next h).od HRL.out (by omega) HCL.out ((HG9.out.next h).tab HT.out) (Nat.le_refl _))).mono fun e w' r => (show ∃ v, e = .returned v ∧ OwnP w' V.heap.size v (PO.covs R) ∧ Below V.heap.size V w' from r))
                have C2 := Lib.hid (fun V (h : Below w9.heap.size w9 V) => refCovers_any V w.heap.size j vA vc gs M (HG9.out.next h).mx (by omega) R HRL.out HLT.out)
                have L1 := Lib.hid (fun V (h : Below w9.heap.size w9 V) => linear_any (HG9.out.next h).od (by have := HRL.out; omega) HCL.out.small ((HG9.out.next h).tab HT.out) (Nat.le_refl _))
                have L2 := Lib.hid (fun V (h : Below w9.heap.size w9 V) => refLinear_any V w.heap.size j vA vc gs M (HG9.out.next h).mx (by omega) R HRL.out HLT.out HCL.out)
                simp only [hL] at L1 L2
                have HLV2 := Lib.hid (fun V (h : Below w9.heap.size w9 V) => (lives_any V ((HG9.out.next h).tab HT.out)).mono fun e w' r => (show e = .returned (.bool true) ∧ Below w9.heap.size w9 w' from ⟨r.1, h.trans (r.2.mono h.size)⟩))
                have hcl2 := covs_len R (by have := HRL.out; omega)
                obtain ⟨e0, e1, _, _⟩ := HG9.out.ob.facts
                have hbl : b < w9.heap.size := heap_lt HG9.out.ob
                have B9 : Below w9.heap.size w9 w9 := Below.refl _ _
                have HTL' := HTL.out
                have hLl : L.length ≤ 8 := by omega
                clear HLV hL HTL'
                go_wp2_with fail
                go_region_held3 (fun W => W.cell? ⟨b, 0, none⟩ = some (.int .i64 (j : Int)) ∧ W.cell? ⟨b, 1, none⟩ = some (.slice vA j vc))
                  (first | exact ⟨e0, e1⟩ | exact ⟨(B16.cell (p := ⟨b, 0, none⟩) hbl).trans e0, (B16.cell (p := ⟨b, 1, none⟩) hbl).trans e1⟩ | exact ⟨(B15.cell (p := ⟨b, 0, none⟩) hbl).trans e0, (B15.cell (p := ⟨b, 1, none⟩) hbl).trans e1⟩ | exact ⟨(B14.cell (p := ⟨b, 0, none⟩) hbl).trans e0, (B14.cell (p := ⟨b, 1, none⟩) hbl).trans e1⟩ | exact ⟨(B13.cell (p := ⟨b, 0, none⟩) hbl).trans e0, (B13.cell (p := ⟨b, 1, none⟩) hbl).trans e1⟩ | exact ⟨(B12.cell (p := ⟨b, 0, none⟩) hbl).trans e0, (B12.cell (p := ⟨b, 1, none⟩) hbl).trans e1⟩ | exact ⟨(B11.cell (p := ⟨b, 0, none⟩) hbl).trans e0, (B11.cell (p := ⟨b, 1, none⟩) hbl).trans e1⟩ | exact ⟨(B10.cell (p := ⟨b, 0, none⟩) hbl).trans e0, (B10.cell (p := ⟨b, 1, none⟩) hbl).trans e1⟩)
                  (first
                    | (go_at_call 25; ((with_reducible refine (C1.out _ ?_).mono ?_); focus (first | exact B9.drew | exact B9)); rintro e w10 ⟨x10, rfl, o10, b10⟩; obtain ⟨A10, c10, rfl⟩ := ownP_form o10; have B10 := B9.drew.trans (b10.mono B9.size); have O10 := Lib.hid (ownP_edg o10).2; clear C1 b10 o10)
                    | (go_at_call 27; ((with_reducible refine (C2.out _ ?_).mono ?_); focus (exact B10)); rintro e w11 ⟨x11, rfl, o11, b11⟩; obtain ⟨A11, c11, rfl⟩ := ownP_form o11; have B11 := B10.trans (b11.mono B10.size); have O11 := Lib.hid (ownP_edg o11).2; have P11 := Lib.hid (edg_mono (O10.out.below b11) b11.size); clear C2 b11 o11)
                    | (go_at_call 26; refine (samePairs_any A10 A11 _ _ c10 c11 _ _ _ P11.out O11.out (by omega)).mono ?_; rintro e w12 ⟨rfl, b12⟩; rw [decide_eq_true rfl]; have B12 := B11.trans (b12.mono B11.size); clear b12 P11 O11 O10)
                    | (go_at_call 28; ((with_reducible refine (L1.out _ ?_).mono ?_); focus (exact B12)); rintro e w13 ⟨x13, rfl, o13, b13⟩; obtain ⟨A13, c13, rfl, _, _⟩ := o13.slice; have B13 := B12.trans (b13.mono B12.size); have O13 := Lib.hid (OI.of o13).2; clear L1 b13 o13)
                    | (go_at_call 30; ((with_reducible refine (L2.out _ ?_).mono ?_); focus (exact B13)); rintro e w14 ⟨x14, rfl, o14, b14⟩; obtain ⟨A14, c14, rfl, _, _⟩ := o14.slice; have B14 := B13.trans (b14.mono B13.size); have O14 := Lib.hid (OI.of o14).2; have P14 := Lib.hid (O13.out.below b14); clear L2 b14 o14)
                    | (go_at_call 29; refine (sameInts_any A13 A14 _ _ c13 c14 _ _ _ P14.out.ints O14.out.ints (by omega)).mono ?_; rintro e w15 ⟨rfl, b15⟩; rw [decide_eq_true rfl]; have B15 := B14.trans (b15.mono B14.size); clear b15 P14 O14 O13)
                    | (go_at_call 17; ((with_reducible refine (HLV2.out _ ?_).mono ?_); focus (exact B15)); rintro e w16 ⟨rfl, B16⟩; clear HLV2))
                all_goals
                  go_wp2_with fail
                  go_ret
                  exact ⟨rfl, HG9.out.bel.trans (B16.mono HG9.out.bel.size)⟩
end Go.Proofs.YtlgdcbhdmffnoaaDoor.LawPosetOwns

namespace Go.Proofs.YtlgdcbhdmffnoaaDoor.posetOwns
open Go.ChangeShapes Go.WideShapes Go.ChangeAt Go.RowKit
open Go.ChangeMaps (open_string shut_string)
set_option linter.unusedVariables false

theorem own : ownKnob Tryd.prog.godebug = none := by kernel_rfl
theorem laidOut : laidOutB Tryd.prog = true := by kernel_rfl

/-- WHAT THE WALK IS TOLD OF A SLICE OF INTEGERS THAT CAME IN: it is nil; or it leads to a row of 'cap' cells, the numbers 'zs' (the first 'len' are its elements, the rest its spare room), each fitting its kind. -/
def IsRow (k : IntKind) (w : World) (a : Option Addr) (len cap : Nat) (zs : List Int) : Prop :=
  (a = none ∧ len = 0 ∧ cap = 0 ∧ zs = []) ∨
  ∃ x, a = some x ∧ len ≤ cap ∧ cap ≤ maxLen ∧ zs.length = cap ∧ (∀ i, i < zs.length → w.cell? (x.add i) = some (.int k (zs.getD i 0))) ∧ ∀ n ∈ zs, (Lit.int k n).wf = true

/-! ### STEP 1: THE WALK: the Go text returns true, AND WRITES NOTHING THAT WAS THERE: 'Below w.heap.size w w'' (Derived/Below.lean: '.refl', '.alloc', '.drew', '.setCell' at a new block, '.trans'). Open each 'IsRow' by 'rcases' AHEAD of 'go_enter'; part every test ahead of the walk. -/
theorem walk (a0 : Int) (a1 : Option Addr) (len1 cap1 : Nat) (z1 : List Int) (w : World) (w0 : (Lit.int .i64 a0).wf = true) (w1 : IsRow .i64 w a1 len1 cap1 z1) (hT : Tab w) :
    Calls Tryd.prog 12 #[.int .i64 a0, .slice a1 len1 cap1] w fun e w' => e = .returned (.bool true) ∧ Below w.heap.size w w' := by
  exact LawPosetOwns.walk a0 a1 len1 cap1 z1 w w0 w1 hT

/-! ### THE ROW's STEP: WRITTEN OUT: LEAVE IT -/
set_option maxRecDepth 100000 in
theorem lifted (os : Os) (started : os.Started) (H : Type) (enc : TypeId × Value → H) :
    ReturnsInHanded {} Tryd.checked os 12 .any (fun w args => (Rows.posetOwnsSpec.pre enc Tryd.prog Tryd.f12 [] false w args ∧ laidMetH Tryd.prog laidT w) ∧ sizedMet enc Tryd.prog Tryd.f12 (OpenSpec.ofChange Rows.posetOwnsSpec) false w args)
      (Rows.posetOwnsSpec.post enc Tryd.prog Tryd.f12 false true false false) := by
  refine returnsInHanded_of_change_and (C := Tryd.checked) (X := fun w _ => laidMetH Tryd.prog laidT w) (fun _ _ _ hh h => h.of_heap hh) own started (by kernel_rfl) Tryd.func12
    (ChangeSpec.witness_shaped (enc := enc) (C := Tryd.checked) (os := os) (X := fun w _ => laidMetH Tryd.prog laidT w) false (World.doorLaid Tryd.prog 14 os) #[.int .i64 0, .slice none 0 0] 8 rfl (World.shaped_of_RefB (by kernel_rfl) (by kernel_rfl)) (by kernel_rfl) (by kernel_rfl) (by kernel_rfl) (door_met os _)) ?_
  intro W base args ds gs before hval0 hW _ _ hL _
  have hval : ∀ (j : Nat) t v, Tryd.f12.params[j]? = some t → args[j]? = some v → Value.okWide Tryd.prog W .any base t v := hval0
  have hW' := hW
  obtain ⟨p, q, hA0, hV, rfl, hfz, hnd⟩ := hW
  have hA : DataW.TrodAll enc Tryd.prog W 0 (fun _ => true) true Tryd.f12.params.toList args.toList ds p := hA0
  rw [Tryd.params12] at hA hval
  obtain ⟨v0, vs0, d0, ds0, p0, q0, hargs, rfl, rfl, h0, r0⟩ := trodAll_cons hA
  obtain ⟨v1, vs1, d1, ds1, p1, q1, rfl, rfl, rfl, h1, r1⟩ := trodAll_cons r0
  obtain ⟨rfl, rfl, rfl⟩ := trodAll_nil r1
  obtain rfl : args = #[v0, v1] := by cases args; simp_all
  obtain ⟨rfl, rfl⟩ := trodVars_none hV
  obtain ⟨a0, rfl, rfl, rfl, w0⟩ := open_int Tryd.underlying3 (hval 0 3 v0 rfl rfl) h0
  obtain ⟨a1, len1, cap1, rfl⟩ := okWide_slice Tryd.underlying22 (hval 1 22 v1 rfl rfl)
  have k1 := h1
  have lt1 : ∀ x ∈ p1, x.block < W.heap.size := by obtain ⟨m, hm⟩ := k1; exact DataW.trod_lt m _ _ _ hm
  obtain ⟨z1, w1⟩ : ∃ zs, IsRow .i64 W a1 len1 cap1 zs := by
    obtain ⟨fuel, hf⟩ := h1
    rcases open_ints Tryd.underlying22 Tryd.underlying3 (by kernel_rfl) hf with ⟨hcs, _⟩ | ⟨x, l, c, zs, hcs, _, hl, hm, hz, _, hcell, hwz⟩
    · simp [Value.cells] at hcs
      obtain ⟨rfl, rfl, rfl⟩ := hcs
      exact ⟨[], .inl ⟨rfl, rfl, rfl, rfl⟩⟩
    · simp [Value.cells] at hcs
      obtain ⟨rfl, rfl, rfl⟩ := hcs
      exact ⟨zs, .inr ⟨_, rfl, hl, hm, by simpa using hz, hcell, hwz⟩⟩
  clear hA0 hval0
  refine (walk a0 a1 len1 cap1 z1 W w0 w1 (of_laid hL)).mono fun e W' ⟨he, bel⟩ => ?_
  subst he
  exact ⟨_, rfl, _, _, _, [], _, [], hW', trodAll_mk1 (shut_bool Tryd.underlying4 _), (trodAll_cons_mk (shut_int Tryd.underlying3 w0) (trodAll_cons_mk (Below.trod laidOut (by kernel_rfl) (of_decide_eq_true (by kernel_rfl)) k1 bel lt1) trodAll_mk0)), rfl, bel.frame _, fun h => by cases h⟩

theorem over : Rows.posetOwnsRow.holds Tryd.pinned (OpenSpec.ofChange Rows.posetOwnsSpec) :=
  OpenClaim.holds_of_wide 12 Tryd.f12 rfl rfl rfl rfl rfl rfl rfl ⟨rfl, rfl, rfl, rfl, rfl⟩ rfl rfl rfl rfl rfl (by kernel_rfl) Tryd.func12 (by kernel_rfl)
    (of_decide_eq_true (by kernel_rfl)) (by unfold Func.isWrapper; first | (rw [if_pos (by decide +kernel)]; kernel_rfl) | (rw [if_neg (by decide +kernel)]; exact ⟨rfl, rfl⟩))
    (fun os started H enc _ => lifted os started H enc)


/-! ### THE CARD -/
theorem cardHolds : Rows.PosetOwnsCardSaid :=
  Claim7.holds_tied_plain_at .later [] [.data] true (true, "69b8748036c1ab40a488c13c974df10cd19b3b935a840f5165b1f86c23c10982") true
    over (fun _ h => by cases h) (by kernel_rfl) (fun _ h => by cases h) posetOwns_row_tie rfl ⟨rfl, rfl⟩ (by kernel_rfl) rfl
    (fun f fn hf hfn => by
      obtain rfl : f = 12 := Option.some.inj ((show Tryd.prog.funcNamed "simproof/simprooflaw04.PosetOwns" = some 12 by kernel_rfl).symm.trans hf) |>.symm
      obtain rfl : fn = Tryd.f12 := (Option.some.inj (Tryd.func12.symm.trans hfn)).symm
      exact ⟨by kernel_rfl, fun j t ht => by
        rw [Tryd.params12] at ht
        have hm : t ∈ [3, 22] := by simpa using Array.mem_of_getElem? ht
        have hall : ([3, 22].all fun u => !Tryd.prog.wantsStandIn u) = true := by kernel_rfl
        exact (show Tryd.prog.wantsStandIn t = false by simpa using List.all_eq_true.1 hall t hm)⟩)
    (by kernel_rfl)
end Go.Proofs.YtlgdcbhdmffnoaaDoor.posetOwns
