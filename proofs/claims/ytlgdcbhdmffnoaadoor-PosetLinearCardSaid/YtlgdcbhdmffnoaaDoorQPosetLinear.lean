/-
  The walk of PosetLinear: Linear is the reference's and accepted; IsLinear is the reference's.
  The tied card of the statement PosetLinear: for every input the law answers true and leaves its arguments as they were; the condition is the listed table of math/bits, which the card ties to the program's text. The frame of this proof was written by the guide's program, the walk is the text LawPosetLinear's.
-/
import Derived.Test.YtlgdcbhdmffnoaaDoorK16
import Derived.Test.YtlgdcbhdmffnoaaDoorK17
import Derived.Test.YtlgdcbhdmffnoaaDoorK18
import Derived.Test.YtlgdcbhdmffnoaaDoorK2
import Derived.Test.YtlgdcbhdmffnoaaDoorK15
import Derived.Test.YtlgdcbhdmffnoaaDoorK19
import Derived.BigQuiet
import Derived.Deep.QuietTactic
import Derived.Deep.RegionHeld3
import Derived.Deep.DrawnRows
import Derived.Test.YtlgdcbhdmffnoaaDoorRows
import Derived.Test.YtlgdcbhdmffnoaaDoorCards
import Derived.Test.YtlgdcbhdmffnoaaDoorTie
import Derived.Test.YtlgdcbhdmffnoaaDoorK3
import Derived.SevenTiedPlain
import Derived.SevenTiedAt
import Derived.WalkKit
import Derived.ProofKit
import Derived.OpenShut
import Derived.ShutString
import Derived.ChangeOld
import Derived.Below

namespace Go.Proofs.YtlgdcbhdmffnoaaDoor.LawPosetLinear
open Go Go.RowKit Go.Proofs Go.Proofs.YtlgdcbhdmffnoaaDoor
attribute [local go_sem ↓] Go.wp_at_zero Go.wp_at_succ

theorem oi_snoc {W : World} {lo j c q : Nat} {A : Option Addr} {L : List Nat} (h : W.ownsRow lo 3 1 (.slice A (j + 1) c) (j + 1) ((L.map fun n : Nat => (n : Int)).map (Value.int .i64) ++ [.int .i64 (q : Int)])) : OI W lo A (j + 1) c ((L ++ [q]).map fun n : Nat => (n : Int)) := by
  unfold OI
  rw [List.map_append, List.map_append]
  exact h
set_option maxRecDepth 100000 in
set_option maxHeartbeats 4000000 in
theorem walk (a0 : Int) (a1 : Option Addr) (len1 cap1 : Nat) (z1 : List Int) (a2 : Option Addr) (len2 cap2 : Nat) (z2 : List Int) (w : World) (w0 : (Lit.int .i64 a0).wf = true) (w1 : Row .i64 w a1 len1 cap1 z1) (w2 : Row .i64 w a2 len2 cap2 z2) (hT : Tab w) :
    Calls Tryd.prog 7 #[.int .i64 a0, .slice a1 len1 cap1, .slice a2 len2 cap2] w fun e w' => e = .returned (.bool true) ∧ Below w.heap.size w w' := by
  have hn : I64 a0 := by have := bounds_i64 w0; unfold I64; omega
  obtain ⟨hx, _, _, hz⟩ := w1.ints
  obtain ⟨hx2, _, _, hzt⟩ := w2.ints
  have hs2 := w2.slc
  obtain ⟨zs, hzs⟩ : ∃ zs, z1.take len1 = zs := ⟨_, rfl⟩
  obtain ⟨os, hos⟩ : ∃ zs, z2.take len2 = zs := ⟨_, rfl⟩
  rw [hzs] at hx hz
  rw [hos] at hs2 hx2 hzt
  have hz64 := i64_of hz
  have ho64 := i64_of hzt
  have HCY := Lib.hid (cyc_a a0 hn a1 len1 cap1 zs w hx hz64)
  have HLV := Lib.hid (fun V hb => lives_a w V hT hb)
  cases hk : okA a0 zs with
  | false =>
    rw [hk] at HCY
    clear hx hz hz64 hzs w1 w0 w2 hT hn hos hs2 hx2 hzt ho64
    go_enter Tryd.func7, Tryd.ntmps7
    go_wp2_with (first
      | (go_at_call 23; refine HCY.out.mono ?_; clear HCY; rintro e w2 ⟨rfl, hb2⟩)
      | (go_at_call 17; refine (HLV.out _ hb2).mono ?_; clear HLV; rintro e w3 ⟨rfl, hb3⟩))
    go_ret
    exact ⟨rfl, hb3⟩
  | true =>
    rw [hk] at HCY
    obtain ⟨hcl, hRl, hlt⟩ := ordA_cl a0 hk
    have hk8 := nA_lt a0
    have HMA := Lib.hid (fun W (hb : Below w.heap.size w W) => made_a a0 hn a1 len1 cap1 zs w W hT hx hz64 hk hb)
    have HCL := Lib.hid hcl
    have HLT := Lib.hid hlt
    have HT := Lib.hid hT
    obtain ⟨i0, hi0, hz0, hz1, hz2⟩ := info_parts info_int
    obtain ⟨k, hkk⟩ : ∃ k, nA a0 = k := ⟨_, rfl⟩
    obtain ⟨R, hR⟩ : ∃ R, ordA a0 zs = R := ⟨_, rfl⟩
    obtain ⟨M, hM⟩ : ∃ M, PO.wAll (m0 (prA a0 zs)) (nA a0) = M := ⟨_, rfl⟩
    simp only [hkk, hR] at HMA HCL hk8 hRl HLT
    rw [hkk] at hM
    simp only [hM] at HMA HLT
    have HS2 := Lib.hid hs2
    have HX2 := Lib.hid hx2
    have HO64 := Lib.hid ho64
    have hol := hx2.len
    have htl := HCL.out.topo
    have htp := PO.topo_lin HCL.out
    have HTL := Lib.hid (htl.trans hRl)
    have HTP := Lib.hid htp
    have HRL := Lib.hid hRl
    clear hx hz hz64 hzs w1 w0 w2 hT hn hcl hkk hR hk hlt hs2 hos hM hx2 hzt ho64 htl htp
    go_enter Tryd.func7, Tryd.ntmps7
    go_wp2_with (first
      | (go_at_call 23; refine HCY.out.mono ?_; clear HCY; rintro e w2 ⟨rfl, hb2⟩; have HB2 := Lib.hid hb2; clear hb2)
      | (go_at_call 24; refine (HMA.out _ HB2.out).mono ?_; clear HMA; rintro e w3 ⟨p, A3, c3, gs, rfl, hG⟩; obtain ⟨w4, hw4⟩ : ∃ W, w3.alloc (.cells #[.int .i64 (k : Int), .slice A3 k c3] 33) = W := ⟨_, rfl⟩; obtain ⟨b, hb⟩ : ∃ b, w3.heap.size = b := ⟨_, rfl⟩; have HW4 := Lib.hid hw4; have HBB := Lib.hid hb; rw [hw4, hb] at hG; have HG := Lib.hid hG; clear hG hw4 hb)
      | (rw [HW4.out, HBB.out]))
    have hb4 := HG.out.bel
    refine (linear_any HG.out.od (by omega) HCL.out.small (HG.out.tab HT.out) (Nat.le_refl _)).mono ?_
    rintro e w5 ⟨v5, rfl, ho5, hb5⟩
    obtain ⟨A5, c5, rfl, _, _⟩ := ho5.slice
    have ho5' := (OI.of ho5).2
    rw [HTL.out] at ho5' ⊢
    have HD5 := Lib.hid ho5'
    have HG5 := Lib.hid (HG.out.next hb5)
    obtain ⟨e0, e1, _, _⟩ := HG5.out.ob.facts
    clear ho5 ho5' hb5 HW4 HBB hb4 HG
    go_wp2_with fail
    refine (refLinear_any w5 w.heap.size k A3 c3 gs M HG5.out.mx (by omega) R hRl HLT.out HCL.out).mono ?_
    rintro e w6 ⟨v6, rfl, ho6, hb6⟩
    obtain ⟨A6, c6, rfl, _, _⟩ := ho6.slice
    have HR6 := Lib.hid (OI.of ho6).2
    have HD6 := Lib.hid (HD5.out.below hb6)
    have HG6 := Lib.hid (HG5.out.next hb6)
    clear ho6 hb6 HD5 HG5 e0 e1
    go_wp2_with fail
    refine (sameInts_any A5 A6 _ _ c5 c6 _ _ w6 HD6.out.ints HR6.out.ints (by omega)).mono ?_
    rintro e w7 ⟨rfl, hb7⟩
    rw [decide_eq_true rfl]
    have HD7 := Lib.hid (HD6.out.below hb7)
    have HG7 := Lib.hid (HG6.out.next hb7)
    clear hb7 HD6 HG6 HR6
    go_wp2_with fail
    have hil := isLinear_any HG7.out.od (by omega) HCL.out.small (Nat.le_refl _) A5 _ c5 _ HD7.out.ints
    rw [PO.isLinI_nat, HTP.out] at hil
    have HIL := Lib.hid hil
    clear hil
    refine HIL.out.mono ?_
    rintro e w8 ⟨rfl, hb8⟩
    have HG8 := Lib.hid (HG7.out.next hb8)
    clear hb8 HG7 HD7 HIL
    go_wp2_with fail
    have hcn := HG8.out.n
    go_loopw [10, 11] (fun lv i V => ∃ (j : Nat) (A : Option Addr) (c : Nat) (L : List Nat), j ≤ k ∧ i = .int .i64 (j : Int) ∧ lv = .slice A j c ∧ L.length = j ∧ Hid (Below w8.heap.size w8 V) ∧ Hid (OI V w8.heap.size A j c (L.map fun n : Nat => (n : Int)))) (fun _ i _ => k - (intOf i).toNat)
    case atStart => exact ⟨0, none, 0, [], by omega, rfl, rfl, rfl, Below.refl _ _, ⟨rfl, .inl ⟨rfl, rfl⟩⟩⟩
    case round =>
      clear hcn
      obtain ⟨j, A, c, L, hj, rfl, hlv, hLj, hB, hO⟩ := hrel
      obtain ⟨lv, hlvv⟩ : ∃ O, O = u10 := ⟨_, rfl⟩
      subst hlvv
      subst hlv
      have hG := HG8.out.next hB.out
      have hcn := hG.n
      by_cases hjk : j < k
      · have STEP : ∀ (q : Nat) (W9 : World), Below w8.heap.size w8 W9 → OI W9 w8.heap.size A j c (L.map fun n : Nat => (n : Int)) → OI (W9.alloc (.cells #[.int .i64 (q : Int)] 3)) w8.heap.size A j c (L.map fun n : Nat => (n : Int)) := fun q W9 _ h => h.below ((Below.refl _ _).alloc (Nat.le_refl _) _)
        have HST := Lib.hid STEP
        clear STEP
        by_cases hl2 : j < len2
        · obtain ⟨b2, off2, hA2, hbl2, hcs2⟩ := HX2.out.at_ (by omega)
          subst hA2
          have hcs := (hG.bel.cell (p := ⟨b2, off2 + j, none⟩) hbl2).trans (hcs2 j hl2)
          have hs := HO64.out _ (getD_mem (l := os) (j := j) (by omega))
          obtain ⟨sv, hsv⟩ : ∃ z, os[j]?.getD 0 = z := ⟨_, rfl⟩
          rw [hsv] at hcs hs
          obtain ⟨q, hq⟩ : ∃ q, gN sv ((k : Int) + 1) = q := ⟨_, rfl⟩
          have HAR := Lib.hid (fun n => (around_any sv ((k : Int) + 1) hs (by omega) (by omega) (wr.drewN n)).mono fun e w' h => (show e = .returned (.int .i64 (q : Int)) ∧ w' = wr.drewN n from ⟨by rw [h.1, gN_eq sv (by omega), hq], h.2.symm⟩))
          have hwk : IntKind.i64.wrap ((k : Int) + 1) = (k : Int) + 1 := by rw [IntKind.wrap_i64]; omega
          have hj0 : (0 : Int) ≤ (j : Int) := by omega
          clear hcs2 hs hsv hq hG
          go_wp2_with fail
          go_quiet (first | (go_at_call 13; refine Calls.quiet_of_same (HAR.out _)))
          obtain ⟨w9, hw9⟩ : ∃ W, W = wr.drewN nq := ⟨_, rfl⟩
          have HB9 := Lib.hid (show Below w8.heap.size w8 w9 by rw [hw9]; exact below_drewN' hB.out nq)
          have HO9 := Lib.hid (show OI w9 w8.heap.size A j c (L.map fun n : Nat => (n : Int)) by rw [hw9]; exact own_of_block hO.out fun _ _ => rfl)
          rw [← hw9]
          have HOA := Lib.hid (HST.out q w9 HB9.out HO9.out)
          have hbs := HB9.out.size
          clear hwk hw9 hB hO HAR hcs hcn
          go_wp2_with (
             at_builtin
             refine wpList_append_lies _ rfl (.tmp 58) (.tmp 60) 22 rfl w8.heap.size 3 i0 _ 1 8 Tryd.underlying22 hi0 hz0 hz1 hz2 rfl (by decide) (.slice A j c) j _ rfl HOA.out ⟨w9.heap.size, 0, none⟩ 1 1 [.int .i64 (q : Int)] rfl rfl (fun j u hu => cell_one_new w9 _ _ j u hu) (by simp [Value.oneCell']) (by decide) (by simp only [maxLen]; omega) (by omega) (by simp; omega) _ rfl ?_
             intro g7 c7 w10 hown7 hgrow7 hat7 hlt7
             have HO7 := Lib.hid (oi_snoc hown7)
             have HB7 := Lib.hid ((HB9.out.alloc hbs (.cells #[.int .i64 (q : Int)] 3)).grown hgrow7 (by simp; omega) (fun b e => (World.ownsRow.lt HOA.out b e).1))
             clear hown7 hgrow7 hat7 hlt7)
          go_roundw
          case rel => exact ⟨j + 1, _, c7, L ++ [q], by omega, by go_num, rfl, by rw [List.length_append, hLj]; rfl, HB7.out, HO7.out⟩
          case measure => simp [intOf]; omega
        · have HOA := Lib.hid (HST.out j wr hB.out hO.out)
          have hbs := hB.out.size
          clear hG hO
          go_wp2_with (
             at_builtin
             refine wpList_append_lies _ rfl (.tmp 58) (.tmp 60) 22 rfl w8.heap.size 3 i0 _ 1 8 Tryd.underlying22 hi0 hz0 hz1 hz2 rfl (by decide) (.slice A j c) j _ rfl HOA.out ⟨wr.heap.size, 0, none⟩ 1 1 [.int .i64 (j : Int)] rfl rfl (fun j u hu => cell_one_new wr _ _ j u hu) (by simp [Value.oneCell']) (by decide) (by simp only [maxLen]; omega) (by omega) (by simp; omega) _ rfl ?_
             intro g7 c7 w10 hown7 hgrow7 hat7 hlt7
             have HO7 := Lib.hid (oi_snoc hown7)
             have HB7 := Lib.hid ((hB.out.alloc hbs (.cells #[.int .i64 (j : Int)] 3)).grown hgrow7 (by simp; omega) (fun b e => (World.ownsRow.lt HOA.out b e).1))
             clear hown7 hgrow7 hat7 hlt7)
          go_roundw
          case rel => exact ⟨j + 1, _, c7, L ++ [j], by omega, by go_num, rfl, by rw [List.length_append, hLj]; rfl, HB7.out, HO7.out⟩
          case measure => simp [intOf]; omega
      · obtain rfl : j = k := by omega
        have HGL := Lib.hid hG
        have HOL := Lib.hid hO.out
        clear hG hO hB hLj
        go_wp2_with fail
        refine (ints_any a2 len2 cap2 os 9 (by omega) (by omega) wr (HS2.out.below (HGL.out.bel.mono (Nat.le_refl _)))).mono ?_
        rintro e w9 ⟨A9, n9, c9, rfl, hl9, -, ho9, hb9⟩
        obtain ⟨X, hX⟩ : ∃ X, os.take (Int.toNat 9) = X := ⟨_, rfl⟩
        have hn9 : n9 ≤ 9 := by rw [← hl9, List.length_take]; exact Nat.min_le_left _ _
        rw [hX] at ho9 hl9
        have HRW := Lib.hid (show OI w9 wr.heap.size A9 n9 c9 X from ho9)
        have HLS := Lib.hid (HOL.out.below hb9)
        have HG9 := Lib.hid (HGL.out.next hb9)
        have HLV2 := Lib.hid (fun V (h : Below w9.heap.size w9 V) => (lives_any V ((HG9.out.next h).tab HT.out)).mono fun e w' r => (show e = .returned (.bool true) ∧ Below w9.heap.size w9 w' from ⟨r.1, h.trans (r.2.mono h.size)⟩))
        have I1 := Lib.hid (fun V (h : Below w9.heap.size w9 V) => (isLinear_any ((HG9.out.next h).od) (by omega) HCL.out.small (Nat.le_refl _) A j c _ (HLS.out.below h).ints).mono fun e w' r => (show e = .returned (.bool (PO.isLinI R (L.map fun n : Nat => (n : Int)))) ∧ Below w9.heap.size w9 w' from ⟨r.1, h.trans (r.2.mono h.size)⟩))
        have I2 := Lib.hid (fun V (h : Below w9.heap.size w9 V) => (isLinear_any ((HG9.out.next h).od) (by omega) HCL.out.small (Nat.le_refl _) A9 n9 c9 _ (HRW.out.below h).ints).mono fun e w' r => (show e = .returned (.bool (PO.isLinI R X)) ∧ Below w9.heap.size w9 w' from ⟨r.1, h.trans (r.2.mono h.size)⟩))
        have R1 := Lib.hid (fun V (h : Below w9.heap.size w9 V) => (refIsLinear_any V w.heap.size j A3 c3 gs M (HG9.out.next h).mx (by omega) R HRL.out HLT.out A j c _ (HLS.out.below h).ints).mono fun e w' r => (show e = .returned (.bool (PO.isLinI R (L.map fun n : Nat => (n : Int)))) ∧ Below w9.heap.size w9 w' from ⟨r.1, h.trans (r.2.mono h.size)⟩))
        have R2 := Lib.hid (fun V (h : Below w9.heap.size w9 V) => (refIsLinear_any V w.heap.size j A3 c3 gs M (HG9.out.next h).mx (by omega) R HRL.out HLT.out A9 n9 c9 _ (HRW.out.below h).ints).mono fun e w' r => (show e = .returned (.bool (PO.isLinI R X)) ∧ Below w9.heap.size w9 w' from ⟨r.1, h.trans (r.2.mono h.size)⟩))
        obtain ⟨t1, ht1⟩ : ∃ t, PO.isLinI R (L.map fun n : Nat => (n : Int)) = t := ⟨_, rfl⟩
        obtain ⟨t2, ht2⟩ : ∃ t, PO.isLinI R X = t := ⟨_, rfl⟩
        simp only [ht1] at I1 R1
        simp only [ht2] at I2 R2
        have hq1 : (t1 == t1) = true := by simp
        have hq2 : (t2 == t2) = true := by simp
        obtain ⟨e0, e1, _, _⟩ := HG9.out.ob.facts
        have hbl : b < w9.heap.size := heap_lt HG9.out.ob
        have B9 : Below w9.heap.size w9 w9 := Below.refl _ _
        clear ht1 ht2 hl9 hb9 HOL HGL HG8 HLV
        go_wp2_with fail
        go_region_held3 (fun W => W.cell? ⟨b, 0, none⟩ = some (.int .i64 (j : Int)) ∧ W.cell? ⟨b, 1, none⟩ = some (.slice A3 j c3))
          (first | exact ⟨e0, e1⟩ | exact ⟨(B14.cell (p := ⟨b, 0, none⟩) hbl).trans e0, (B14.cell (p := ⟨b, 1, none⟩) hbl).trans e1⟩ | exact ⟨(B13.cell (p := ⟨b, 0, none⟩) hbl).trans e0, (B13.cell (p := ⟨b, 1, none⟩) hbl).trans e1⟩ | exact ⟨(B12.cell (p := ⟨b, 0, none⟩) hbl).trans e0, (B12.cell (p := ⟨b, 1, none⟩) hbl).trans e1⟩ | exact ⟨(B11.cell (p := ⟨b, 0, none⟩) hbl).trans e0, (B11.cell (p := ⟨b, 1, none⟩) hbl).trans e1⟩ | exact ⟨(B10.cell (p := ⟨b, 0, none⟩) hbl).trans e0, (B10.cell (p := ⟨b, 1, none⟩) hbl).trans e1⟩)
          (first
            | (go_at_call 31; ((with_reducible refine (I1.out _ ?_).mono ?_); focus (first | exact B9.drew | exact B9)); rintro e w10 ⟨rfl, B10⟩; clear I1)
            | (go_at_call 33; ((with_reducible refine (R1.out _ ?_).mono ?_); focus (exact B10)); rintro e w11 ⟨rfl, B11⟩; clear R1)
            | (go_at_call 31; ((with_reducible refine (I2.out _ ?_).mono ?_); focus (exact B11)); rintro e w12 ⟨rfl, B12⟩; clear I2)
            | (go_at_call 33; ((with_reducible refine (R2.out _ ?_).mono ?_); focus (exact B12)); rintro e w13 ⟨rfl, B13⟩; clear R2)
            | (go_at_call 17; ((with_reducible refine (HLV2.out _ ?_).mono ?_); focus (exact B13)); rintro e w14 ⟨rfl, B14⟩; clear HLV2))
        all_goals
          go_wp2_with fail
          go_ret
          exact ⟨rfl, HG9.out.bel.trans (B14.mono HG9.out.bel.size)⟩
end Go.Proofs.YtlgdcbhdmffnoaaDoor.LawPosetLinear

namespace Go.Proofs.YtlgdcbhdmffnoaaDoor.posetLinear
open Go.ChangeShapes Go.WideShapes Go.ChangeAt Go.RowKit
open Go.ChangeMaps (open_string shut_string)
set_option linter.unusedVariables false

theorem own : ownKnob Tryd.prog.godebug = none := by kernel_rfl
theorem laidOut : laidOutB Tryd.prog = true := by kernel_rfl

/-- WHAT THE WALK IS TOLD OF A SLICE OF INTEGERS THAT CAME IN: it is nil; or it leads to a row of 'cap' cells, the numbers 'zs' (the first 'len' are its elements, the rest its spare room), each fitting its kind. -/
def IsRow (k : IntKind) (w : World) (a : Option Addr) (len cap : Nat) (zs : List Int) : Prop :=
  (a = none ∧ len = 0 ∧ cap = 0 ∧ zs = []) ∨
  ∃ x, a = some x ∧ len ≤ cap ∧ cap ≤ maxLen ∧ zs.length = cap ∧ (∀ i, i < zs.length → w.cell? (x.add i) = some (.int k (zs.getD i 0))) ∧ ∀ n ∈ zs, (Lit.int k n).wf = true

/-! ### STEP 1: THE WALK: the Go text returns true, AND WRITES NOTHING THAT WAS THERE: 'Below w.heap.size w w'' (Derived/Below.lean: '.refl', '.alloc', '.drew', '.setCell' at a new block, '.trans'). Open each 'IsRow' by 'rcases' AHEAD of 'go_enter'; part every test ahead of the walk. -/
theorem walk (a0 : Int) (a1 : Option Addr) (len1 cap1 : Nat) (z1 : List Int) (a2 : Option Addr) (len2 cap2 : Nat) (z2 : List Int) (w : World) (w0 : (Lit.int .i64 a0).wf = true) (w1 : IsRow .i64 w a1 len1 cap1 z1) (w2 : IsRow .i64 w a2 len2 cap2 z2) (hT : Tab w) :
    Calls Tryd.prog 7 #[.int .i64 a0, .slice a1 len1 cap1, .slice a2 len2 cap2] w fun e w' => e = .returned (.bool true) ∧ Below w.heap.size w w' := by
  exact LawPosetLinear.walk a0 a1 len1 cap1 z1 a2 len2 cap2 z2 w w0 w1 w2 hT

/-! ### THE ROW's STEP: WRITTEN OUT: LEAVE IT -/
set_option maxRecDepth 100000 in
theorem lifted (os : Os) (started : os.Started) (H : Type) (enc : TypeId × Value → H) :
    ReturnsInHanded {} Tryd.checked os 7 .any (fun w args => (Rows.posetLinearSpec.pre enc Tryd.prog Tryd.f7 [] false w args ∧ laidMetH Tryd.prog laidT w) ∧ sizedMet enc Tryd.prog Tryd.f7 (OpenSpec.ofChange Rows.posetLinearSpec) false w args)
      (Rows.posetLinearSpec.post enc Tryd.prog Tryd.f7 false true false false) := by
  refine returnsInHanded_of_change_and (C := Tryd.checked) (X := fun w _ => laidMetH Tryd.prog laidT w) (fun _ _ _ hh h => h.of_heap hh) own started (by kernel_rfl) Tryd.func7
    (ChangeSpec.witness_shaped (enc := enc) (C := Tryd.checked) (os := os) (X := fun w _ => laidMetH Tryd.prog laidT w) false (World.doorLaid Tryd.prog 14 os) #[.int .i64 0, .slice none 0 0, .slice none 0 0] 8 rfl (World.shaped_of_RefB (by kernel_rfl) (by kernel_rfl)) (by kernel_rfl) (by kernel_rfl) (by kernel_rfl) (door_met os _)) ?_
  intro W base args ds gs before hval0 hW _ _ hL _
  have hval : ∀ (j : Nat) t v, Tryd.f7.params[j]? = some t → args[j]? = some v → Value.okWide Tryd.prog W .any base t v := hval0
  have hW' := hW
  obtain ⟨p, q, hA0, hV, rfl, hfz, hnd⟩ := hW
  have hA : DataW.TrodAll enc Tryd.prog W 0 (fun _ => true) true Tryd.f7.params.toList args.toList ds p := hA0
  rw [Tryd.params7] at hA hval
  obtain ⟨v0, vs0, d0, ds0, p0, q0, hargs, rfl, rfl, h0, r0⟩ := trodAll_cons hA
  obtain ⟨v1, vs1, d1, ds1, p1, q1, rfl, rfl, rfl, h1, r1⟩ := trodAll_cons r0
  obtain ⟨v2, vs2, d2, ds2, p2, q2, rfl, rfl, rfl, h2, r2⟩ := trodAll_cons r1
  obtain ⟨rfl, rfl, rfl⟩ := trodAll_nil r2
  obtain rfl : args = #[v0, v1, v2] := by cases args; simp_all
  obtain ⟨rfl, rfl⟩ := trodVars_none hV
  obtain ⟨a0, rfl, rfl, rfl, w0⟩ := open_int Tryd.underlying3 (hval 0 3 v0 rfl rfl) h0
  obtain ⟨a1, len1, cap1, rfl⟩ := okWide_slice Tryd.underlying22 (hval 1 22 v1 rfl rfl)
  have k1 := h1
  have lt1 : ∀ x ∈ p1, x.block < W.heap.size := by obtain ⟨m, hm⟩ := k1; exact DataW.trod_lt m _ _ _ hm
  obtain ⟨z1, w1⟩ : ∃ zs, IsRow .i64 W a1 len1 cap1 zs := by
    obtain ⟨fuel, hf⟩ := h1
    rcases open_ints Tryd.underlying22 Tryd.underlying3 (by kernel_rfl) hf with ⟨hcs, _⟩ | ⟨x, l, c, zs, hcs, _, hl, hm, hz, _, hcell, hwz⟩
    · simp [Value.cells] at hcs
      obtain ⟨rfl, rfl, rfl⟩ := hcs
      exact ⟨[], .inl ⟨rfl, rfl, rfl, rfl⟩⟩
    · simp [Value.cells] at hcs
      obtain ⟨rfl, rfl, rfl⟩ := hcs
      exact ⟨zs, .inr ⟨_, rfl, hl, hm, by simpa using hz, hcell, hwz⟩⟩
  obtain ⟨a2, len2, cap2, rfl⟩ := okWide_slice Tryd.underlying22 (hval 2 22 v2 rfl rfl)
  have k2 := h2
  have lt2 : ∀ x ∈ p2, x.block < W.heap.size := by obtain ⟨m, hm⟩ := k2; exact DataW.trod_lt m _ _ _ hm
  obtain ⟨z2, w2⟩ : ∃ zs, IsRow .i64 W a2 len2 cap2 zs := by
    obtain ⟨fuel, hf⟩ := h2
    rcases open_ints Tryd.underlying22 Tryd.underlying3 (by kernel_rfl) hf with ⟨hcs, _⟩ | ⟨x, l, c, zs, hcs, _, hl, hm, hz, _, hcell, hwz⟩
    · simp [Value.cells] at hcs
      obtain ⟨rfl, rfl, rfl⟩ := hcs
      exact ⟨[], .inl ⟨rfl, rfl, rfl, rfl⟩⟩
    · simp [Value.cells] at hcs
      obtain ⟨rfl, rfl, rfl⟩ := hcs
      exact ⟨zs, .inr ⟨_, rfl, hl, hm, by simpa using hz, hcell, hwz⟩⟩
  clear hA0 hval0
  refine (walk a0 a1 len1 cap1 z1 a2 len2 cap2 z2 W w0 w1 w2 (of_laid hL)).mono fun e W' ⟨he, bel⟩ => ?_
  subst he
  exact ⟨_, rfl, _, _, _, [], _, [], hW', trodAll_mk1 (shut_bool Tryd.underlying4 _), (trodAll_cons_mk (shut_int Tryd.underlying3 w0) (trodAll_cons_mk (Below.trod laidOut (by kernel_rfl) (of_decide_eq_true (by kernel_rfl)) k1 bel lt1) (trodAll_cons_mk (Below.trod laidOut (by kernel_rfl) (of_decide_eq_true (by kernel_rfl)) k2 bel lt2) trodAll_mk0))), rfl, bel.frame _, fun h => by cases h⟩

theorem over : Rows.posetLinearRow.holds Tryd.pinned (OpenSpec.ofChange Rows.posetLinearSpec) :=
  OpenClaim.holds_of_wide 7 Tryd.f7 rfl rfl rfl rfl rfl rfl rfl ⟨rfl, rfl, rfl, rfl, rfl⟩ rfl rfl rfl rfl rfl (by kernel_rfl) Tryd.func7 (by kernel_rfl)
    (of_decide_eq_true (by kernel_rfl)) (by unfold Func.isWrapper; first | (rw [if_pos (by decide +kernel)]; kernel_rfl) | (rw [if_neg (by decide +kernel)]; exact ⟨rfl, rfl⟩))
    (fun os started H enc _ => lifted os started H enc)


/-! ### THE CARD -/
theorem cardHolds : Rows.PosetLinearCardSaid :=
  Claim7.holds_tied_plain_at .later [] [.data] true (true, "69b8748036c1ab40a488c13c974df10cd19b3b935a840f5165b1f86c23c10982") true
    over (fun _ h => by cases h) (by kernel_rfl) (fun _ h => by cases h) posetLinear_row_tie rfl ⟨rfl, rfl⟩ (by kernel_rfl) rfl
    (fun f fn hf hfn => by
      obtain rfl : f = 7 := Option.some.inj ((show Tryd.prog.funcNamed "simproof/simprooflaw04.PosetLinear" = some 7 by kernel_rfl).symm.trans hf) |>.symm
      obtain rfl : fn = Tryd.f7 := (Option.some.inj (Tryd.func7.symm.trans hfn)).symm
      exact ⟨by kernel_rfl, fun j t ht => by
        rw [Tryd.params7] at ht
        have hm : t ∈ [3, 22, 22] := by simpa using Array.mem_of_getElem? ht
        have hall : ([3, 22, 22].all fun u => !Tryd.prog.wantsStandIn u) = true := by kernel_rfl
        exact (show Tryd.prog.wantsStandIn t = false by simpa using List.all_eq_true.1 hall t hm)⟩)
    (by kernel_rfl)
end Go.Proofs.YtlgdcbhdmffnoaaDoor.posetLinear
