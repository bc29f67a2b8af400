/-
  The walk of PosetNew: New's error is the reference's, and otherwise Len, Less and Concurrent are.
  The tied card of the statement PosetNew: for every input the law answers true and leaves its arguments as they were; the condition is the listed table of math/bits, which the card ties to the program's text. The frame of this proof was written by hand after the guide's program, the walk is the text LawPosetNew's.
-/
import Derived.Test.YtlgdcbhdmffnoaaDoorK24
import Derived.Test.YtlgdcbhdmffnoaaDoorK19
import Derived.BigQuiet
import Derived.Deep.QuietTactic
import Derived.Deep.RegionHeld3
import Derived.Deep.DrawnRows
import Derived.Test.YtlgdcbhdmffnoaaDoorRows
import Derived.Test.YtlgdcbhdmffnoaaDoorCards
import Derived.Test.YtlgdcbhdmffnoaaDoorTie
import Derived.Test.YtlgdcbhdmffnoaaDoorK3
import Derived.Test.YtlgdcbhdmffnoaaDoorK23
import Derived.SevenTiedPlain
import Derived.SevenTiedAt
import Derived.WalkKit
import Derived.ProofKit
import Derived.OpenShut
import Derived.ShutString
import Derived.ChangeOld
import Derived.Below

namespace Go.Proofs.YtlgdcbhdmffnoaaDoor.LawPosetNew
open Go Go.RowKit Go.Proofs Go.Proofs.YtlgdcbhdmffnoaaDoor
attribute [local go_sem ↓] Go.wp_at_zero Go.wp_at_succ

/-- Pairs of integers as cells. -/
def pcI (P : List (Int × Int)) : List Value := P.flatMap fun p => [.int .i64 p.1, .int .i64 p.2]
theorem pcI_int (E : List (Nat × Nat)) : pcI (intP E) = pc E := by
  unfold pcI intP pc
  rw [List.flatMap_map]
  rfl
theorem pcI_snoc (P : List (Int × Int)) (x y : Int) : pcI (P ++ [(x, y)]) = pcI P ++ [.int .i64 x, .int .i64 y] := by simp [pcI]
theorem pcI_at {P : List (Int × Int)} {j : Nat} {p : Int × Int} (h : P[j]? = some p) : (pcI P)[j * 2]? = some (.int .i64 p.1) ∧ (pcI P)[j * 2 + 1]? = some (.int .i64 p.2) := by
  induction P generalizing j with
  | nil => simp at h
  | cons a t ih =>
    cases j with
    | zero => simp at h; subst h; exact ⟨rfl, rfl⟩
    | succ j =>
      rw [List.getElem?_cons_succ] at h
      obtain ⟨h1, h2⟩ := ih h
      refine ⟨?_, ?_⟩
      · rw [show (j + 1) * 2 = j * 2 + 1 + 1 by omega]; exact h1
      · rw [show (j + 1) * 2 + 1 = j * 2 + 1 + 1 + 1 by omega]; exact h2
theorem edgI_row {W : World} {lo n c : Nat} {A : Option Addr} {P : List (Int × Int)} (hn : P.length = n) (h : W.ownsRow lo 23 2 (.slice A n c) n (pcI P)) : EdgI W W.heap.size A n P := by
  refine ⟨hn, fun h0 => ?_⟩
  rcases h.2 with ⟨e, e2⟩ | ⟨g, cap, cur, e, g1, g2, _⟩
  · omega
  · injection e with e1
    subst e1
    refine ⟨g, 0, rfl, heap_lt g2, fun j x y hj => ?_⟩
    obtain ⟨k1, k2⟩ := pcI_at hj
    have c1 := World.ownsRow.cells h rfl _ _ k1
    have c2 := World.ownsRow.cells h rfl _ _ k2
    rw [Addr.add_lit] at c1 c2
    exact ⟨c1, c2⟩
theorem int_natP {n : Nat} {P : List (Int × Int)} (h : inP n P = true) : intP (natP P) = P := by
  unfold intP natP
  rw [List.map_map]
  unfold inP at h
  rw [List.all_eq_true] at h
  refine (List.map_congr_left (g := id) fun p hp => ?_).trans (List.map_id P)
  have := h p hp
  rw [Bool.and_eq_true] at this
  obtain ⟨a, ha, _⟩ := PO.isEl_iff.1 this.1
  obtain ⟨b, hb, _⟩ := PO.isEl_iff.1 this.2
  obtain ⟨p1, p2⟩ := p
  simp only at ha hb
  subst ha hb
  rfl
theorem edg_ofI {W : World} {B n m : Nat} {A : Option Addr} {P : List (Int × Int)} (h : EdgI W B A m P) (hin : inP n P = true) : Edg W B A m (natP P) := by
  refine ⟨by unfold natP; rw [List.length_map]; exact h.1, fun hm => ?_⟩
  obtain ⟨b, off, e, hb, hc⟩ := h.2 hm
  refine ⟨b, off, e, hb, fun j x y hj => ?_⟩
  have hP : P[j]? = some ((x : Int), (y : Int)) := by
    rw [← int_natP hin]
    unfold intP
    rw [List.getElem?_map, hj]
    rfl
  exact hc j _ _ hP
theorem row_of {W : World} {lo n c : Nat} {A : Option Addr} {E : List (Nat × Nat)} (h : OwnP W lo (.slice A n c) E) : W.ownsRow lo 23 2 (.slice A n c) n (pcI (intP E)) := by
  obtain ⟨hn, _⟩ := ownP_edg h
  unfold OwnP at h
  rw [pcI_int, hn]
  rw [← hn] at h
  rw [← hn]
  exact h
theorem edgI_mono {W : World} {B B' m : Nat} {A : Option Addr} {P : List (Int × Int)} (h : EdgI W B A m P) (hb : B ≤ B') : EdgI W B' A m P := h.more hb
set_option maxRecDepth 100000 in
set_option maxHeartbeats 8000000 in
theorem walk (a0 : Int) (a1 : Option Addr) (len1 cap1 : Nat) (z1 : List Int) (x y : Int) (u : Bool) (a4 a5 : Int) (w : World) (w0 : (Lit.int .i64 a0).wf = true) (w1 : Row .i64 w a1 len1 cap1 z1) (_ : (Lit.int .i64 a4).wf = true) (_ : (Lit.int .i64 a5).wf = true) (hT : Tab w) :
    Calls Tryd.prog 3 #[.int .i64 a0, .slice a1 len1 cap1, .agg #[.int .i64 x, .int .i64 y], .bool u, .int .i64 a4, .int .i64 a5] w fun e w' => e = .returned (.bool true) ∧ Below w.heap.size w w' := by
  have hn : I64 a0 := by have := bounds_i64 w0; unfold I64; omega
  obtain ⟨hx, _, _, hz⟩ := w1.ints
  obtain ⟨zs, hzs⟩ : ∃ zs, z1.take len1 = zs := ⟨_, rfl⟩
  rw [hzs] at hx hz
  have hz64 := i64_of hz
  have HT := Lib.hid hT
  obtain ⟨i0, hi0, hz0, hz1, hz2⟩ := info_parts info_pr
  obtain ⟨v1, hv1⟩ : ∃ V, w.alloc (.cells #[.int .i64 x, .int .i64 y] 23) = V := ⟨_, rfl⟩
  have hb1 : Below w.heap.size w v1 := by rw [← hv1]; exact (Below.refl _ _).alloc (Nat.le_refl _) _
  have ho1 : v1.heap[w.heap.size]? = some (.cells #[.int .i64 x, .int .i64 y] 23 (0, 0)) := by rw [← hv1]; exact World.alloc_heap_new w _
  have hs1 : v1.heap.size = w.heap.size + 1 := by rw [← hv1]; simp
  have HAR := Lib.hid (fun V => around_any a0 9 hn (by omega) (by omega) V)
  simp only [gN_eq a0 (show (0 : Int) < 9 by omega)] at HAR
  have hk9 := gN_lt a0 (m := 9) (by omega)
  have HPA := Lib.hid (pairs_e (gN a0 9) (by omega) a1 len1 cap1 zs v1 (ints_mono (hx.below hb1) hb1.size) hz64)
  have hprl := prE_lt (k := gN a0 9) (zs := zs)
  have hpln := prE_len (gN a0 9) zs
  obtain ⟨k, hkk⟩ : ∃ k, gN a0 9 = k := ⟨_, rfl⟩
  simp only [hkk] at HAR HPA hprl hpln hk9
  obtain ⟨E, hE⟩ : ∃ E, prE k zs = E := ⟨_, rfl⟩
  rw [hE] at HPA hprl hpln
  have hk8 : k ≤ 8 := by omega
  have HV1 := Lib.hid hv1
  have HB1 := Lib.hid hb1
  have HO1 := Lib.hid ho1
  clear hx hz hz64 hzs w1 w0 hT hn hkk hE hprl hk9 hv1 hb1 ho1
  cases u
  all_goals
    go_enter Tryd.func3, Tryd.ntmps3
    go_wp2_with (first
      | (go_at_call 13; refine (HAR.out _).mono ?_; clear HAR; rintro e w' ⟨rfl, rfl⟩; rw [HV1.out])
      | (go_at_call 14; refine HPA.out.mono ?_; clear HPA; rintro e w3 ⟨A6, c6, rfl, ho3, hb3⟩; have hcx := (hb3.cell (p := ⟨w.heap.size, 0, none⟩) (show w.heap.size < v1.heap.size by omega)).trans (cell_of_row v1 w.heap.size 0 _ _ (0, 0) HO1.out); have hcy := (hb3.cell (p := ⟨w.heap.size, 1, none⟩) (show w.heap.size < v1.heap.size by omega)).trans (cell_of_row v1 w.heap.size 1 _ _ (0, 0) HO1.out); have hrow := row_of ho3; have HRW := Lib.hid hrow; have HRI := Lib.hid (edgI_row (by unfold intP; rw [List.length_map]) (hrow)); have HB3 := Lib.hid (HB1.out.trans (hb3.mono HB1.out.size)); have hs3 := hb3.size; clear ho3 hb3 hrow)
      | (at_builtin
         refine wpList_append_lies _ rfl (.tmp 27) (.tmp 29) 25 rfl v1.heap.size 23 i0 _ 2 16 Tryd.underlying25 hi0 hz0 hz1 hz2 rfl (by decide) (.slice A6 E.length c6) E.length (pcI (intP E)) rfl (own_of_block HRW.out fun b hb => Below.heap_alloc _ _ _ (World.ownsRow.lt HRW.out b hb).2) ⟨w3.heap.size, 0, none⟩ 1 1 [.int .i64 x, .int .i64 y] rfl rfl (World.news_of_block (World.alloc_heap_new w3 _)) (by simp [Value.oneCell']) (by decide) (by simp only [maxLen]; omega) (by omega) (by simp; omega) _ rfl ?_
         intro g7 c7 w7 hown7 hgrow7 hat7 hlt7
         rw [← pcI_snoc] at hown7
         have HRI := Lib.hid (edgI_row (by unfold intP; rw [List.length_append, List.length_map]; rfl) hown7)
         have HB3 := Lib.hid ((HB3.out.alloc (show w.heap.size ≤ w3.heap.size by omega) (.cells #[.int .i64 x, .int .i64 y] 23)).grown hgrow7 (by simp; omega) (fun b e => by have := (World.ownsRow.lt HRW.out b e).1; omega))
         have hmark := Lib.hid (Eq.refl g7)
         clear hown7 hgrow7 hat7 hlt7))
  all_goals
    first
      | (clear hmark
         obtain ⟨A7, hA7⟩ : ∃ A : Option Addr, some ⟨g7, 0, none⟩ = A := ⟨_, rfl⟩
         obtain ⟨m, hm⟩ : ∃ m, E.length + 1 = m := ⟨_, rfl⟩
         obtain ⟨P, hP⟩ : ∃ P, intP E ++ [(x, y)] = P := ⟨_, rfl⟩
         have hpl : m ≤ 13 := by omega
         rw [hA7, hm, hP] at HRI
         rw [hA7, hm]
         clear hA7 hP hm)
      | (obtain ⟨A7, hA7⟩ : ∃ A, A6 = A := ⟨_, rfl⟩
         obtain ⟨c7, hc7⟩ : ∃ A, c6 = A := ⟨_, rfl⟩
         obtain ⟨w7, hw7⟩ : ∃ A, w3 = A := ⟨_, rfl⟩
         obtain ⟨m, hm⟩ : ∃ m, E.length = m := ⟨_, rfl⟩
         obtain ⟨P, hP⟩ : ∃ P, intP E = P := ⟨_, rfl⟩
         have hpl : m ≤ 13 := by omega
         rw [hA7, hm, hP, hw7] at HRI
         rw [hw7] at HB3
         rw [hA7, hm, hc7, hw7]
         clear hA7 hP hm hc7)
    have HBW := Lib.hid HB3.out
    have HEP := Lib.hid HRI.out
    have hPl := HRI.out.1
    have hsz := HB3.out.size
    clear HB3 HRI HRW HO1 HB1 hpln hs1 hs3 HV1
    cases hin : inP k P with
    | false =>
      have hnew := new_any k m c7 A7 P w7 (HT.out.below HT.out.lt HBW.out) hk8 (by omega) HEP.out
      have hc6 : newC k P = 6 := by unfold newC; rw [hin]; rfl
      simp only [hc6] at hnew
      have HNW := Lib.hid hnew
      have HOUT := Lib.hid (fun V (h : Below w7.heap.size w7 V) => refNew_out k m c7 A7 P V (by omega) (by omega) ((HEP.out.below h).more h.size) hin)
      clear hnew hc6 hin
      refine HNW.out.mono ?_
      clear HNW
      rintro e w8 ⟨q, rfl, hb8, -, hq⟩
      obtain rfl := hq (by decide)
      have HB8 := Lib.hid hb8
      clear hb8 hq
      go_wp2_with fail
      refine (HOUT.out _ HB8.out).mono ?_
      rintro e w9 ⟨rfl, hb9⟩
      have HLV := Lib.hid (fun B => lives_a w (w9.alloc B) HT.out (HBW.out.trans ((HB8.out.trans ((hb9.alloc hb9.size B).mono HB8.out.size)).mono hsz)))
      clear hb9 HOUT HB8
      go_wp2_with (go_at_call 17; refine (HLV.out _).mono ?_; rintro e w6 ⟨rfl, hb6⟩)
      go_ret
      exact ⟨rfl, hb6⟩
    | true =>
      have hed := edg_ofI HEP.out hin
      have hnat := int_natP hin
      have hlt0 := inP_lt hin
      have hml : (natP P).length = m := hed.1
      obtain ⟨E2, hE2⟩ : ∃ E2, natP P = E2 := ⟨_, rfl⟩
      rw [hE2] at hed hlt0 hml
      have HE := Lib.hid hed
      have HLT0 := Lib.hid hlt0
      have hnw := new_e k m c7 A7 E2 w7 (HT.out.below HT.out.lt HBW.out) hk8 (by omega) hed hlt0
      have HRN := Lib.hid (fun V (h : Below w7.heap.size w7 V) => refNew_any k m c7 A7 E2 V (by omega) (by omega) (edg_mono (HE.out.below h) h.size) HLT0.out)
      clear hnat hE2 hed hlt0 hin hPl hml
      refine hnw.mono ?_
      clear hnw
      rintro e w8 ⟨hb8, ⟨hk, rfl⟩ | ⟨hk, p, rfl, hod⟩⟩
      · have HB8 := Lib.hid hb8
        have HK := Lib.hid hk
        clear hb8 hk
        go_wp2_with fail
        refine (HRN.out _ HB8.out).mono ?_
        rintro e w9 ⟨hb9, ⟨rfl, _⟩ | ⟨hno, _⟩⟩
        rotate_left
        · exfalso
          have := (ok_iff (by omega) HLT0.out).2 hno
          rw [HK.out] at this
          cases this
        have HLV := Lib.hid (fun B => lives_a w (w9.alloc B) HT.out (HBW.out.trans ((HB8.out.trans ((hb9.alloc hb9.size B).mono HB8.out.size)).mono hsz)))
        clear hb9 HRN HB8
        go_wp2_with (go_at_call 17; refine (HLV.out _).mono ?_; rintro e w6 ⟨rfl, hb6⟩)
        go_ret
        exact ⟨rfl, hb6⟩
      · have HOD := Lib.hid hod
        have HB8 := Lib.hid hb8
        have hcl := ordE_cl hk8 HLT0.out hk
        have HCL := Lib.hid hcl.1
        have hRl := hcl.2.1
        have HLT := Lib.hid hcl.2.2
        have HK := Lib.hid hk
        clear hod hb8 hcl hk
        go_wp2_with fail
        refine (HRN.out _ HB8.out).mono ?_
        clear HRN
        rintro e w9 ⟨hb9, ⟨rfl, a, ha, hcy⟩ | ⟨_, v, gs, rfl, hmx⟩⟩
        · exfalso
          have := (ok_iff (by omega) HLT0.out).1 HK.out a ha
          rw [hcy] at this
          cases this
        obtain ⟨vA, vc, rfl, _, _⟩ := own_slice hmx.own
        have hs8 := HB8.out.size
        have hBW9 := HBW.out.trans ((HB8.out.trans (hb9.mono hs8)).mono hsz)
        have hG := Gd.made ((HOD.out.below hb9).more hb9.size) (hmx.lower (lo' := w.heap.size) (by omega)) hBW9
        obtain ⟨R, hR⟩ : ∃ R, ordE k E2 = R := ⟨_, rfl⟩
        obtain ⟨M, hM⟩ : ∃ M, PO.wAll (m0 E2) k = M := ⟨_, rfl⟩
        rw [hR, hM] at hG
        simp only [hR, hM] at HLT
        rw [hR] at HCL hRl
        obtain ⟨w10, hw10⟩ : ∃ W, w9.alloc (.cells #[.int .i64 (k : Int), .slice vA k vc] 33) = W := ⟨_, rfl⟩
        obtain ⟨b, hb⟩ : ∃ b, w9.heap.size = b := ⟨_, rfl⟩
        rw [hw10, hb] at hG
        have HG := Lib.hid hG
        have HW10 := Lib.hid hw10
        have HBB := Lib.hid hb
        have HRL := Lib.hid hRl
        have LA := Lib.hid (fun (a b : Int) V (h : Below w10.heap.size w10 V) => (less_any (HG.out.next h).od (by omega) HCL.out.small a b).mono fun e w' r => (show e = .returned (.bool (PO.ltI R a b)) ∧ Below w10.heap.size w10 w' from ⟨r.1, r.2 ▸ h⟩))
        have LB := Lib.hid (fun (a b : Int) V (h : Below w10.heap.size w10 V) => (refLessI_any V w.heap.size k vA vc gs M (HG.out.next h).mx (by omega) HRL.out HLT.out a b).mono fun e w' r => (show e = .returned (.bool (PO.ltI R a b)) ∧ Below w10.heap.size w10 w' from ⟨r.1, h.trans (r.2.mono h.size)⟩))
        have CA := Lib.hid (fun (a b : Int) V (h : Below w10.heap.size w10 V) => (conc_any (HG.out.next h).od (by omega) HCL.out.small a b).mono fun e w' r => (show e = .returned (.bool (PO.concI R a b)) ∧ Below w10.heap.size w10 w' from ⟨r.1, r.2 ▸ h⟩))
        have CB := Lib.hid (fun (a b : Int) V (h : Below w10.heap.size w10 V) => (refConc_any V w.heap.size k vA vc gs M (HG.out.next h).mx (by omega) HRL.out HLT.out a b).mono fun e w' r => (show e = .returned (.bool (PO.concI R a b)) ∧ Below w10.heap.size w10 w' from ⟨r.1, h.trans (r.2.mono h.size)⟩))
        have LN := Lib.hid (fun V (h : Below w10.heap.size w10 V) => (len_any (HG.out.next h).od).mono fun e w' r => (show e = .returned (.int .i64 (k : Int)) ∧ Below w10.heap.size w10 w' from ⟨by rw [r.1, HRL.out], r.2 ▸ h⟩))
        have HLV2 := Lib.hid (fun V (h : Below w10.heap.size w10 V) => (lives_any V ((HG.out.next h).tab HT.out)).mono fun e w' r => (show e = .returned (.bool true) ∧ Below w10.heap.size w10 w' from ⟨r.1, h.trans (r.2.mono h.size)⟩))
        obtain ⟨e0, e1, _, _⟩ := HG.out.ob.facts
        have hbl : b < w10.heap.size := heap_lt HG.out.ob
        clear hG hw10 hb hb9 hmx hBW9 hR hM hRl HOD HB8 HBW HEP HLT0 HK HE
        go_wp2_with fail
        rw [HW10.out, HBB.out]
        clear HW10 HBB
        have HE0 := Lib.hid e0
        have HE1 := Lib.hid e1
        clear e0 e1
        go_loopw [19] (fun i V => ∃ a : Int, -1 ≤ a ∧ a ≤ (k : Int) + 1 ∧ i = .int .i64 a ∧ Hid (Below w10.heap.size w10 V)) (fun i _ => ((k : Int) + 1 - intOf i).toNat)
        case atStart => exact ⟨-1, by omega, by omega, rfl, Below.refl _ _⟩
        case round =>
          obtain ⟨a, ha1, ha2, rfl, hB⟩ := hrel
          by_cases hak : a ≤ (k : Int)
          · have hdk : decide (a ≤ (k : Int)) = true := decide_eq_true hak
            go_wp2_with fail
            go_loopw [20] (fun i V => ∃ c : Int, -1 ≤ c ∧ c ≤ (k : Int) + 1 ∧ i = .int .i64 c ∧ Hid (Below w10.heap.size w10 V)) (fun i _ => ((k : Int) + 1 - intOf i).toNat)
            case atStart => exact ⟨-1, by omega, by omega, rfl, hB.out⟩
            case round =>
              obtain ⟨c, hc1, hc2, rfl, hB2⟩ := hrel
              by_cases hck : c ≤ (k : Int)
              · have hdc : decide (c ≤ (k : Int)) = true := decide_eq_true hck
                have I1 := LA.out a c
                have I2 := LB.out a c
                have I3 := CA.out a c
                have I4 := CB.out a c
                obtain ⟨t1, ht1⟩ : ∃ t, PO.ltI R a c = t := ⟨_, rfl⟩
                obtain ⟨t2, ht2⟩ : ∃ t, PO.concI R a c = t := ⟨_, rfl⟩
                simp only [ht1] at I1 I2
                simp only [ht2] at I3 I4
                have J1 := Lib.hid I1
                have J2 := Lib.hid I2
                have J3 := Lib.hid I3
                have J4 := Lib.hid I4
                have hq1 : (t1 != t1) = false := by simp
                have hq2 : (t2 != t2) = false := by simp
                have e0 := (hB2.out.cell (p := ⟨b, 0, none⟩) hbl).trans HE0.out
                have e1 := (hB2.out.cell (p := ⟨b, 1, none⟩) hbl).trans HE1.out
                have Bz := hB2.out
                clear I1 I2 I3 I4 ht1 ht2 LA LB CA CB LN HLV2 hB hB2
                go_wp2_with fail
                go_region_held3 (fun W => W.cell? ⟨b, 0, none⟩ = some (.int .i64 (k : Int)) ∧ W.cell? ⟨b, 1, none⟩ = some (.slice vA k vc))
                  (first | exact ⟨e0, e1⟩ | exact ⟨(B14.cell (p := ⟨b, 0, none⟩) hbl).trans HE0.out, (B14.cell (p := ⟨b, 1, none⟩) hbl).trans HE1.out⟩ | exact ⟨(B13.cell (p := ⟨b, 0, none⟩) hbl).trans HE0.out, (B13.cell (p := ⟨b, 1, none⟩) hbl).trans HE1.out⟩ | exact ⟨(B12.cell (p := ⟨b, 0, none⟩) hbl).trans HE0.out, (B12.cell (p := ⟨b, 1, none⟩) hbl).trans HE1.out⟩ | exact ⟨(B11.cell (p := ⟨b, 0, none⟩) hbl).trans HE0.out, (B11.cell (p := ⟨b, 1, none⟩) hbl).trans HE1.out⟩)
                  (first
                    | (go_at_call 18; ((with_reducible refine (J1.out _ ?_).mono ?_); focus (first | exact Bz.drew | exact Bz)); rintro e w11 ⟨rfl, B11⟩; clear J1)
                    | (go_at_call 19; ((with_reducible refine (J2.out _ ?_).mono ?_); focus (exact B11)); rintro e w12 ⟨rfl, B12⟩; clear J2)
                    | (go_at_call 20; ((with_reducible refine (J3.out _ ?_).mono ?_); focus (exact B12)); rintro e w13 ⟨rfl, B13⟩; clear J3)
                    | (go_at_call 21; ((with_reducible refine (J4.out _ ?_).mono ?_); focus (exact B13)); rintro e w14 ⟨rfl, B14⟩; clear J4))
                all_goals
                  have HB14 := Lib.hid B14
                  clear B11 B12 B13 B14 Bz e0 e1
                  go_wp2_with fail
                  go_roundw
                  case rel => exact ⟨c + 1, by omega, by omega, rfl, HB14.out⟩
                  case measure => simp [intOf]; omega
              · have hdc : decide (c ≤ (k : Int)) = false := decide_eq_false hck
                go_wp2_with fail
                go_roundw
                case rel => exact ⟨a + 1, by omega, by omega, rfl, hB2.out⟩
                case measure => simp [intOf]; omega
          · have hdk : decide (a ≤ (k : Int)) = false := decide_eq_false hak
            have I1 := LA.out a4 a5
            have I2 := LB.out a4 a5
            have I3 := CA.out a4 a5
            have I4 := CB.out a4 a5
            obtain ⟨t1, ht1⟩ : ∃ t, PO.ltI R a4 a5 = t := ⟨_, rfl⟩
            obtain ⟨t2, ht2⟩ : ∃ t, PO.concI R a4 a5 = t := ⟨_, rfl⟩
            simp only [ht1] at I1 I2
            simp only [ht2] at I3 I4
            have J1 := Lib.hid I1
            have J2 := Lib.hid I2
            have J3 := Lib.hid I3
            have J4 := Lib.hid I4
            have hq1 : (t1 == t1) = true := by simp
            have hq2 : (t2 == t2) = true := by simp
            have hkk : ((k : Int) == (k : Int)) = true := by simp
            have e0 := (hB.out.cell (p := ⟨b, 0, none⟩) hbl).trans HE0.out
            have e1 := (hB.out.cell (p := ⟨b, 1, none⟩) hbl).trans HE1.out
            have Bz := hB.out
            have HFIN := Lib.hid HG.out.bel
            clear I1 I2 I3 I4 ht1 ht2 LA LB CA CB hB HG
            go_wp2_with fail
            go_region_held3 (fun W => W.cell? ⟨b, 0, none⟩ = some (.int .i64 (k : Int)) ∧ W.cell? ⟨b, 1, none⟩ = some (.slice vA k vc))
              (first | exact ⟨e0, e1⟩ | exact ⟨(B15.cell (p := ⟨b, 0, none⟩) hbl).trans HE0.out, (B15.cell (p := ⟨b, 1, none⟩) hbl).trans HE1.out⟩ | exact ⟨(B14.cell (p := ⟨b, 0, none⟩) hbl).trans HE0.out, (B14.cell (p := ⟨b, 1, none⟩) hbl).trans HE1.out⟩ | exact ⟨(B13.cell (p := ⟨b, 0, none⟩) hbl).trans HE0.out, (B13.cell (p := ⟨b, 1, none⟩) hbl).trans HE1.out⟩ | exact ⟨(B12.cell (p := ⟨b, 0, none⟩) hbl).trans HE0.out, (B12.cell (p := ⟨b, 1, none⟩) hbl).trans HE1.out⟩ | exact ⟨(B11.cell (p := ⟨b, 0, none⟩) hbl).trans HE0.out, (B11.cell (p := ⟨b, 1, none⟩) hbl).trans HE1.out⟩ | exact ⟨(B10.cell (p := ⟨b, 0, none⟩) hbl).trans HE0.out, (B10.cell (p := ⟨b, 1, none⟩) hbl).trans HE1.out⟩)
              (first
                | (go_at_call 22; ((with_reducible refine (LN.out _ ?_).mono ?_); focus (first | exact Bz.drew | exact Bz)); rintro e w11 ⟨rfl, B10⟩; clear LN)
                | (go_at_call 18; ((with_reducible refine (J1.out _ ?_).mono ?_); focus (exact B10)); rintro e w11 ⟨rfl, B11⟩; clear J1)
                | (go_at_call 19; ((with_reducible refine (J2.out _ ?_).mono ?_); focus (exact B11)); rintro e w12 ⟨rfl, B12⟩; clear J2)
                | (go_at_call 20; ((with_reducible refine (J3.out _ ?_).mono ?_); focus (exact B12)); rintro e w13 ⟨rfl, B13⟩; clear J3)
                | (go_at_call 21; ((with_reducible refine (J4.out _ ?_).mono ?_); focus (exact B13)); rintro e w14 ⟨rfl, B14⟩; clear J4)
                | (go_at_call 17; ((with_reducible refine (HLV2.out _ ?_).mono ?_); focus (exact B14)); rintro e w15 ⟨rfl, B15⟩; clear HLV2))
            all_goals
              go_wp2_with fail
              go_ret
              exact ⟨rfl, HFIN.out.trans (B15.mono HFIN.out.size)⟩
end Go.Proofs.YtlgdcbhdmffnoaaDoor.LawPosetNew

namespace Go.Proofs.YtlgdcbhdmffnoaaDoor.posetNew
open Go.ChangeShapes Go.WideShapes Go.ChangeAt Go.RowKit
open Go.ChangeMaps (open_string shut_string)
set_option linter.unusedVariables false

theorem own : ownKnob Tryd.prog.godebug = none := by kernel_rfl
theorem laidOut : laidOutB Tryd.prog = true := by kernel_rfl
theorem walk (a0 : Int) (a1 : Option Addr) (len1 cap1 : Nat) (z1 : List Int) (x2 y2 : Int) (a3 : Bool) (a4 : Int) (a5 : Int) (w : World) (w0 : (Lit.int .i64 a0).wf = true) (w1 : Row .i64 w a1 len1 cap1 z1) (w4 : (Lit.int .i64 a4).wf = true) (w5 : (Lit.int .i64 a5).wf = true) (hT : Tab w) :
    Calls Tryd.prog 3 #[.int .i64 a0, .slice a1 len1 cap1, .agg #[.int .i64 x2, .int .i64 y2], .bool a3, .int .i64 a4, .int .i64 a5] w fun e w' => e = .returned (.bool true) ∧ Below w.heap.size w w' := by
  exact LawPosetNew.walk a0 a1 len1 cap1 z1 x2 y2 a3 a4 a5 w w0 w1 w4 w5 hT

set_option maxRecDepth 100000 in
theorem lifted (os : Os) (started : os.Started) (H : Type) (enc : TypeId × Value → H) :
    ReturnsInHanded {} Tryd.checked os 3 .any (fun w args => (Rows.posetNewSpec.pre enc Tryd.prog Tryd.f3 [] false w args ∧ laidMetH Tryd.prog laidT w) ∧ sizedMet enc Tryd.prog Tryd.f3 (OpenSpec.ofChange Rows.posetNewSpec) false w args)
      (Rows.posetNewSpec.post enc Tryd.prog Tryd.f3 false true false false) := by
  refine returnsInHanded_of_change_and (C := Tryd.checked) (X := fun w _ => laidMetH Tryd.prog laidT w) (fun _ _ _ hh h => h.of_heap hh) own started (by kernel_rfl) Tryd.func3
    (ChangeSpec.witness_shaped (enc := enc) (C := Tryd.checked) (os := os) (X := fun w _ => laidMetH Tryd.prog laidT w) false (World.doorLaid Tryd.prog 14 os) #[.int .i64 0, .slice none 0 0, .agg #[.int .i64 0, .int .i64 0], .bool false, .int .i64 0, .int .i64 0] 8 rfl (World.shaped_of_RefB (by kernel_rfl) (by kernel_rfl)) (by kernel_rfl) (by kernel_rfl) (by kernel_rfl) (door_met os _)) ?_
  intro W base args ds gs before hval0 hW _ _ hL _
  have hval : ∀ (j : Nat) t v, Tryd.f3.params[j]? = some t → args[j]? = some v → Value.okWide Tryd.prog W .any base t v := hval0
  have hW' := hW
  obtain ⟨p, q, hA0, hV, rfl, hfz, hnd⟩ := hW
  have hA : DataW.TrodAll enc Tryd.prog W 0 (fun _ => true) true Tryd.f3.params.toList args.toList ds p := hA0
  rw [Tryd.params3] at hA hval
  obtain ⟨v0, vs0, d0, ds0, p0, q0, hargs, rfl, rfl, h0, r0⟩ := trodAll_cons hA
  obtain ⟨v1, vs1, d1, ds1, p1, q1, rfl, rfl, rfl, h1, r1⟩ := trodAll_cons r0
  obtain ⟨v2, vs2, d2, ds2, p2, q2, rfl, rfl, rfl, h2, r2⟩ := trodAll_cons r1
  obtain ⟨v3, vs3, d3, ds3, p3, q3, rfl, rfl, rfl, h3, r3⟩ := trodAll_cons r2
  obtain ⟨v4, vs4, d4, ds4, p4, q4, rfl, rfl, rfl, h4, r4⟩ := trodAll_cons r3
  obtain ⟨v5, vs5, d5, ds5, p5, q5, rfl, rfl, rfl, h5, r5⟩ := trodAll_cons r4
  obtain ⟨rfl, rfl, rfl⟩ := trodAll_nil r5
  obtain rfl : args = #[v0, v1, v2, v3, v4, v5] := by cases args; simp_all
  obtain ⟨rfl, rfl⟩ := trodVars_none hV
  obtain ⟨a0, rfl, rfl, rfl, w0⟩ := open_int Tryd.underlying3 (hval 0 3 v0 rfl rfl) h0
  obtain ⟨a1, len1, cap1, rfl⟩ := okWide_slice Tryd.underlying22 (hval 1 22 v1 rfl rfl)
  have k1 := h1
  have lt1 : ∀ x ∈ p1, x.block < W.heap.size := by obtain ⟨m, hm⟩ := k1; exact DataW.trod_lt m _ _ _ hm
  obtain ⟨z1, w1⟩ : ∃ zs, Row .i64 W a1 len1 cap1 zs := by
    obtain ⟨fuel, hf⟩ := h1
    rcases open_ints Tryd.underlying22 Tryd.underlying3 (by kernel_rfl) hf with ⟨hcs, _⟩ | ⟨x, l, c, zs, hcs, _, hl, hm, hz, _, hcell, hwz⟩
    · simp [Value.cells] at hcs
      obtain ⟨rfl, rfl, rfl⟩ := hcs
      exact ⟨[], .inl ⟨rfl, rfl, rfl, rfl⟩⟩
    · simp [Value.cells] at hcs
      obtain ⟨rfl, rfl, rfl⟩ := hcs
      exact ⟨zs, .inr ⟨_, rfl, hl, hm, by simpa using hz, hcell, hwz⟩⟩
  obtain ⟨x2, y2, rfl⟩ := open_two (hval 2 23 v2 rfl rfl) h2
  have k2 := h2
  have lt2 : ∀ x ∈ p2, x.block < W.heap.size := by obtain ⟨m, hm⟩ := k2; exact DataW.trod_lt m _ _ _ hm
  obtain ⟨a3, rfl, rfl, rfl⟩ := open_bool Tryd.underlying4 (hval 3 4 v3 rfl rfl) h3
  obtain ⟨a4, rfl, rfl, rfl, w4⟩ := open_int Tryd.underlying3 (hval 4 3 v4 rfl rfl) h4
  obtain ⟨a5, rfl, rfl, rfl, w5⟩ := open_int Tryd.underlying3 (hval 5 3 v5 rfl rfl) h5
  clear hA0 hval0
  refine (walk a0 a1 len1 cap1 z1 x2 y2 a3 a4 a5 W w0 w1 w4 w5 (of_laid hL)).mono fun e W' ⟨he, bel⟩ => ?_
  subst he
  exact ⟨_, rfl, _, _, _, [], _, [], hW', trodAll_mk1 (shut_bool Tryd.underlying4 _), (trodAll_cons_mk (shut_int Tryd.underlying3 w0) (trodAll_cons_mk (Below.trod laidOut (by kernel_rfl) (of_decide_eq_true (by kernel_rfl)) k1 bel lt1) (trodAll_cons_mk (Below.trod laidOut (by kernel_rfl) (of_decide_eq_true (by kernel_rfl)) k2 bel lt2) (trodAll_cons_mk (shut_bool Tryd.underlying4 _) (trodAll_cons_mk (shut_int Tryd.underlying3 w4) (trodAll_cons_mk (shut_int Tryd.underlying3 w5) trodAll_mk0)))))), rfl, bel.frame _, fun h => by cases h⟩

theorem over : Rows.posetNewRow.holds Tryd.pinned (OpenSpec.ofChange Rows.posetNewSpec) :=
  OpenClaim.holds_of_wide 3 Tryd.f3 rfl rfl rfl rfl rfl rfl rfl ⟨rfl, rfl, rfl, rfl, rfl⟩ rfl rfl rfl rfl rfl (by kernel_rfl) Tryd.func3 (by kernel_rfl)
    (of_decide_eq_true (by kernel_rfl)) (by unfold Func.isWrapper; first | (rw [if_pos (by decide +kernel)]; kernel_rfl) | (rw [if_neg (by decide +kernel)]; exact ⟨rfl, rfl⟩))
    (fun os started H enc _ => lifted os started H enc)

/-! ### THE CARD -/
theorem cardHolds : Rows.PosetNewCardSaid :=
  Claim7.holds_tied_plain_at .later [] [.data] true (true, "69b8748036c1ab40a488c13c974df10cd19b3b935a840f5165b1f86c23c10982") true
    over (fun _ h => by cases h) (by kernel_rfl) (fun _ h => by cases h) posetNew_row_tie rfl ⟨rfl, rfl⟩ (by kernel_rfl) rfl
    (fun f fn hf hfn => by
      obtain rfl : f = 3 := Option.some.inj ((show Tryd.prog.funcNamed "simproof/simprooflaw04.PosetNew" = some 3 by kernel_rfl).symm.trans hf) |>.symm
      obtain rfl : fn = Tryd.f3 := (Option.some.inj (Tryd.func3.symm.trans hfn)).symm
      exact ⟨by kernel_rfl, fun j t ht => by
        rw [Tryd.params3] at ht
        have hm : t ∈ [3, 22, 23, 4, 3, 3] := by simpa using Array.mem_of_getElem? ht
        have hall : ([3, 22, 23, 4, 3, 3].all fun u => !Tryd.prog.wantsStandIn u) = true := by kernel_rfl
        exact (show Tryd.prog.wantsStandIn t = false by simpa using List.all_eq_true.1 hall t hm)⟩)
    (by kernel_rfl)
end Go.Proofs.YtlgdcbhdmffnoaaDoor.posetNew
