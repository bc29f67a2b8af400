/-
  The walk of PosetSwaps: an exchange of neighbours gives a linear extension exactly when they are concurrent.
  The tied card of the statement PosetSwaps: for every input the law answers true and leaves its arguments as they were; the condition is the listed table of math/bits, which the card ties to the program's text. The frame of this proof was written by the guide's program, the walk is the text LawPosetSwaps's.
-/
import Derived.Test.YtkfooiapecdhaaaDoorK14
import Derived.Test.YtkfooiapecdhaaaDoorK15
import Derived.Test.YtkfooiapecdhaaaDoorK11
import Derived.BigQuiet
import Derived.Deep.QuietTactic
import Derived.Deep.RegionLaw
import Derived.Deep.AppendLies
import Derived.Test.YtkfooiapecdhaaaDoorRows
import Derived.Test.YtkfooiapecdhaaaDoorCards
import Derived.Test.YtkfooiapecdhaaaDoorTie
import Derived.Test.YtkfooiapecdhaaaDoorK3
import Derived.SevenTiedPlain
import Derived.SevenTiedAt
import Derived.WalkKit
import Derived.ProofKit
import Derived.OpenShut
import Derived.ShutString
import Derived.ChangeOld
import Derived.Below

namespace Go.Proofs.YtkfooiapecdhaaaDoor.LawPosetSwaps
open Go Go.RowKit Go.Proofs Go.Proofs.YtkfooiapecdhaaaDoor

/-- Concurrent of two neighbours in a linear extension. -/
theorem conc_near {R row : List Nat} (h : PO.isLin R row = true) {k x y : Nat} (hx : row[k]? = some x) (hy : row[k + 1]? = some y) : PO.concI R (x : Int) (y : Int) = !PO.lt R x y := by
  obtain ⟨h1, h2⟩ := (PO.isLin_iff R row).1 h
  have hxl := (h2 k x hx).1
  have hyl := (h2 (k + 1) y hy).1
  obtain ⟨hne, hlt⟩ := (h2 (k + 1) y hy).2 k x (by omega) hx
  rw [PO.concI_nat hxl hyl, hlt, decide_eq_true hne]
  simp
/-- A part of a row, as a source to append. -/
theorem slc_part {W : World} {lo k g c : Nat} {row : List Nat} (h : Own W lo (.slice (some ⟨g, 0, none⟩) k c) row) (hl : row.length = k) (m i : Nat) (hm : i + m ≤ k) : Slc .i64 W (some ⟨g, i, none⟩) m (c - i) (((row.drop i).take m).map fun n : Nat => (n : Int)) := by
  obtain ⟨A', c', e, h1, h2⟩ := h.slice
  injection e with e1 e2 e3
  subst e3
  have hlen : ((row.drop i).take m).length = m := by rw [List.length_take, List.length_drop]; omega
  refine ⟨by rw [List.length_map, hlen], by omega, by omega, .inr ⟨_, rfl, fun j u hu => ?_⟩⟩
  rw [List.map_map, List.getElem?_map] at hu
  cases hr : ((row.drop i).take m)[j]? with
  | none => rw [hr] at hu; cases hu
  | some x =>
    rw [hr] at hu
    have hj := (List.getElem?_eq_some_iff.1 hr).1
    rw [hlen] at hj
    rw [List.getElem?_take_of_lt hj, List.getElem?_drop] at hr
    have := h.cell (i := i + j) (by omega)
    rw [hr] at this
    rw [Addr.add_lit, this]
    exact hu
theorem slc_end {W : World} {lo k g c : Nat} {row : List Nat} (h : Own W lo (.slice (some ⟨g, 0, none⟩) k c) row) (hl : row.length = k) (i : Nat) (hi : i ≤ k) : Slc .i64 W (if c = i then some ⟨g, 0, none⟩ else some ⟨g, i, none⟩) (k - i) (c - i) ((row.drop i).map fun n : Nat => (n : Int)) := by
  have h2 := slc_part h hl (k - i) i (by omega)
  rw [List.take_of_length_le (by rw [List.length_drop]; omega)] at h2
  by_cases e : c = i
  · rw [if_pos e]
    obtain ⟨a1, a2, a3, a4⟩ := h2
    refine ⟨a1, a2, a3, .inr ⟨_, rfl, fun j u hu => ?_⟩⟩
    have hz : k - i = 0 := by omega
    rw [hz] at a1
    rw [List.eq_nil_of_length_eq_zero a1] at hu
    simp at hu
  · rw [if_neg e]
    exact h2
set_option maxRecDepth 100000 in
set_option maxHeartbeats 4000000 in
theorem walk (a0 : Int) (a1 : Option Addr) (len1 cap1 : Nat) (z1 : List Int) (a2 : Option Addr) (len2 cap2 : Nat) (z2 : List Int) (w : World) (w0 : (Lit.int .i64 a0).wf = true) (w1 : Row .i64 w a1 len1 cap1 z1) (w2 : Row .i64 w a2 len2 cap2 z2) (hT : Tab w) :
    Calls Tryd.prog 10 #[.int .i64 a0, .slice a1 len1 cap1, .slice a2 len2 cap2] w fun e w' => e = .returned (.bool true) ∧ Below w.heap.size w w' := by
  have hn : I64 a0 := by have := bounds_i64 w0; unfold I64; omega
  obtain ⟨hx, _, _, hz⟩ := w1.ints
  obtain ⟨hx2, _, _, hzt⟩ := w2.ints
  obtain ⟨zs, hzs⟩ : ∃ zs, z1.take len1 = zs := ⟨_, rfl⟩
  obtain ⟨ss, hss⟩ : ∃ zs, z2.take len2 = zs := ⟨_, rfl⟩
  rw [hzs] at hx hz
  rw [hss] at hx2 hzt
  have hz64 := i64_of hz
  have hs64 := i64_of hzt
  have HCY := Lib.hid (cyc_a a0 hn a1 len1 cap1 zs w hx hz64)
  have HLV := Lib.hid (fun V hb => lives_a w V hT hb)
  cases hk : okA a0 zs with
  | false =>
    rw [hk] at HCY
    clear hx hz hz64 hzs w1 w0 w2 hT hn hx2 hzt hs64 hss
    go_enter Tryd.func10, Tryd.ntmps10
    go_wp2_with (first
      | (go_at_call 23; refine HCY.out.mono ?_; clear HCY; rintro e w2 ⟨rfl, hb2⟩)
      | (go_at_call 17; refine (HLV.out _ hb2).mono ?_; clear HLV; rintro e w3 ⟨rfl, hb3⟩))
    go_ret
    exact ⟨rfl, hb3⟩
  | true =>
    rw [hk] at HCY
    obtain ⟨hcl, hRl, hlt⟩ := ordA_cl a0 hk
    have hk8 := nA_lt a0
    have HMA := Lib.hid (fun W (hb : Below w.heap.size w W) => made_a a0 hn a1 len1 cap1 zs w W hT hx hz64 hk hb)
    have HT := Lib.hid hT
    obtain ⟨i0, hi0, hz0, hz1, hz2⟩ := info_parts info_int
    have HCL := Lib.hid hcl
    have HSS := Lib.hid hx2
    have HS64 := Lib.hid hs64
    have hsl := hx2.len
    obtain ⟨k, hkk⟩ : ∃ k, nA a0 = k := ⟨_, rfl⟩
    obtain ⟨R, hR⟩ : ∃ R, ordA a0 zs = R := ⟨_, rfl⟩
    simp only [hkk, hR] at HMA HCL hk8 hRl
    have htl := HCL.out.topo
    have htp := PO.topo_lin HCL.out
    have HLN := Lib.hid (fun (p : Nat) V (hb : Below w.heap.size w V) (hod : Od V V.heap.size p R) => linear_any hod (by omega) HCL.out.small (HT.out.below HT.out.lt hb) (Nat.le_refl _))
    obtain ⟨L0, hL0⟩ : ∃ L, topoL (PO.rows R) = L := ⟨_, rfl⟩
    rw [hL0] at htl htp HLN
    have HTP := Lib.hid htp
    have HLL := Lib.hid htl
    clear hx hz hz64 hzs w1 w0 w2 hT hn hx2 hzt hs64 hss hcl hkk hR hk hlt hL0 htp
    go_enter Tryd.func10, Tryd.ntmps10
    go_wp2_with (first
      | (go_at_call 23; refine HCY.out.mono ?_; clear HCY; rintro e w2 ⟨rfl, hb2⟩; have HB2 := Lib.hid hb2; clear hb2)
      | (go_at_call 24; refine (HMA.out _ HB2.out).mono ?_; clear HMA; rintro e w3 ⟨p, A3, c3, gs, rfl, hG⟩; obtain ⟨w4, hw4⟩ : ∃ W, w3.alloc (.cells #[.int .i64 (k : Int), .slice A3 k c3] 33) = W := ⟨_, rfl⟩; obtain ⟨b, hb⟩ : ∃ b, w3.heap.size = b := ⟨_, rfl⟩; have HW4 := Lib.hid hw4; have HBB := Lib.hid hb; rw [hw4, hb] at hG; have HG := Lib.hid hG; clear hG hw4 hb)
      | (rw [HW4.out, HBB.out]))
    refine (HLN.out p _ HG.out.bel HG.out.od).mono ?_
    clear HLN
    rintro e w5 ⟨v5, rfl, ho5, hb5⟩
    obtain ⟨A5, c5, rfl, _, _⟩ := ho5.slice
    have hl0 : L0.length = k := HLL.out.trans hRl
    clear htl
    rw [hl0] at ho5 ⊢
    have HO5 := Lib.hid ho5
    have HG5 := Lib.hid (HG.out.next hb5)
    have hcn := HG5.out.n
    have hsz5 := hb5.size
    clear ho5 hb5 HW4 HBB
    go_wp2_with fail
    go_loopw [9, 10] (fun rv i V => ∃ (j : Nat) (A : Option Addr) (c : Nat) (row : List Nat), j ≤ 10 ∧ i = .int .i64 (j : Int) ∧ rv = .slice A k c ∧ Hid (Gd w V p b k (.slice A3 k c3) R gs (PO.wAll (m0 (prA a0 zs)) k)) ∧ Hid (Own V w.heap.size (.slice A k c) row) ∧ Hid (PO.isLin R row = true)) (fun _ i _ => 10 - (intOf i).toNat)
    case atStart => exact ⟨0, A5, c5, L0, by omega, rfl, rfl, HG5.out, HO5.out.base_ fun b hb => by have := (HO5.out.lt b hb).1; have := HG.out.bel.size; omega, HTP.out⟩
    case round =>
      clear HO5 HTP hcn
      obtain ⟨j, A, c, row, hj, rfl, hrv, hG, hO, hL⟩ := hrel
      obtain ⟨rv, hrvv⟩ : ∃ O, O = u9 := ⟨_, rfl⟩
      subst hrvv
      subst hrv
      have hcn := hG.out.n
      have HLV2 := Lib.hid (HLV.out _ hG.out.bel)
      by_cases hlt : j < len2
      · by_cases h10 : j < 10
        · by_cases hk1 : 1 < k
          · obtain ⟨b2, off2, hA2, hbl2, hcs2⟩ := HSS.out.at_ (by omega)
            subst hA2
            have hcs := (hG.out.bel.cell (p := ⟨b2, off2 + j, none⟩) hbl2).trans (hcs2 j hlt)
            have hs := HS64.out _ (getD_mem (l := ss) (j := j) (by omega))
            obtain ⟨sv, hsv⟩ : ∃ z, ss[j]?.getD 0 = z := ⟨_, rfl⟩
            rw [hsv] at hcs hs
            have hrl : row.length = k := ((PO.isLin_iff R row).1 hL.out).1.trans hRl
            obtain ⟨q, hq⟩ : ∃ q, gN sv ((k : Int) - 1) = q := ⟨_, rfl⟩
            have hqk := gN_lt sv (m := (k : Int) - 1) (by omega)
            have HAR := Lib.hid (fun n => (around_any sv ((k : Int) - 1) hs (by omega) (by omega) (wr.drewN n)).mono fun e w' h => (show e = .returned (.int .i64 (q : Int)) ∧ w' = wr.drewN n from ⟨by rw [h.1, gN_eq sv (by omega), hq], h.2.symm⟩))
            rw [hq] at hqk
            obtain ⟨g, cg, hgv, hgl, hgs, _, _⟩ := hO.out.form (by omega)
            rw [hrl] at hgv
            injection hgv with hA1 _ hc1
            subst hA1 hc1
            clear hcs2 hs hsv hq
            have hj0 : (0 : Int) ≤ (j : Int) := by omega
            go_wp2_with fail
            go_quiet (first | (go_at_call 13; refine Calls.quiet_of_same (HAR.out _)))
            have hG6 := hG.out.drewN nq
            have hO6 : Own (wr.drewN nq) w.heap.size (.slice (some ⟨g, 0, none⟩) k c) row := hO.out.keep fun _ _ => rfl
            have hgs6 : g < (wr.drewN nq).heap.size := hgs
            obtain ⟨w6, hw6⟩ : ∃ W, W = wr.drewN nq := ⟨_, rfl⟩
            rw [← hw6] at hG6 hO6 hgs6 ⊢
            obtain ⟨x, hxr⟩ : ∃ x, row[q]? = some x := ⟨row[q]'(by omega), List.getElem?_eq_getElem (by omega)⟩
            obtain ⟨y, hyr⟩ : ∃ y, row[q + 1]? = some y := ⟨row[q + 1]'(by omega), List.getElem?_eq_getElem (by omega)⟩
            have cx := hO6.cell (i := q) (by omega)
            have cy := hO6.cell (i := q + 1) (by omega)
            rw [hxr] at cx
            rw [hyr] at cy
            have hcn6 := hG6.n
            have HCO := Lib.hid (fun n => (conc_any (hG6.drewN n).od (by omega) HCL.out.small (x : Int) (y : Int)).mono fun e w' h => (show e = .returned (.bool (!PO.lt R x y)) ∧ w' = w6.drewN n from ⟨by rw [h.1, conc_near hL.out hxr hyr], h.2.symm⟩))
            have hsw := PO.isLin_swap hL.out hxr hyr
            have HG6 := Lib.hid hG6
            have HO6 := Lib.hid hO6
            have HX := Lib.hid hxr
            have HY := Lib.hid hyr
            have hq0 : (0 : Int) ≤ (q : Int) := by omega
            have hq1 : (0 : Int) ≤ (q : Int) + 1 := by omega
            have hqt : ((q : Int) + 1).toNat = q + 1 := by omega
            have hqk1 : q + 1 < k := by omega
            have hqk2 : (q : Int) < (k : Int) := by omega
            have hqk3 : (q : Int) + 1 < (k : Int) := by omega
            obtain ⟨bf, hbf⟩ : ∃ b, (!PO.lt R x y) = b := ⟨_, rfl⟩
            rw [hbf] at HCO hsw
            have HSW := Lib.hid hsw
            unfold nv at cx cy
            simp only [Option.getD_some] at cx cy
            clear hw6 hG6 hO6 hxr hyr hbf hsw hcs HAR HLV2 hG hO hcn hgs HSS
            go_wp2_with fail
            go_quiet (first | (go_at_call 20; refine Calls.quiet_of_same (HCO.out _)))
            have hG7 := HG6.out.drewN nq
            have hO7 : Own (w6.drewN nq) w.heap.size (.slice (some ⟨g, 0, none⟩) k c) row := HO6.out.keep fun _ _ => rfl
            have hgs7 : g < (w6.drewN nq).heap.size := hgs6
            obtain ⟨w7, hw7⟩ : ∃ W, W = w6.drewN nq := ⟨_, rfl⟩
            rw [← hw7] at hG7 hO7 hgs7 ⊢
            have hs7 := hG7.bel.size
            have HG7 := Lib.hid hG7
            have HO7 := Lib.hid hO7
            have HSL := Lib.hid (slc_part hO7 hrl q 0 (by omega))
            clear hw7 hG7 hO7 HCO HG6 HO6 cx cy hgs6 hcn6
            go_wp2_with (
               at_builtin
               refine wpList_append_slc rfl (.tmp 67) (.tmp 70) 22 rfl w7.heap.size 3 i0 _ 8 Tryd.underlying22 hi0 hz0 hz1 hz2 rfl (.slice none 0 0) 0 [] rfl ⟨rfl, .inl ⟨rfl, rfl⟩⟩ .i64 _ _ _ _ rfl HSL.out (by simp only [maxLen]; omega) (by omega) (by omega) ?_
               intro A8 c8 w8 hown8 hgrow8)
            have hrq : (row.take q).length = q := by rw [List.length_take]; omega
            have ho8 : Own w8 w7.heap.size (.slice A8 q c8) (row.take q) := by
              have h := hown8
              rw [Nat.zero_add, List.nil_append, ← map_nv, List.drop_zero] at h
              unfold Own
              rw [hrq]
              exact h
            have hb8 : Below w7.heap.size w7 w8 := (Below.refl _ _).grown hgrow8 (Nat.le_refl _) (fun b e => by cases e)
            have hs8 := hb8.size
            have hO8 : Own w8 w.heap.size (.slice (some ⟨g, 0, none⟩) k c) row := HO7.out.keep fun b hb => hb8.block b (HO7.out.lt b hb).2
            have cx := hO8.cell (i := q) (by omega)
            have cy := hO8.cell (i := q + 1) (by omega)
            rw [HX.out] at cx
            rw [HY.out] at cy
            unfold nv at cx cy
            simp only [Option.getD_some] at cx cy
            have HOA := Lib.hid (show ((w8.alloc (.cells #[.int .i64 (y : Int), .int .i64 (x : Int)] 3)).drew).ownsRow w7.heap.size 3 1 (.slice A8 q c8) q ((row.take q).map nv) from by
              have h : Own ((w8.alloc (.cells #[.int .i64 (y : Int), .int .i64 (x : Int)] 3)).drew) w7.heap.size (.slice A8 q c8) (row.take q) := ho8.keep fun b hb => Below.heap_alloc _ _ _ (ho8.lt b hb).2
              unfold Own at h
              rw [hrq] at h
              exact h)
            have hwq : IntKind.i64.wrap ((q : Int) + 1) = (q : Int) + 1 := by
              rw [IntKind.wrap_i64]
              omega
            have HB8 := Lib.hid hb8
            have HO8 := Lib.hid ho8
            clear hown8 hgrow8 ho8 hb8 hO8
            go_region_law (refine step_append_lies _ rfl (.tmp 72) (.tmp 82) 22 rfl w7.heap.size 3 i0 _ 1 8 Tryd.underlying22 hi0 hz0 hz1 hz2 rfl (by decide) (.slice A8 q c8) q _ (by simp [Act.eval]) HOA.out ⟨w8.heap.size, 0, none⟩ 2 2 [.int .i64 (y : Int), .int .i64 (x : Int)] (by simp [Act.eval]) rfl (World.news_of_block (w := (w8.alloc (.cells #[.int .i64 (y : Int), .int .i64 (x : Int)] 3)).drew) (World.alloc_heap_new w8 _)) (by simp [Value.oneCell']) (by decide) (by simp only [maxLen]; omega) (by omega) (by simp; omega) _ rfl ?_; intro g9 c9 w9 hown9 hgrow9 hat9 hlt9)
            all_goals
              have ho9 : Own w9 w7.heap.size (.slice (some ⟨g9, 0, none⟩) (q + 2) c9) (row.take q ++ [y, x]) := by
                have h := hown9
                unfold Own
                rw [List.length_append, hrq, List.map_append]
                exact h
              have hb9 : Below w7.heap.size w7 w9 := ((HB8.out.alloc hs8 _).drew).grown hgrow9 (by simp; omega) (fun b e => (HO8.out.lt b e).1)
              have hO9 : Own w9 w.heap.size (.slice (some ⟨g, 0, none⟩) k c) row := HO7.out.keep fun b hb => hb9.block b (HO7.out.lt b hb).2
              have hs9 := hb9.size
              have HSL2 := Lib.hid (slc_end hO9 hrl (q + 2) (by omega))
              have HB9 := Lib.hid hb9
              have HO9 := Lib.hid ho9
              have hq2 : (0 : Int) ≤ (q : Int) + 2 := by omega
              have hqk4 : (q : Int) + 2 ≤ (k : Int) := by omega
              have hqt2 : ((q : Int) + 2).toNat = q + 2 := by omega
              have hbb : (bf != bf) = false := by simp
              clear hown9 hgrow9 hat9 hlt9 ho9 hb9 hO9 HOA
              go_wp2_with (
                 at_builtin
                 refine wpList_append_slc rfl (.tmp 84) (.tmp 88) 22 rfl w7.heap.size 3 i0 _ 8 Tryd.underlying22 hi0 hz0 hz1 hz2 rfl (.slice (some ⟨g9, 0, none⟩) (q + 2) c9) (q + 2) _ rfl (by have h := HO9.out; unfold Own at h; rw [List.length_append, hrq] at h; exact h) .i64 _ _ _ _ rfl HSL2.out (by simp only [maxLen]; omega) (by omega) (by omega) ?_
                 intro A10 c10 w10 hown10 hgrow10
                 skip)
              all_goals
                 rw [show q + 2 + (k - (q + 2)) = k by omega] at hown10 ⊢
                 have ho10 : Own w10 w7.heap.size (.slice A10 k c10) (row.take q ++ [y, x] ++ row.drop (q + 2)) := by
                   unfold Own
                   rw [List.length_append, List.length_append, hrq, List.length_drop, hrl, show q + [y, x].length + (k - (q + 2)) = k by simp; omega, List.map_append (f := nv), map_nv (row.drop (q + 2))]
                   exact hown10
                 have hb10 := HB9.out.grown hgrow10 hs9 (fun b e => (HO9.out.lt b e).1)
                 have hG10 := HG7.out.next hb10
                 have hil := isLinear_any hG10.od (by omega) HCL.out.small (Nat.le_refl _) A10 k c10 _ (own_ints ho10).2
                 rw [PO.isLinI_nat, HSW.out] at hil
                 have HIL := Lib.hid hil
                 have HB10 := Lib.hid hb10
                 have HG10 := Lib.hid hG10
                 have HO10 := Lib.hid ho10
                 clear hown10 hgrow10 hb10 hG10 hil ho10
                 refine HIL.out.mono ?_
                 clear HIL
                 rintro e w11 ⟨rfl, hb11⟩
                 have HG11 := Lib.hid (HG10.out.next hb11)
                 have HOR := Lib.hid (show Own w11 w.heap.size (.slice (some ⟨g, 0, none⟩) k c) row from HO7.out.keep fun b hb => by
                   have h1 := (HO7.out.lt b hb).2
                   have h2 := HB10.out.size
                   exact (hb11.block b (by omega)).trans (HB10.out.block b h1))
                 have HON := Lib.hid (show Own w11 w.heap.size (.slice A10 k c10) (row.take q ++ [y, x] ++ row.drop (q + 2)) from (HO10.out.keep fun b hb => hb11.block b (HO10.out.lt b hb).2).base_ fun b hb => by
                   have := (HO10.out.lt b hb).1
                   omega)
                 clear hb11 HB10 HO10 HG10 HO7 HO9 HB9 HSL2 HSL HO8 HB8
                 cases bf with
                 | false =>
                   go_wp2_with fail
                   go_roundw
                   case rel => exact ⟨j + 1, _, _, row, by omega, by go_num, rfl, HG11.out, (by first | exact HOR.out | (rw [← h]; exact HOR.out)), hL.out⟩
                   case measure => simp [intOf]; omega
                 | true =>
                   go_wp2_with fail
                   go_roundw
                   case rel => exact ⟨j + 1, _, _, _, by omega, by go_num, rfl, HG11.out, HON.out, HSW.out⟩
                   case measure => simp [intOf]; omega
          · have hk1 : ¬ (1 : Int) < (k : Int) := by omega
            go_wp2_with (go_at_call 17; refine HLV2.out.mono ?_; rintro e w3 ⟨rfl, hb3⟩)
            go_ret
            exact ⟨rfl, hb3⟩
        · go_wp2_with (go_at_call 17; refine HLV2.out.mono ?_; rintro e w3 ⟨rfl, hb3⟩)
          go_ret
          exact ⟨rfl, hb3⟩
      · go_wp2_with (go_at_call 17; refine HLV2.out.mono ?_; rintro e w3 ⟨rfl, hb3⟩)
        go_ret
        exact ⟨rfl, hb3⟩
end Go.Proofs.YtkfooiapecdhaaaDoor.LawPosetSwaps

namespace Go.Proofs.YtkfooiapecdhaaaDoor.posetSwaps
open Go.ChangeShapes Go.WideShapes Go.ChangeAt Go.RowKit
open Go.ChangeMaps (open_string shut_string)
set_option linter.unusedVariables false

theorem own : ownKnob Tryd.prog.godebug = none := by kernel_rfl
theorem laidOut : laidOutB Tryd.prog = true := by kernel_rfl

/-- WHAT THE WALK IS TOLD OF A SLICE OF INTEGERS THAT CAME IN: it is nil; or it leads to a row of 'cap' cells, the numbers 'zs' (the first 'len' are its elements, the rest its spare room), each fitting its kind. -/
def IsRow (k : IntKind) (w : World) (a : Option Addr) (len cap : Nat) (zs : List Int) : Prop :=
  (a = none ∧ len = 0 ∧ cap = 0 ∧ zs = []) ∨
  ∃ x, a = some x ∧ len ≤ cap ∧ cap ≤ maxLen ∧ zs.length = cap ∧ (∀ i, i < zs.length → w.cell? (x.add i) = some (.int k (zs.getD i 0))) ∧ ∀ n ∈ zs, (Lit.int k n).wf = true

/-! ### STEP 1: THE WALK: the Go text returns true, AND WRITES NOTHING THAT WAS THERE: 'Below w.heap.size w w'' (Derived/Below.lean: '.refl', '.alloc', '.drew', '.setCell' at a new block, '.trans'). Open each 'IsRow' by 'rcases' AHEAD of 'go_enter'; part every test ahead of the walk. -/
theorem walk (a0 : Int) (a1 : Option Addr) (len1 cap1 : Nat) (z1 : List Int) (a2 : Option Addr) (len2 cap2 : Nat) (z2 : List Int) (w : World) (w0 : (Lit.int .i64 a0).wf = true) (w1 : IsRow .i64 w a1 len1 cap1 z1) (w2 : IsRow .i64 w a2 len2 cap2 z2) (hT : Tab w) :
    Calls Tryd.prog 10 #[.int .i64 a0, .slice a1 len1 cap1, .slice a2 len2 cap2] w fun e w' => e = .returned (.bool true) ∧ Below w.heap.size w w' := by
  exact LawPosetSwaps.walk a0 a1 len1 cap1 z1 a2 len2 cap2 z2 w w0 w1 w2 hT

/-! ### THE ROW's STEP: WRITTEN OUT: LEAVE IT -/
set_option maxRecDepth 100000 in
theorem lifted (os : Os) (started : os.Started) (H : Type) (enc : TypeId × Value → H) :
    ReturnsInHanded {} Tryd.checked os 10 .any (fun w args => (Rows.posetSwapsSpec.pre enc Tryd.prog Tryd.f10 [] false w args ∧ laidMetH Tryd.prog laidT w) ∧ sizedMet enc Tryd.prog Tryd.f10 (OpenSpec.ofChange Rows.posetSwapsSpec) false w args)
      (Rows.posetSwapsSpec.post enc Tryd.prog Tryd.f10 false true false false) := by
  refine returnsInHanded_of_change_and (C := Tryd.checked) (X := fun w _ => laidMetH Tryd.prog laidT w) (fun _ _ _ hh h => h.of_heap hh) own started (by kernel_rfl) Tryd.func10
    (ChangeSpec.witness_shaped (enc := enc) (C := Tryd.checked) (os := os) (X := fun w _ => laidMetH Tryd.prog laidT w) false (World.doorLaid Tryd.prog 14 os) #[.int .i64 0, .slice none 0 0, .slice none 0 0] 8 rfl (World.shaped_of_RefB (by kernel_rfl) (by kernel_rfl)) (by kernel_rfl) (by kernel_rfl) (by kernel_rfl) (door_met os _)) ?_
  intro W base args ds gs before hval0 hW _ _ hL _
  have hval : ∀ (j : Nat) t v, Tryd.f10.params[j]? = some t → args[j]? = some v → Value.okWide Tryd.prog W .any base t v := hval0
  have hW' := hW
  obtain ⟨p, q, hA0, hV, rfl, hfz, hnd⟩ := hW
  have hA : DataW.TrodAll enc Tryd.prog W 0 (fun _ => true) true Tryd.f10.params.toList args.toList ds p := hA0
  rw [Tryd.params10] at hA hval
  obtain ⟨v0, vs0, d0, ds0, p0, q0, hargs, rfl, rfl, h0, r0⟩ := trodAll_cons hA
  obtain ⟨v1, vs1, d1, ds1, p1, q1, rfl, rfl, rfl, h1, r1⟩ := trodAll_cons r0
  obtain ⟨v2, vs2, d2, ds2, p2, q2, rfl, rfl, rfl, h2, r2⟩ := trodAll_cons r1
  obtain ⟨rfl, rfl, rfl⟩ := trodAll_nil r2
  obtain rfl : args = #[v0, v1, v2] := by cases args; simp_all
  obtain ⟨rfl, rfl⟩ := trodVars_none hV
  obtain ⟨a0, rfl, rfl, rfl, w0⟩ := open_int Tryd.underlying3 (hval 0 3 v0 rfl rfl) h0
  obtain ⟨a1, len1, cap1, rfl⟩ := okWide_slice Tryd.underlying22 (hval 1 22 v1 rfl rfl)
  have k1 := h1
  have lt1 : ∀ x ∈ p1, x.block < W.heap.size := by obtain ⟨m, hm⟩ := k1; exact DataW.trod_lt m _ _ _ hm
  obtain ⟨z1, w1⟩ : ∃ zs, IsRow .i64 W a1 len1 cap1 zs := by
    obtain ⟨fuel, hf⟩ := h1
    rcases open_ints Tryd.underlying22 Tryd.underlying3 (by kernel_rfl) hf with ⟨hcs, _⟩ | ⟨x, l, c, zs, hcs, _, hl, hm, hz, _, hcell, hwz⟩
    · simp [Value.cells] at hcs
      obtain ⟨rfl, rfl, rfl⟩ := hcs
      exact ⟨[], .inl ⟨rfl, rfl, rfl, rfl⟩⟩
    · simp [Value.cells] at hcs
      obtain ⟨rfl, rfl, rfl⟩ := hcs
      exact ⟨zs, .inr ⟨_, rfl, hl, hm, by simpa using hz, hcell, hwz⟩⟩
  obtain ⟨a2, len2, cap2, rfl⟩ := okWide_slice Tryd.underlying22 (hval 2 22 v2 rfl rfl)
  have k2 := h2
  have lt2 : ∀ x ∈ p2, x.block < W.heap.size := by obtain ⟨m, hm⟩ := k2; exact DataW.trod_lt m _ _ _ hm
  obtain ⟨z2, w2⟩ : ∃ zs, IsRow .i64 W a2 len2 cap2 zs := by
    obtain ⟨fuel, hf⟩ := h2
    rcases open_ints Tryd.underlying22 Tryd.underlying3 (by kernel_rfl) hf with ⟨hcs, _⟩ | ⟨x, l, c, zs, hcs, _, hl, hm, hz, _, hcell, hwz⟩
    · simp [Value.cells] at hcs
      obtain ⟨rfl, rfl, rfl⟩ := hcs
      exact ⟨[], .inl ⟨rfl, rfl, rfl, rfl⟩⟩
    · simp [Value.cells] at hcs
      obtain ⟨rfl, rfl, rfl⟩ := hcs
      exact ⟨zs, .inr ⟨_, rfl, hl, hm, by simpa using hz, hcell, hwz⟩⟩
  clear hA0 hval0
  refine (walk a0 a1 len1 cap1 z1 a2 len2 cap2 z2 W w0 w1 w2 (of_laid hL)).mono fun e W' ⟨he, bel⟩ => ?_
  subst he
  exact ⟨_, rfl, _, _, _, [], _, [], hW', trodAll_mk1 (shut_bool Tryd.underlying4 _), (trodAll_cons_mk (shut_int Tryd.underlying3 w0) (trodAll_cons_mk (Below.trod laidOut (by kernel_rfl) (of_decide_eq_true (by kernel_rfl)) k1 bel lt1) (trodAll_cons_mk (Below.trod laidOut (by kernel_rfl) (of_decide_eq_true (by kernel_rfl)) k2 bel lt2) trodAll_mk0))), rfl, bel.frame _, fun h => by cases h⟩

theorem over : Rows.posetSwapsRow.holds Tryd.pinned (OpenSpec.ofChange Rows.posetSwapsSpec) :=
  OpenClaim.holds_of_wide 10 Tryd.f10 rfl rfl rfl rfl rfl rfl rfl ⟨rfl, rfl, rfl, rfl, rfl⟩ rfl rfl rfl rfl rfl (by kernel_rfl) Tryd.func10 (by kernel_rfl)
    (of_decide_eq_true (by kernel_rfl)) (by unfold Func.isWrapper; first | (rw [if_pos (by decide +kernel)]; kernel_rfl) | (rw [if_neg (by decide +kernel)]; exact ⟨rfl, rfl⟩))
    (fun os started H enc _ => lifted os started H enc)


/-! ### THE CARD -/
theorem cardHolds : Rows.PosetSwapsCardSaid :=
  Claim7.holds_tied_plain_at .later [] [.data] true (true, "69b8748036c1ab40a488c13c974df10cd19b3b935a840f5165b1f86c23c10982") true
    over (fun _ h => by cases h) (by kernel_rfl) (fun _ h => by cases h) posetSwaps_row_tie rfl ⟨rfl, rfl⟩ (by kernel_rfl) rfl
    (fun f fn hf hfn => by
      obtain rfl : f = 10 := Option.some.inj ((show Tryd.prog.funcNamed "simproof/simprooflaw04.PosetSwaps" = some 10 by kernel_rfl).symm.trans hf) |>.symm
      obtain rfl : fn = Tryd.f10 := (Option.some.inj (Tryd.func10.symm.trans hfn)).symm
      exact ⟨by kernel_rfl, fun j t ht => by
        rw [Tryd.params10] at ht
        have hm : t ∈ [3, 22, 22] := by simpa using Array.mem_of_getElem? ht
        have hall : ([3, 22, 22].all fun u => !Tryd.prog.wantsStandIn u) = true := by kernel_rfl
        exact (show Tryd.prog.wantsStandIn t = false by simpa using List.all_eq_true.1 hall t hm)⟩)
    (by kernel_rfl)
end Go.Proofs.YtkfooiapecdhaaaDoor.posetSwaps
