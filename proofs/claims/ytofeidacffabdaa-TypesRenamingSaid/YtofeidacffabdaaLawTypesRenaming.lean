/-
  The walk of the law TypesRenaming. No condition beyond the arguments' readings.
-/
import Derived.Test.YtofeidacffabdaaTyRq
import Derived.Test.YtofeidacffabdaaTyOn
import Derived.Deep.RegionHeld3
import Derived.Deep.RegionHeldLaw
import Derived.Deep.CutRange
namespace Go.Proofs.Ytofeidacffabdaa.LawTypesRenaming
open Go Go.RowKit Go.Proofs Go.Shelf
attribute [local go_sem] Oper.semAt_some

theorem sfx_inj (x a b : ByteArray) (h : sfx x a = sfx x b) : a = b := by
  unfold sfx at h
  apply ByteArray.ext
  have h2 : (a ++ x).data = (b ++ x).data := by rw [h]
  rw [ByteArray.data_append, ByteArray.data_append] at h2
  have h3 := congrArg Array.toList h2
  rw [Array.toList_append, Array.toList_append] at h3
  exact Array.toList_inj.1 (List.append_cancel_right h3)
theorem ny_nw {B : Nat} {w : World} {t : TY.Nd} {v : Value} (h : Ny 0 B none w t v) : Nw B w t v := fun V hV => h V fun c h1 h2 _ => hV c (h1.resolve_left (Nat.not_lt_zero _)) h2
/-- The handlers with every name renamed. -/
abbrev renH (x : ByteArray) (on : List (Int × TY.Nd)) : List (Int × TY.Nd) := on.map fun h => (h.1, TY.ren (sfx x) h.2)
theorem renH_snoc {on : List (Int × TY.Nd)} {j : Nat} {y : Int × TY.Nd} (x : ByteArray) (h : on[j]? = some y) : renH x (on.take (j + 1)) = renH x (on.take j) ++ [(y.1, TY.ren (sfx x) y.2)] := by
  unfold renH
  rw [List.take_add_one, h, List.map_append]
  rfl
theorem ren_fin {wc wr w5 w6 U : World} {g7 j cj g4 c4' md mv c8 c9 : Nat} {A8 A9 Aj : Option Addr} {on : List (Int × TY.Nd)} {sx : ByteArray} {cs : List Value} {x : Int × TY.Nd} {T5 : TY.Nd} {k5 n5 : Int} {s5 : ByteArray} {A5 : Option Addr} {m5 c5 : Nat}
    (hR : TR 46 1 wc.heap.size wr Aj j cj (hnd (renH sx (on.take j))) cs) (_ : wr.heap[g7]? = some (.cells #[.slice A8 md c8, .slice A9 mv c9, .slice Aj j cj] 35 (0, 0))) (hb5 : Below wr.heap.size wr w5) (_ : g7 ≤ wr.heap.size) (hsz : wc.heap.size ≤ wr.heap.size) (hV : Nw wr.heap.size w5 T5 (ndv k5 n5 s5 (.slice A5 m5 c5)))
    (hg : (w5.alloc (.cells #[.int .i64 x.1, .int .i64 k5, .int .i64 n5, .string s5, .slice A5 m5 c5] 46)).grownBy w6 (Value.slice Aj j cj).ownBlock) (hat : (Value.slice Aj j cj).ownBlock = some g4 ∨ g4 = (w5.alloc (.cells #[.int .i64 x.1, .int .i64 k5, .int .i64 n5, .string s5, .slice A5 m5 c5] 46)).heap.size)
    (hown : w6.ownsRow wc.heap.size 46 5 (.slice (some ⟨g4, 0, none⟩) (j + 1) c4') (j + 1) (cs ++ [.int .i64 x.1, .int .i64 k5, .int .i64 n5, .string s5, .slice A5 m5 c5])) (hb6 : w6.heap[g7]? = some (.cells #[.slice A8 md c8, .slice A9 mv c9, .slice Aj j cj] 35 (0, 0)))
    (hU : w6.setCell ⟨g7, 2, none⟩ (.slice (some ⟨g4, 0, none⟩) (j + 1) c4') = U) (hCh : Chg (fun x => x = g7 ∨ wc.heap.size ≤ x) wc wr) (hsn : renH sx (on.take (j + 1)) = renH sx (on.take j) ++ [(x.1, T5)]) (hgc : g7 < wc.heap.size) :
    ∃ (A4 : Option Addr) (c4 : Nat) (cs' : List Value), U.heap[g7]? = some (.cells #[.slice A8 md c8, .slice A9 mv c9, .slice A4 (j + 1) c4] 35 (0, 0)) ∧ TR 46 1 wc.heap.size U A4 (j + 1) c4 (hnd (renH sx (on.take (j + 1)))) cs' ∧ Chg (fun x => x = g7 ∨ wc.heap.size ≤ x) wc U := by
  have hUk : ∀ q, q ≠ g7 → U.heap[q]? = w6.heap[q]? := fun q hq => by rw [← hU]; exact Below.heap_setCell _ _ _ _ hq
  have hUs : U.heap.size = w6.heap.size := by rw [← hU]; simp [World.setCell]
  have hs5 := hb5.size
  have hUb : U.heap[g7]? = some (.cells #[.slice A8 md c8, .slice A9 mv c9, .slice (some ⟨g4, 0, none⟩) (j + 1) c4'] 35 (0, 0)) := by
    rw [← hU]
    simp only [World.setCell, Array.getElem?_modify]
    simp [hb6]
  have hO5 := TR.own hR (Chg.of_new hb5 (fun _ => False)) (fun _ h => h.elim) (.cells #[.int .i64 x.1, .int .i64 k5, .int .i64 n5, .string s5, .slice A5 m5 c5] 46)
  have hTR := TR.step (pre := [.int .i64 x.1]) (U := U) hR (Chg.of_new hb5 (fun _ => False)) (fun _ h => h.elim) hsz rfl hV hg (hat.imp id fun h => by rw [h, World.size_alloc]; omega) hown (fun q hq => hUk q (by omega)) hUs
  refine ⟨_, _, cs ++ ([.int .i64 x.1] ++ [.int .i64 k5, .int .i64 n5, .string s5, .slice A5 m5 c5]), hUb, ?_, ?_⟩
  · rw [hsn, hnd_snoc]
    exact hTR
  · rw [← hU]
    refine Chg.setCell (p := ⟨g7, 2, none⟩) ?_ (fun _ => .inl rfl) _
    exact (hCh.trans (Chg.of_new hb5 (fun _ => False)) (fun _ _ h => h.elim)).trans (grown_chg hg hO5) (fun _ _ h => .inr h)
theorem stn_far {wc wr : World} {g7 c : Nat} {A : Option Addr} {l : List ByteArray} {x0 x1 x2 : Value} (h : Stn wc.heap.size wc A c l) (hU : wc.heap[g7]? = some (.cells #[x0, x1, x2] 35 (0, 0))) (hx : ∀ s : ByteArray, x0 ≠ .string s ∧ x1 ≠ .string s ∧ x2 ≠ .string s) (hC : Chg (fun x => x = g7 ∨ wc.heap.size ≤ x) wc wr) : Stn wr.heap.size wr A c l := by
  obtain ⟨h1, h2, h3 | ⟨b, off, e, hlt, hc⟩⟩ := h
  · exact ⟨h1, h2, .inl h3⟩
  · refine ⟨h1, h2, .inr ⟨b, off, e, Nat.lt_of_lt_of_le hlt hC.size, fun j s hj => ?_⟩⟩
    have hcj := hc j s hj
    have hne : b ≠ g7 := by
      rintro rfl
      rw [cell_of_row wc b (off + j) _ _ (0, 0) hU] at hcj
      match off + j, hcj with
      | 0, hcj => injection hcj with hcj; exact (hx s).1 hcj
      | 1, hcj => injection hcj with hcj; exact (hx s).2.1 hcj
      | 2, hcj => injection hcj with hcj; exact (hx s).2.2 hcj
      | q + 3, hcj => simp at hcj
    exact (World.cell?_of_block (w := wc) (a := ⟨b, off + j, none⟩) (hC.block b hlt (by omega))).trans hcj
theorem grown_kept2 {w5 w6 : World} {B base n : Nat} {v : Value} {o : Obj} {a0 a1 a2 : Value} {e : TypeId} {size : Nat} {xs : List Value} (hg : (w5.alloc o).grownBy w6 v.ownBlock) (hblk : w5.heap[B]? = some (.cells #[a0, a1, a2] 35 (0, 0))) (hown : (w5.alloc o).ownsRow base e size v n xs) (hB : B < base) :
    w6.heap[B]? = some (.cells #[a0, a1, a2] 35 (0, 0)) ∧ w6.cell? ⟨B, 2, none⟩ = some a2 ∧ w6.frozen? ⟨B, 2, none⟩ = false := grown_kept1 hg hblk hown hB
set_option maxRecDepth 100000 in
set_option maxHeartbeats 8000000 in
theorem walk (a0 : Option Addr) (len0 cap0 : Nat) (z0 : List Int) (a1 : Int) (w : World) (w0 : Row .i64 w a0 len0 cap0 z0) (w1 : (Lit.int .i64 a1).wf = true) :
    Calls Try.prog 8 #[.slice a0 len0 cap0, .int .i64 a1] w fun e w' => e = .returned (.bool true) ∧ Below w.heap.size w w' := by
  have hb1 := bounds_i64 w1
  obtain ⟨_, _, _, hwf0⟩ := w0.ints
  have HX := Lib.hid (Unit_any a0 len0 cap0 _ w w0.slc (i64_of hwf0))
  have hsm : ∀ x ∈ (unitT (z0.take len0)).on, TY.SM x.2 := TY.unit_sm _
  have hdl : ∀ s ∈ (unitT (z0.take len0)).dur, s.size ≤ 1000 := fun s hs => by obtain ⟨i, _, rfl⟩ := List.mem_map.1 hs; exact name_small i
  have hvs : ∀ s ∈ (unitT (z0.take len0)).vol, s.size ≤ 1000 := fun s hs => by obtain ⟨i, _, rfl⟩ := List.mem_map.1 hs; exact name_small i
  obtain ⟨u, hu⟩ : ∃ u, unitT (z0.take len0) = u := ⟨_, rfl⟩
  rw [hu] at HX hsm hdl hvs
  have hr := around_in a1 10 (by decide)
  have AR := Lib.hid (fun V => around_any a1 10 ⟨by omega, by omega⟩ (by decide) (by decide) V)
  obtain ⟨y, hy⟩ : ∃ y : Nat, around a1 10 = (y : Int) := Int.eq_ofNat_of_zero_le hr.1
  rw [hy] at AR hr
  have hy10 : y < 10 := by omega
  have DC := Lib.hid (fun V => Decimal_dg y hy10 V)
  obtain ⟨sx, hsx⟩ : ∃ s, dg y = s := ⟨_, rfl⟩
  have hsx1 : sx.size ≤ 1 := by rw [← hsx]; show 1 ≤ 1; decide
  rw [hsx] at DC
  have HSM := Lib.hid hsm
  have HDL := Lib.hid hdl
  have HVS := Lib.hid hvs
  clear hu w0 hwf0 hsm hdl hvs w1 hb1 hsx hy hr
  go_enter Try.func8, Try.ntmps8
  go_wp2_with fail
  refine HX.out.mono ?_
  clear HX
  rintro r w1 ⟨v, rfl, hv, hb1⟩
  obtain ⟨Ad, md, cd, Av, mv, cv, A, m, c, rfl, hd, hvl, hm, l1, l2, l3, l4, l5, l6, l7, l8, l9, s1, s2, s3⟩ := hv.shape
  have hs1 := hb1.size
  obtain ⟨W2, h2⟩ : ∃ U, w1.alloc (.cells #[.slice Ad md cd, .slice Av mv cv, .slice A m c] 35) = U := ⟨_, rfl⟩
  have z2 : W2.heap.size = w1.heap.size + 1 := by rw [← h2, World.size_alloc]
  have b2 : Below w1.heap.size w1 W2 := by rw [← h2]; exact (Below.refl _ _).alloc (Nat.le_refl _) _
  have e2 : W2.heap[w1.heap.size]? = some (.cells #[.slice Ad md cd, .slice Av mv cv, .slice A m c] 35 (0, 0)) := by rw [← h2]; exact World.alloc_heap_new w1 _
  have HS1 := Lib.hid (s1.below b2)
  have HS2 := Lib.hid (s2.below b2)
  have HS3 := Lib.hid (s3.below b2)
  have HV := Lib.hid hv
  have HB2 := Lib.hid b2
  have HBW := Lib.hid (hb1.trans (b2.mono hs1))
  have H2 := Lib.hid h2
  have HD := Lib.hid hd
  have HVL := Lib.hid hvl
  have HM := Lib.hid hm
  obtain ⟨fa0, fa1, fa2⟩ : W2.cell? ⟨w1.heap.size, 0, none⟩ = some (.slice Ad md cd) ∧ W2.cell? ⟨w1.heap.size, 1, none⟩ = some (.slice Av mv cv) ∧ W2.cell? ⟨w1.heap.size, 2, none⟩ = some (.slice A m c) := ⟨cell_of_row W2 _ 0 _ _ (0, 0) e2, cell_of_row W2 _ 1 _ _ (0, 0) e2, cell_of_row W2 _ 2 _ _ (0, 0) e2⟩
  have lt2 : w1.heap.size < W2.heap.size := by omega
  obtain ⟨i2, hi2, hx0, hx1, hx2⟩ := info_parts info_hand
  have HYI := Lib.hid (And.intro hi2 (And.intro hx0 (And.intro hx1 hx2)))
  clear hv hb1 hs1 h2 z2 b2 e2 s1 s2 s3 hd hvl hm hi2 hx0 hx1 hx2
  go_wp2_with (first
    | (rw [H2.out]; go_at_call 18; refine (AR.out _).mono ?_; clear AR; rintro e w3 ⟨rfl, rfl⟩)
    | (go_at_call 21; refine (DC.out _).mono ?_; clear DC; rintro e w3 ⟨rfl, hw3⟩; have hw3 := hw3.symm; subst hw3))
  have WD := Lib.hid (fun (V : World) (hV : Below W2.heap.size W2 V) => renamedL_any V w1.heap.size Ad cd md u.dur sx (HS1.out.below (hV.mono (Nat.le_of_lt lt2))) HD.out (by omega) (by have := hV.size; omega) (by omega) HDL.out)
  have WV := Lib.hid (fun (V : World) (hV : Below W2.heap.size W2 V) => renamedL_any V w1.heap.size Av cv mv u.vol sx (HS2.out.below (hV.mono (Nat.le_of_lt lt2))) HVL.out (by omega) (by have := hV.size; omega) (by omega) HVS.out)
  have HK := Lib.hid (fun (V : World) (hV : Below W2.heap.size W2 V) => (show V.cell? ⟨w1.heap.size, 0, none⟩ = some (.slice Ad md cd) ∧ V.cell? ⟨w1.heap.size, 1, none⟩ = some (.slice Av mv cv) ∧ V.cell? ⟨w1.heap.size, 2, none⟩ = some (.slice A m c) from ⟨(hV.cell (p := ⟨w1.heap.size, 0, none⟩) lt2).trans fa0, (hV.cell (p := ⟨w1.heap.size, 1, none⟩) lt2).trans fa1, (hV.cell (p := ⟨w1.heap.size, 2, none⟩) lt2).trans fa2⟩))
  have HBR := Lib.hid (Below.refl W2.heap.size W2)
  have hsc : W2.heap.size ≤ W2.heap.size := Nat.le_refl _
  go_cut [7] from 11 (fun s7 V => ∃ g7 A8 c8 A9 c9, s7 = .pointer (some ⟨g7, 0, none⟩) ∧ UF W2 V g7 (.slice A8 md c8) (.slice A9 mv c9) (.slice none 0 0) ∧ W2.heap.size ≤ g7 ∧ Stn V.heap.size V A8 c8 (u.dur.map (sfx sx)) ∧ Stn V.heap.size V A9 c9 (u.vol.map (sfx sx)))
  case first =>
    have B6 : Below W2.heap.size W2 W2 := Below.refl _ _
    go_region_held3 (fun V => V.cell? ⟨w1.heap.size, 0, none⟩ = some (.slice Ad md cd) ∧ V.cell? ⟨w1.heap.size, 1, none⟩ = some (.slice Av mv cv) ∧ V.cell? ⟨w1.heap.size, 2, none⟩ = some (.slice A m c))
      (first | exact HK.out _ ((Below.refl W2.heap.size W2).trans (by repeat (first | with_reducible exact Below.refl _ _ | with_reducible exact B6.mono hsc | with_reducible refine Below.drew ?_ | with_reducible refine Below.alloc ?_ (by first | exact hsc | exact Nat.le_trans hsc B6.size | (simp; omega)) _ | with_reducible refine Below.setCell ?_ (by first | exact hsc | exact Nat.le_trans hsc B5.size | (simp; omega)) _))))
      (first
        | (go_at_call 22; ((with_reducible refine (WD.out _ ?_).mono ?_); focus (first | exact HBR.out | exact HBR.out.drew | exact (HBR.out.alloc hsc _) | exact (HBR.out.alloc hsc _).drew)); rintro e5 w5 ⟨A8, c8, rfl, hs8, hb⟩
           (first
             | (have B5 : Below W2.heap.size W2 w5 := (by first | exact hb | exact (Below.refl W2.heap.size W2).drew.trans hb))
             | (have hbz : Below (W2.heap.size + 1) (W2.alloc uz) w5 := (by rw [← World.size_alloc W2 uz]; first | exact hb | exact (Below.refl _ _).drew.trans hb); have B5 : Below W2.heap.size W2 w5 := ((Below.refl W2.heap.size W2).alloc (Nat.le_refl _) _).trans (hbz.mono (by omega)); have ZT : ZU w5 W2.heap.size := ZU.below (ZU.new W2) hbz (by omega)))
           have B6 := B5
           clear hb WD)
        | (go_at_call 22; ((with_reducible refine (WV.out _ ?_).mono ?_); focus (first | exact (HBR.out.trans (B5.mono hsc)) | exact ((HBR.out.trans (B5.mono hsc)).alloc (Nat.le_trans hsc B5.size) _))); rintro e6 w6 ⟨A9, c9, rfl, hs9, hb⟩
           (first
             | (have hb6 : Below w5.heap.size w5 w6 := hb)
             | (have hbz : Below (w5.heap.size + 1) (w5.alloc uz) w6 := (by rw [← World.size_alloc w5 uz]; exact hb); have hb6 : Below w5.heap.size w5 w6 := ((Below.refl w5.heap.size w5).alloc (Nat.le_refl _) _).trans (hbz.mono (by omega)); have ZT : ZU w6 w5.heap.size := ZU.below (ZU.new w5) hbz (by omega)))
           (try (have ZT := ZT.call hb6))
           (try (obtain ⟨zc0, zc1, zc2, zf0, zf1, zf2⟩ := ZT.cells))
           have B6 := B5.trans (hb6.mono B5.size)
           have hs8' := hs8.up hb6 hb6.size
           clear hb hb6 WV))
    all_goals
      first
        | (obtain ⟨U, hU⟩ : ∃ U, w6.alloc (.cells #[.slice A8 md c8, .slice A9 mv c9, .slice none 0 0] 35) = U := ⟨_, rfl⟩
           rw [hU]
           have kg : W2.heap.size ≤ w6.heap.size := B6.size
           have k1 : UF W2 U w6.heap.size (.slice A8 md c8) (.slice A9 mv c9) (.slice none 0 0) := hU ▸ UF.new B6 _ _ _
           have k2 : Stn U.heap.size U A8 c8 (u.dur.map (sfx sx)) := hU ▸ hs8'.up ((Below.refl _ _).alloc (Nat.le_refl _) _) (by rw [World.size_alloc]; omega)
           have k3 : Stn U.heap.size U A9 c9 (u.vol.map (sfx sx)) := hU ▸ hs9.up ((Below.refl _ _).alloc (Nat.le_refl _) _) (by rw [World.size_alloc]; omega)
           clear hU)
        | (obtain ⟨U, hU⟩ : ∃ U, ((w6.setCell ⟨W2.heap.size, 0, none⟩ (.slice A8 md c8)).setCell ⟨W2.heap.size, 1, none⟩ (.slice A9 mv c9)).setCell ⟨W2.heap.size, 2, none⟩ (.slice none 0 0) = U := ⟨_, rfl⟩
           rw [hU]
           have hUs : U.heap.size = w6.heap.size := by rw [← hU]; simp [World.setCell]
           have kg : W2.heap.size ≤ W2.heap.size := Nat.le_refl _
           have k1 : UF W2 U W2.heap.size (.slice A8 md c8) (.slice A9 mv c9) (.slice none 0 0) := hU ▸ UF.set B6 ZT (Nat.le_refl _) _ _ _
           have k2 : Stn U.heap.size U A8 c8 (u.dur.map (sfx sx)) := by rw [hUs, ← hU]; exact hs8'.set3 ZT _ _ _
           have k3 : Stn U.heap.size U A9 c9 (u.vol.map (sfx sx)) := by rw [hUs, ← hU]; exact hs9.set3 ZT _ _ _
           clear hU hUs)
        | (obtain ⟨U, hU⟩ : ∃ U, ((w6.setCell ⟨w5.heap.size, 0, none⟩ (.slice A8 md c8)).setCell ⟨w5.heap.size, 1, none⟩ (.slice A9 mv c9)).setCell ⟨w5.heap.size, 2, none⟩ (.slice none 0 0) = U := ⟨_, rfl⟩
           rw [hU]
           have hUs : U.heap.size = w6.heap.size := by rw [← hU]; simp [World.setCell]
           have kg : W2.heap.size ≤ w5.heap.size := B5.size
           have k1 : UF W2 U w5.heap.size (.slice A8 md c8) (.slice A9 mv c9) (.slice none 0 0) := hU ▸ UF.set B6 ZT B5.size _ _ _
           have k2 : Stn U.heap.size U A8 c8 (u.dur.map (sfx sx)) := by rw [hUs, ← hU]; exact hs8'.set3 ZT _ _ _
           have k3 : Stn U.heap.size U A9 c9 (u.vol.map (sfx sx)) := by rw [hUs, ← hU]; exact hs9.set3 ZT _ _ _
           clear hU hUs)
      go_wp2_with fail
      go_meet
      exact ⟨_, A8, c8, A9, c9, rfl, k1, kg, k2, k3⟩
  case rest =>
    obtain ⟨g7, A8, c8, A9, c9, rfl, hUF, hg7, hst8, hst9⟩ := hcut
    have hbD : Below W2.heap.size W2 wc := hUF.2
    have hs7 := hbD.size
    have lg7 := heap_lt hUF.1
    have HU7 := Lib.hid hUF.1
    have HST8 := Lib.hid hst8
    have HST9 := Lib.hid hst9
    have HBD := Lib.hid hbD
    have HS3' := Lib.hid (HS3.out.below (hbD.mono (Nat.le_of_lt lt2)))
    have lgu : w1.heap.size < wc.heap.size := by omega
    obtain ⟨v0, v1, v2⟩ := HK.out wc hbD
    have HKW := HK
    clear hUF hst8 hst9 hbD WD WV HK HS3 hsc HBR
    go_wp2_with fail
    go_loopw [8] (fun i V => ∃ (j cj : Nat) (Aj : Option Addr) (cs : List Value), j ≤ m ∧ i = .int .i64 (j : Int) ∧ Hid (V.heap[g7]? = some (.cells #[.slice A8 md c8, .slice A9 mv c9, .slice Aj j cj] 35 (0, 0))) ∧ Hid (TR 46 1 wc.heap.size V Aj j cj (hnd (renH sx (u.on.take j))) cs) ∧ Hid (Chg (fun x => x = g7 ∨ wc.heap.size ≤ x) wc V)) (fun i _ => m - (intOf i).toNat)
    case atStart => exact ⟨0, 0, none, [], by omega, rfl, HU7.out, TR.nil _ _ _ _, Chg.refl _ _⟩
    case round =>
      obtain ⟨j, cj, Aj, cs, hj, rfl, hB, hR, hCh⟩ := hrel
      have hBl : Hid (Below g7 wc wr) := hCh.out.below (fun x _ h => by omega) (by omega)
      have hsz := hBl.out.size
      have hBW2 : Below W2.heap.size W2 wr := HBD.out.trans (hBl.out.mono hg7)
      have x2 := (hBl.out.cell (p := ⟨w1.heap.size, 2, none⟩) (show w1.heap.size < g7 by omega)).trans v2
      by_cases hjm : j < m
      · obtain ⟨x, hx⟩ : ∃ x, u.on[j]? = some x := ⟨u.on[j]'(by rw [HM.out]; exact hjm), List.getElem?_eq_getElem (by rw [HM.out]; exact hjm)⟩
        have hxm := List.mem_of_getElem? hx
        obtain ⟨bh, off, k, n, sh, A', mk, ck, rfl, hlt, c0', c1, c2, c3, c4, hn⟩ := HS3'.out j x hx
        have hbg : bh < g7 := by omega
        have d0 := (hBl.out.cell (p := ⟨bh, off + j * 5, none⟩) hbg).trans c0'
        have d1 := (hBl.out.cell (p := ⟨bh, off + j * 5 + 1, none⟩) hbg).trans c1
        have d2 := (hBl.out.cell (p := ⟨bh, off + j * 5 + 1 + 1, none⟩) hbg).trans c2
        have d3 := (hBl.out.cell (p := ⟨bh, off + j * 5 + 1 + 2, none⟩) hbg).trans c3
        have d4 := (hBl.out.cell (p := ⟨bh, off + j * 5 + 1 + 3, none⟩) hbg).trans c4
        have RC := Lib.hid (renamed_any sx (by omega) x.2 (fun s hs => by have := HSM.out x hxm s hs; omega) wr.drew w1.heap.size _ (hn.under (hBl.out.drew.mono (by omega)) (Nat.le_refl _)) (show w1.heap.size ≤ wr.heap.size by omega))
        have HSN := Lib.hid (renH_snoc sx hx)
        have r2 : wr.cell? ⟨g7, 2, none⟩ = some (.slice Aj j cj) := cell_of_row wr _ 2 _ _ (0, 0) hB.out
        have hjb : j ≤ 10 := by omega
        obtain ⟨T5, hT5⟩ : ∃ T, TY.ren (sfx sx) x.2 = T := ⟨_, rfl⟩
        rw [hT5] at RC HSN
        have HKS := Lib.hid (fun (V : World) (hV : Below g7 wr V) => (show V.cell? ⟨w1.heap.size, 2, none⟩ = some (.slice (some ⟨bh, off, none⟩) m c) ∧ V.cell? ⟨bh, off + j * 5, none⟩ = some (.int .i64 x.1) ∧ V.cell? ⟨bh, off + j * 5 + 1, none⟩ = some (.int .i64 k) ∧ V.cell? ⟨bh, off + j * 5 + 1 + 1, none⟩ = some (.int .i64 n) ∧ V.cell? ⟨bh, off + j * 5 + 1 + 2, none⟩ = some (.string sh) ∧ V.cell? ⟨bh, off + j * 5 + 1 + 3, none⟩ = some (.slice A' mk ck) from
          ⟨(hV.cell (p := ⟨w1.heap.size, 2, none⟩) (show w1.heap.size < g7 by omega)).trans x2, (hV.cell (p := ⟨bh, off + j * 5, none⟩) hbg).trans d0, (hV.cell (p := ⟨bh, off + j * 5 + 1, none⟩) hbg).trans d1, (hV.cell (p := ⟨bh, off + j * 5 + 1 + 1, none⟩) hbg).trans d2, (hV.cell (p := ⟨bh, off + j * 5 + 1 + 2, none⟩) hbg).trans d3, (hV.cell (p := ⟨bh, off + j * 5 + 1 + 3, none⟩) hbg).trans d4⟩))
        have B5 : Below g7 wr wr := Below.refl _ _
        have hgr : g7 ≤ wr.heap.size := by omega
        clear c0' c1 c2 c3 c4 hx hxm hn hT5
        go_wp2_with fail
        obtain ⟨b0, b1, b2, b3, b4, b5⟩ := HKS.out _ B5
        clear B5
        go_region_law
          (first
            | (refine step_append_lies _ rfl (.tmp 33) (.tmp 49) 33 rfl wc.heap.size 46 i2 _ 5 64 Try.underlying33 HYI.out.1 HYI.out.2.1 HYI.out.2.2.1 HYI.out.2.2.2 rfl (by decide) (.slice Aj j cj) j _ (by simp [Act.eval]) HO5.out ⟨w5.heap.size, 0, none⟩ 1 1 [.int .i64 x.1, .int .i64 k5, .int .i64 n5, .string s5, .slice A5 m5 c5] (by simp [Act.eval]) rfl (news_alloc _ _ _ _ rfl) (by simp [Value.oneCell']) (by decide) (by simp only [maxLen]; omega) (by omega) (by simp; omega) _ rfl ?_; intro g4 c4' w6 hown4 hgrow4 hat4 _; obtain ⟨hb6, d6, f6⟩ := grown_kept1 hgrow4 HB5.out HO5.out (by omega))
            | (go_simp; go_at_call 23; refine RC.out.mono ?_; clear RC; rintro e5 w5 ⟨v5, rfl, V5, hb⟩; obtain ⟨k5, n5, s5, A5, m5, c5, rfl⟩ := V5.shape; have V6 := Lib.hid (show Nw wr.heap.size w5 T5 (ndv k5 n5 s5 (.slice A5 m5 c5)) from ny_nw V5); have hb5 : Below wr.heap.size wr w5 := (Below.refl wr.heap.size wr).drew.trans hb; have BW5 := Lib.hid hb5; have hs5 := hb5.size; have HB5 := Lib.hid ((hb5.block g7 (by omega)).trans hB.out); have e5 : w5.cell? ⟨g7, 2, none⟩ = some (.slice Aj j cj) := cell_of_row w5 _ 2 _ _ (0, 0) HB5.out; have d5 : (w5.alloc (.cells #[.int .i64 x.1, .int .i64 k5, .int .i64 n5, .string s5, .slice A5 m5 c5] 46)).cell? ⟨g7, 2, none⟩ = some (.slice Aj j cj) := (((Below.refl w5.heap.size w5).alloc (Nat.le_refl _) _).cell (p := ⟨g7, 2, none⟩) (heap_lt HB5.out)).trans e5; have HO5 := Lib.hid (TR.own hR.out (Chg.of_new hb5 (fun _ => False)) (fun _ h => h.elim) (.cells #[.int .i64 x.1, .int .i64 k5, .int .i64 n5, .string s5, .slice A5 m5 c5] 46)); obtain ⟨p0, p1, p2, p3, p4, p5⟩ := HKS.out _ (hb5.mono hgr); clear V5 hb hb5))
        all_goals
          obtain ⟨U, hU⟩ : ∃ U, w6.setCell ⟨g7, 2, none⟩ (.slice (some ⟨g4, 0, none⟩) (j + 1) c4') = U := ⟨_, rfl⟩
          have hfin := ren_fin hR.out hB.out BW5.out hgr hsz V6.out hgrow4 hat4 hown4 hb6 hU hCh.out HSN.out lg7
          have HU := Lib.hid hU
          have HFI := Lib.hid hfin
          clear hU hfin
          go_wp2_with fail
          rw [HU.out]
          have hfin := HFI.out
          obtain ⟨A4, c4, cs4, k1, k2, k3⟩ := hfin
          have G1 := Lib.hid k1
          have G2 := Lib.hid k2
          have G3 := Lib.hid k3
          clear k1 k2 k3
          go_roundw
          case rel => exact ⟨j + 1, c4, A4, cs4, by omega, by go_num, G1.out, G2.out, G3.out⟩
          case measure => simp [intOf]; omega
      · obtain rfl : j = m := by omega
        rw [List.take_of_length_le (by rw [HM.out]; exact Nat.le_refl _)] at hR
        have hmr : (renH sx u.on).length = j := by rw [List.length_map]; exact HM.out
        obtain ⟨h5, h6⟩ := own_sliceN hR.out.2.1
        have hvr : UnV wr (u.ren (sfx sx)) (.agg #[.slice A8 md c8, .slice A9 mv c9, .slice Aj j cj]) := ⟨A8, c8, A9, c9, Aj, cj, by
            show _ = Value.agg #[.slice A8 (u.dur.map (sfx sx)).length c8, .slice A9 (u.vol.map (sfx sx)).length c9, .slice Aj (renH sx u.on).length cj]
            rw [List.length_map, List.length_map, hmr, HD.out, HVL.out], stn_far HST8.out HU7.out (fun s => ⟨(fun e => by cases e), (fun e => by cases e), (fun e => by cases e)⟩) hCh.out, stn_far HST9.out HU7.out (fun s => ⟨(fun e => by cases e), (fun e => by cases e), (fun e => by cases e)⟩) hCh.out, TR.hs hR.out, by show (renH sx u.on).length ≤ cj; omega, h6, by show (u.dur.map (sfx sx)).length ≤ 20; rw [List.length_map, HD.out]; omega, by show (u.vol.map (sfx sx)).length ≤ 20; rw [List.length_map, HVL.out]; omega, by show (renH sx u.on).length ≤ 4; omega⟩
        have hvx : UnV w1 { dur := u.vol, vol := u.dur, on := u.on } (.agg #[.slice Av mv cv, .slice Ad md cd, .slice A j c]) := by
          obtain ⟨Ad', cd', Av', cv', A', c', e, q1, q2, q3, q4, q5, q6, q7, q8⟩ := HV.out
          injection e with e
          have e1 := congrArg Array.toList e
          simp only [List.cons.injEq, and_true] at e1
          obtain ⟨e1, e2, e3⟩ := e1
          injection e1 with a1 a2 a3
          injection e2 with a4 a5 a6
          injection e3 with a7 a8 a9
          subst a1 a2 a3 a4 a5 a6 a7 a8 a9
          exact ⟨Av, cv, Ad, cd, A, c, rfl, q2, q1, q3, q4, q5, q7, q6, q8⟩
        have hb1r : Below w1.heap.size w1 wr := HB2.out.trans (hBW2.mono HB2.out.size)
        have hBwr := HBW.out.trans (hBW2.mono HBW.out.size)
        obtain ⟨q, hq⟩ : ∃ q, TY.chk u = q := ⟨_, rfl⟩
        have hq1 : TY.chk (u.ren (sfx sx)) = q := (TY.chk_ren (sfx_inj sx) u).trans hq
        have hq2 : TY.chk { dur := u.vol, vol := u.dur, on := u.on } = q := (TY.chk_swap u).trans hq
        obtain ⟨wX0, hwX0⟩ : ∃ Z, Z = wr := ⟨_, rfl⟩
        subst hwX0
        obtain ⟨WX, hWX⟩ : ∃ U, wX0.alloc (.cells #[.slice Av mv cv, .slice Ad md cd, .slice A j c] 35) = U := ⟨_, rfl⟩
        have bX : Below wX0.heap.size wX0 WX := by rw [← hWX]; exact (Below.refl _ _).alloc (Nat.le_refl _) _
        have zX : WX.heap.size = wX0.heap.size + 1 := by rw [← hWX, World.size_alloc]
        have eX : WX.heap[wX0.heap.size]? = some (.cells #[.slice Av mv cv, .slice Ad md cd, .slice A j c] 35 (0, 0)) := by rw [← hWX]; exact World.alloc_heap_new wX0 _
        have eR := (bX.block g7 (heap_lt hB.out)).trans hB.out
        have hsX := bX.size
        have hs1r := hb1r.size
        have CKR := Lib.hid (fun (V : World) (hV : Below WX.heap.size WX V) => hq1 ▸ hvr.check (bX.trans (hV.mono hsX)))
        have IXR := Lib.hid (fun (V : World) (hV : Below WX.heap.size WX V) s => hvr.index (bX.trans (hV.mono hsX)) s)
        have b1X : Below w1.heap.size w1 WX := hb1r.trans (bX.mono hs1r)
        have hs1X := b1X.size
        have CKX := Lib.hid (fun (V : World) (hV : Below WX.heap.size WX V) => hq2 ▸ hvx.check (b1X.trans (hV.mono hs1X)))
        have CKU := Lib.hid (fun (V : World) (hV : Below WX.heap.size WX V) => hq ▸ HV.out.check (b1X.trans (hV.mono hs1X)))
        have IXU := Lib.hid (fun (V : World) (hV : Below WX.heap.size WX V) s => HV.out.index (b1X.trans (hV.mono hs1X)) s)
        have LV := Lib.hid (fun (V : World) (_ : Below WX.heap.size WX V) => lives_any V)
        obtain ⟨k0, k1, k2⟩ := HKW.out wX0 hBW2
        have l1X : w1.heap.size < wX0.heap.size := by omega
        obtain ⟨xu0, xu1, xu2⟩ : WX.cell? ⟨w1.heap.size, 0, none⟩ = some (.slice Ad md cd) ∧ WX.cell? ⟨w1.heap.size, 1, none⟩ = some (.slice Av mv cv) ∧ WX.cell? ⟨w1.heap.size, 2, none⟩ = some (.slice A j c) := ⟨(bX.cell (p := ⟨w1.heap.size, 0, none⟩) l1X).trans k0, (bX.cell (p := ⟨w1.heap.size, 1, none⟩) l1X).trans k1, (bX.cell (p := ⟨w1.heap.size, 2, none⟩) l1X).trans k2⟩
        obtain ⟨xr0, xr1, xr2⟩ : WX.cell? ⟨g7, 0, none⟩ = some (.slice A8 md c8) ∧ WX.cell? ⟨g7, 1, none⟩ = some (.slice A9 mv c9) ∧ WX.cell? ⟨g7, 2, none⟩ = some (.slice Aj j cj) := ⟨cell_of_row WX _ 0 _ _ (0, 0) eR, cell_of_row WX _ 1 _ _ (0, 0) eR, cell_of_row WX _ 2 _ _ (0, 0) eR⟩
        obtain ⟨xx0, xx1, xx2⟩ : WX.cell? ⟨wX0.heap.size, 0, none⟩ = some (.slice Av mv cv) ∧ WX.cell? ⟨wX0.heap.size, 1, none⟩ = some (.slice Ad md cd) ∧ WX.cell? ⟨wX0.heap.size, 2, none⟩ = some (.slice A j c) := ⟨cell_of_row WX _ 0 _ _ (0, 0) eX, cell_of_row WX _ 1 _ _ (0, 0) eX, cell_of_row WX _ 2 _ _ (0, 0) eX⟩
        have lxu : w1.heap.size < WX.heap.size := by omega
        have lxr : g7 < WX.heap.size := by have := heap_lt hB.out; omega
        have lxx : wX0.heap.size < WX.heap.size := by omega
        have HBX := Lib.hid (hBwr.trans (bX.mono hBwr.size))
        have HWX := Lib.hid hWX
        clear hvr hvx hb1r hBwr hq hq1 hq2 bX zX eX eR b1X hBW2 HKW HV HB2 HBW HST8 HST9 HU7 hWX hR hBl x2 v0 v1 v2
        go_wp2_with fail
        rw [HWX.out]
        clear HWX
        go_loopw [10] (fun i V => ∃ a : Nat, a ≤ 10 ∧ i = .int .i64 (a : Int) ∧ Hid (Below WX.heap.size WX V)) (fun i _ => 10 - (intOf i).toNat)
        case atStart => exact ⟨0, by omega, rfl, Below.refl _ _⟩
        case round =>
          obtain ⟨a, ha, rfl, hBa⟩ := hrel
          have B : Below WX.heap.size WX wr := hBa.out
          by_cases ha10 : a < 10
          · obtain ⟨z, hz⟩ : ∃ z, TY.vName a = z := ⟨_, rfl⟩
            have hz2 : z.size ≤ 1000 := hz ▸ name_small a
            have NY := Lib.hid (fun V => hz ▸ nameY a ha10 V)
            have hidx := TY.idx_ren (sfx_inj sx) u.vars z
            obtain ⟨p, hp⟩ : ∃ p, TY.idx u.vars z = p := ⟨_, rfl⟩
            rw [hp] at hidx
            have hvr2 : (u.ren (sfx sx)).vars = u.vars.map (sfx sx) := by
              show u.dur.map (sfx sx) ++ u.vol.map (sfx sx) = _
              rw [← List.map_append]
              rfl
            have I1 := Lib.hid (fun (V : World) (hV : Below WX.heap.size WX V) => (show TY.idx (u.ren (sfx sx)).vars (z ++ sx) = p by rw [hvr2]; exact hidx) ▸ IXR.out V hV (z ++ sx))
            have I2 := Lib.hid (fun (V : World) (hV : Below WX.heap.size WX V) => hp ▸ IXU.out V hV z)
            have pp : (p != p) = false := by simp
            have hcs : ¬ (9223372036854775807 < z.size + sx.size) := by omega
            have hcs2 : z.size + sx.size ≤ 9223372036854775807 := by omega
            clear hz hidx hp hvr2
            go_wp2_with fail
            go_region_held3 (fun V => V.cell? ⟨g7, 0, none⟩ = some (.slice A8 md c8) ∧ V.cell? ⟨g7, 1, none⟩ = some (.slice A9 mv c9) ∧ V.cell? ⟨g7, 2, none⟩ = some (.slice Aj j cj) ∧ V.cell? ⟨w1.heap.size, 0, none⟩ = some (.slice Ad md cd) ∧ V.cell? ⟨w1.heap.size, 1, none⟩ = some (.slice Av mv cv) ∧ V.cell? ⟨w1.heap.size, 2, none⟩ = some (.slice A j c))
              (first | exact ⟨(B.cell (p := ⟨g7, 0, none⟩) lxr).trans xr0, (B.cell (p := ⟨g7, 1, none⟩) lxr).trans xr1, (B.cell (p := ⟨g7, 2, none⟩) lxr).trans xr2, (B.cell (p := ⟨w1.heap.size, 0, none⟩) lxu).trans xu0, (B.cell (p := ⟨w1.heap.size, 1, none⟩) lxu).trans xu1, (B.cell (p := ⟨w1.heap.size, 2, none⟩) lxu).trans xu2⟩ | exact ⟨(B.drew.cell (p := ⟨g7, 0, none⟩) lxr).trans xr0, (B.drew.cell (p := ⟨g7, 1, none⟩) lxr).trans xr1, (B.drew.cell (p := ⟨g7, 2, none⟩) lxr).trans xr2, (B.drew.cell (p := ⟨w1.heap.size, 0, none⟩) lxu).trans xu0, (B.drew.cell (p := ⟨w1.heap.size, 1, none⟩) lxu).trans xu1, (B.drew.cell (p := ⟨w1.heap.size, 2, none⟩) lxu).trans xu2⟩)
              (first
                | (go_at_call 25; refine (NY.out _).mono ?_; rintro e w5 ⟨rfl, rfl⟩)
                | (go_at_call 24; ((with_reducible refine (I1.out _ ?_).mono ?_); focus (first | exact B | exact B.drew)); rintro e w5 ⟨rfl, hb⟩; (first | have B := B.trans (hb.mono B.size) | have B := B.drew.trans (hb.mono B.size)); clear hb)
                | (go_at_call 24; ((with_reducible refine (I2.out _ ?_).mono ?_); focus (first | exact B | exact B.drew)); rintro e w5 ⟨rfl, hb⟩; (first | have B := B.trans (hb.mono B.size) | have B := B.drew.trans (hb.mono B.size)); clear hb))
            all_goals
              go_wp2_with fail
              go_roundw
              case rel => exact ⟨a + 1, by omega, by go_num, B⟩
              case measure => simp [intOf]; omega
          · go_wp2_with fail
            go_region_held3 (fun V => V.cell? ⟨g7, 0, none⟩ = some (.slice A8 md c8) ∧ V.cell? ⟨g7, 1, none⟩ = some (.slice A9 mv c9) ∧ V.cell? ⟨g7, 2, none⟩ = some (.slice Aj j cj) ∧ V.cell? ⟨w1.heap.size, 0, none⟩ = some (.slice Ad md cd) ∧ V.cell? ⟨w1.heap.size, 1, none⟩ = some (.slice Av mv cv) ∧ V.cell? ⟨w1.heap.size, 2, none⟩ = some (.slice A j c) ∧ V.cell? ⟨wX0.heap.size, 0, none⟩ = some (.slice Av mv cv) ∧ V.cell? ⟨wX0.heap.size, 1, none⟩ = some (.slice Ad md cd) ∧ V.cell? ⟨wX0.heap.size, 2, none⟩ = some (.slice A j c))
              (first | exact ⟨(B.cell (p := ⟨g7, 0, none⟩) lxr).trans xr0, (B.cell (p := ⟨g7, 1, none⟩) lxr).trans xr1, (B.cell (p := ⟨g7, 2, none⟩) lxr).trans xr2, (B.cell (p := ⟨w1.heap.size, 0, none⟩) lxu).trans xu0, (B.cell (p := ⟨w1.heap.size, 1, none⟩) lxu).trans xu1, (B.cell (p := ⟨w1.heap.size, 2, none⟩) lxu).trans xu2, (B.cell (p := ⟨wX0.heap.size, 0, none⟩) lxx).trans xx0, (B.cell (p := ⟨wX0.heap.size, 1, none⟩) lxx).trans xx1, (B.cell (p := ⟨wX0.heap.size, 2, none⟩) lxx).trans xx2⟩)
              (first
                | (go_at_call 16; ((with_reducible refine (CKR.out _ ?_).mono ?_); focus (first | exact B | exact B.drew)); rintro e w5 ⟨rfl, hb⟩; (first | have B := B.trans (hb.mono B.size) | have B := B.drew.trans (hb.mono B.size)); clear hb)
                | (go_at_call 16; ((with_reducible refine (CKU.out _ ?_).mono ?_); focus (first | exact B | exact B.drew)); rintro e w5 ⟨rfl, hb⟩; (first | have B := B.trans (hb.mono B.size) | have B := B.drew.trans (hb.mono B.size)); clear hb)
                | (go_at_call 16; ((with_reducible refine (CKX.out _ ?_).mono ?_); focus (first | exact B | exact B.drew)); rintro e w5 ⟨rfl, hb⟩; (first | have B := B.trans (hb.mono B.size) | have B := B.drew.trans (hb.mono B.size)); clear hb)
                | (go_at_call 14; ((with_reducible refine (LV.out _ ?_).mono ?_); focus (first | exact B | exact B.drew)); rintro e w5 ⟨rfl, hb⟩; (first | have B := B.trans (hb.mono B.size) | have B := B.drew.trans (hb.mono B.size)); clear hb))
            all_goals
              go_wp2_with fail
              go_ret
              exact ⟨rfl, HBX.out.trans (B.mono HBX.out.size)⟩
end Go.Proofs.Ytofeidacffabdaa.LawTypesRenaming
