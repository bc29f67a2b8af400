/-
  The walk of DiskWrites. No condition.
-/
import Derived.Test.YtgdefhlcgmibcaaDkP
namespace Go.Proofs.Ytgdefhlcgmibcaa.LawDiskWrites
open Go Go.RowKit Go.Proofs Go.Proofs.Ytgdefhlcgmibcaa
attribute [local go_sem] Oper.semAt_some

theorem write_at {d : DK.Dk} {c v x : Int} {i : Nat} (hx : (DK.view d)[i]? = some x) : (DK.view (DK.write d c v))[i]? = some (if (i : Int) = c then v else x) := by
  have hi : i < d.cells.length := by rw [← DK.view_len d]; exact (List.getElem?_eq_some_iff.1 hx).1
  rw [DK.view_write]
  by_cases h : (i : Int) = c
  · subst h
    rw [if_pos (by omega), if_pos rfl, Int.toNat_natCast, List.getElem?_set_self (by rw [DK.view_len]; exact hi)]
  · rw [if_neg h]
    split
    · rw [List.getElem?_set_ne (by omega)]
      exact hx
    · exact hx
theorem row_cell {V : World} {g i : Nat} {l : List Int} {x : Int} (hg : V.heap[g]? = some (.cells (DK.intsC l).toArray 3 (0, 0))) (hx : l[i]? = some x) : V.cell? ⟨g, i, none⟩ = some (.int .i64 x) := by
  rw [cell_of_row V g i _ _ (0, 0) hg, List.getElem?_toArray]
  unfold DK.intsC
  rw [List.getElem?_map, hx]
  rfl
set_option maxHeartbeats 8000000 in
set_option maxRecDepth 100000 in
theorem walk (a0 : Int) (a1 : Option Addr) (len1 cap1 : Nat) (z1 : List Int) (a2 a3 : Int) (w : World) (w0 : (Lit.int .i64 a0).wf = true) (w1 : Row .i64 w a1 len1 cap1 z1) (w2 : (Lit.int .i64 a2).wf = true) (_ : (Lit.int .i64 a3).wf = true) :
    Calls Try.prog 4 #[.int .i64 a0, .slice a1 len1 cap1, .int .i64 a2, .int .i64 a3] w fun e w' => e = .returned (.bool true) ∧ Below w.heap.size w w' := by
  have hc2 : I64 a2 := by have := bounds_i64 w2; unfold I64; omega
  obtain ⟨d, HBU, hok⟩ := built_got cap1 w w0 w1
  clear w0 w1 w2
  have HD := Lib.hid hok
  have hn16 : d.cells.length ≤ 16 := hok.size
  clear hok
  have HA := Lib.hid (fun V => around_any a2 ((d.cells.length : Int) + 2) hc2 (by omega) (by omega) V)
  obtain ⟨hr0, hr1⟩ := around_in a2 ((d.cells.length : Int) + 2) (by omega)
  obtain ⟨kk, hkk⟩ : ∃ kk, around a2 ((d.cells.length : Int) + 2) = kk := ⟨_, rfl⟩
  rw [hkk] at HA hr0 hr1
  clear hkk hc2
  go_enter Try.func4, Try.ntmps4
  go_upto_region 2 with (first | (go_at_call 22; refine HBU.out.mono ?_; rintro e w2 ⟨⟨y, rfl, A2, n2, c2, P2, m2, q2, rfl, j1, j2⟩, hb2⟩; have HJ := Lib.hid (And.intro (show DkAt 0 w2 (.agg #[.slice A2 n2 c2, .slice P2 m2 q2]) d from ⟨A2, n2, c2, P2, m2, q2, rfl, j1.more (Nat.zero_le _), j2.more (Nat.zero_le _)⟩) (And.intro hb2 (And.intro j1.len j2.len))); clear j1 j2 hb2) | (refine dk_store rfl _ _ rfl w2.heap.size A2 n2 c2 P2 m2 q2 _ _ rfl rfl (dk_new_at rfl) ?_; intro w3 k3 ho3 hz3 hb3))
  obtain ⟨rfl, rfl⟩ := HJ.out.2.2
  have H3 := Lib.hid (And.intro k3 (And.intro (HJ.out.1.keep ((dk_box w2 _).trans hb3)) (HJ.out.2.1.trans (((dk_box w2 _).trans hb3).mono HJ.out.2.1.size))))
  have HK3 := Lib.hid (fun (V : World) (hV : Below w3.heap.size w3 V) => dk_two ((hV.block _ (blk_lt H3.out.1)).trans H3.out.1))
  clear k3 ho3 hz3 hb3 HBU
  obtain ⟨d0, d1⟩ := HK3.out w3 (Below.refl _ _)
  obtain ⟨U, hU⟩ : ∃ U, w3.alloc (.cells #[.int .i64 (kk - 1), .int .i64 a2] 3) = U := ⟨_, rfl⟩
  have HBU2 := Lib.hid (show Below w3.heap.size w3 U from hU ▸ dk_box w3 _)
  have HPL := Lib.hid (show U.heap[w3.heap.size]? = some (.cells #[.int .i64 (kk - 1), .int .i64 a2] 3 (0, 0)) by rw [← hU]; exact dk_new_at rfl)
  have hw1 : IntKind.i64.wrap ((d.cells.length : Int) + 2) = (d.cells.length : Int) + 2 := IntWalk.i64_in _ (by omega)
  have hw2 : IntKind.i64.wrap (kk - 1) = kk - 1 := IntWalk.i64_in _ (by omega)
  go_wp2_with (go_at_call 11; refine (HA.out _).mono ?_; rintro e w4 ⟨rfl, rfl⟩)
  clear hU d0 d1 hw1 hw2 hr0 hr1 HA
  go_loopw [13] (fun i V => ∃ p : Nat, p ≤ 2 ∧ i = .int .i64 (p : Int) ∧ Hid (Below U.heap.size U V)) (fun i _ => 2 - (intOf i).toNat)
  case atStart => exact ⟨0, by omega, rfl, Below.refl _ _⟩
  case round =>
    obtain ⟨p, hp, rfl, HV⟩ := hrel
    by_cases hin : p < 2
    · have dp : decide (p < 2) = true := decide_eq_true hin
      obtain ⟨c, hc⟩ : ∃ c, wr.cell? ⟨w3.heap.size, p, none⟩ = some (.int .i64 c) := by
        have h := (HV.out.block _ (blk_lt HPL.out)).trans HPL.out
        rcases (by omega : p = 0 ∨ p = 1) with rfl | rfl
        · exact ⟨_, cell_of_row wr _ 0 _ _ (0, 0) h⟩
        · exact ⟨_, cell_of_row wr _ 1 _ _ (0, 0) h⟩
      have HVB := Lib.hid (HBU2.out.trans (HV.out.mono HBU2.out.size))
      obtain ⟨d0, d1⟩ := HK3.out wr HVB.out
      have HWR := Lib.hid (write_any c a3 wr (H3.out.2.1.keep HVB.out) (by omega) (by have := HD.out.pend; omega))
      have HOK := Lib.hid (DK.ok_write c a3 HD.out)
      go_upto_region 10 with (first | (go_at_call 23; refine HWR.out.mono ?_; rintro e w5 ⟨⟨y, rfl, A5, n5, c5, P5, m5, q5, rfl, j1, j2⟩, hb5⟩; have HJ5 := Lib.hid (And.intro (show DkAt 0 w5 (.agg #[.slice A5 n5 c5, .slice P5 m5 q5]) (DK.write d c a3) from ⟨A5, n5, c5, P5, m5, q5, rfl, j1.more (Nat.zero_le _), j2.more (Nat.zero_le _)⟩) (And.intro hb5 (show n5 = d.cells.length from j1.len.symm.trans (DK.write_len _ _ _)))); clear j1 j2 hb5) | (refine dk_store rfl _ _ rfl w5.heap.size A5 n5 c5 P5 m5 q5 _ _ rfl rfl (dk_new_at rfl) ?_; intro w6 k6 ho6 hz6 hb6))
      have H6 := Lib.hid (And.intro k6 (And.intro (HJ5.out.1.keep ((dk_box w5 _).trans hb6)) (HJ5.out.2.1.trans (((dk_box w5 _).trans hb6).mono HJ5.out.2.1.size))))
      clear k6 ho6 hz6 hb6 hc d0 d1 HWR
      obtain ⟨d0, d1⟩ := HK3.out w6 (HVB.out.trans (H6.out.2.2.mono HVB.out.size))
      have HV7 := Lib.hid (view_any w6 ((H3.out.2.1.keep HVB.out).keep H6.out.2.2) (by omega) (by have := HD.out.pend; omega))
      go_upto_region 11 with (go_at_call 19; refine HV7.out.mono ?_; rintro e w7 ⟨⟨gW, rfl, lW, kW⟩, hb7⟩)
      have H7 := Lib.hid (And.intro hb7 kW)
      clear d0 d1 lW kW hb7 HV7
      obtain ⟨d0, d1⟩ := dk_two ((H7.out.1.block _ (blk_lt H6.out.1)).trans H6.out.1)
      have hwl : (DK.write d c a3).cells.length = d.cells.length := DK.write_len _ _ _
      have HV8 := Lib.hid (view_any w7 (H6.out.2.1.keep H7.out.1) (by omega) (by have := HOK.out.pend; omega))
      rw [hwl] at HV8
      go_upto_region 12 with (go_at_call 19; refine HV8.out.mono ?_; rintro e w8 ⟨⟨gN, rfl, lN, kN⟩, hb8⟩)
      have H8 := Lib.hid (And.intro hb8 (And.intro kN ((hb8.block _ (blk_lt H7.out.2)).trans H7.out.2)))
      clear d0 d1 lN kN hb8 HV8
      have H68 := Lib.hid (H7.out.1.trans (H8.out.1.mono H7.out.1.size))
      have H38 := Lib.hid (HVB.out.trans ((H6.out.2.2.trans (H68.out.mono H6.out.2.2.size)).mono HVB.out.size))
      obtain ⟨d0, d1⟩ := HK3.out w8 H38.out
      obtain ⟨e0, e1⟩ := dk_two ((H68.out.block _ (blk_lt H6.out.1)).trans H6.out.1)
      have HU8 := Lib.hid (show Below U.heap.size U w8 from HV.out.trans ((H6.out.2.2.trans (H68.out.mono H6.out.2.2.size)).mono HV.out.size))
      have hne1 : ((d.cells.length : Int) != (d.cells.length : Int)) = false := by simp
      by_cases hr : 0 ≤ c ∧ c < (d.cells.length : Int)
      · have g0 : decide (c < 0) = false := decide_eq_false (by omega)
        have g1 : decide (c ≥ (d.cells.length : Int)) = false := decide_eq_false (by omega)
        clear hr
        go_wp2_with fail
        obtain ⟨wo, hwo⟩ : ∃ W, W = wr := ⟨_, rfl⟩
        subst hwo
        have HW9 := Lib.hid (show Below U.heap.size U w8 from HU8.out)
        have hgW := H8.out.2.2
        have hgN := H8.out.2.1
        have HGN := Lib.hid (And.intro hgW hgN)
        clear hgW hgN d0 d1 e0 e1 hne1
        go_loopw [18] (fun i V => ∃ j : Nat, j ≤ d.cells.length ∧ i = .int .i64 (j : Int) ∧ V = w8) (fun i _ => d.cells.length - (intOf i).toNat)
        case atStart => exact ⟨0, by omega, rfl, rfl⟩
        case round =>
          obtain ⟨j, hj, rfl, rfl⟩ := hrel
          by_cases hjn : j < d.cells.length
          · have dj : decide (j < d.cells.length) = true := decide_eq_true hjn
            obtain ⟨x, hx⟩ : ∃ x, (DK.view d)[j]? = some x := ⟨_, List.getElem?_eq_getElem (by rw [DK.view_len]; exact hjn)⟩
            have c1 := row_cell HGN.out.1 hx
            have c2 := row_cell HGN.out.2 (write_at (c := c) (v := a3) hx)
            clear hx
            by_cases hjc : (j : Int) = c
            · rw [if_pos hjc] at c2
              have e1 : ((j : Int) == c) = true := by simpa using hjc
              have e2 : (a3 != a3) = false := by simp
              clear hjc
              go_wp2_with fail
              go_roundw
              case rel => exact ⟨j + 1, by omega, by go_num, trivial⟩
              case measure => simp [intOf]; omega
            · rw [if_neg hjc] at c2
              have e1 : ((j : Int) == c) = false := by simpa using hjc
              have e2 : (x != x) = false := by simp
              clear hjc
              go_wp2_with fail
              go_roundw
              case rel => exact ⟨j + 1, by omega, by go_num, trivial⟩
              case measure => simp [intOf]; omega
          · have dj : decide (j < d.cells.length) = false := decide_eq_false hjn
            go_wp2_with fail
            go_roundw
            case rel => exact ⟨p + 1, by omega, by go_num, HW9.out⟩
            case measure => simp [intOf]; omega
      · have hwd : DK.write d c a3 = d := by unfold DK.write; exact if_neg hr
        have hs6 := H6.out.2.1.keep H68.out
        rw [hwd] at hs6
        have HSM2 := Lib.hid (same_true w8 (H3.out.2.1.keep H38.out) hs6 HD.out)
        clear hs6
        by_cases h0 : c < 0
        · have g0 : decide (c < 0) = true := decide_eq_true h0
          clear hr hwd
          go_wp2_with (go_at_call 17; refine HSM2.out.mono ?_; rintro e w9 ⟨rfl, hb9⟩; have H9 := Lib.hid hb9; clear hb9)
          obtain ⟨wo, hwo⟩ : ∃ W, W = wr := ⟨_, rfl⟩
          subst hwo
          have HW9 := Lib.hid (show Below U.heap.size U w9 from HU8.out.trans (H9.out.mono HU8.out.size))
          have hgW := (H9.out.block _ (blk_lt H8.out.2.2)).trans H8.out.2.2
          have hgN := (H9.out.block _ (blk_lt H8.out.2.1)).trans H8.out.2.1
          have HGN := Lib.hid (And.intro hgW hgN)
          clear hgW hgN d0 d1 e0 e1 hne1
          go_loopw [18] (fun i V => ∃ j : Nat, j ≤ d.cells.length ∧ i = .int .i64 (j : Int) ∧ V = w9) (fun i _ => d.cells.length - (intOf i).toNat)
          case atStart => exact ⟨0, by omega, rfl, rfl⟩
          case round =>
            obtain ⟨j, hj, rfl, rfl⟩ := hrel
            by_cases hjn : j < d.cells.length
            · have dj : decide (j < d.cells.length) = true := decide_eq_true hjn
              obtain ⟨x, hx⟩ : ∃ x, (DK.view d)[j]? = some x := ⟨_, List.getElem?_eq_getElem (by rw [DK.view_len]; exact hjn)⟩
              have c1 := row_cell HGN.out.1 hx
              have c2 := row_cell HGN.out.2 (write_at (c := c) (v := a3) hx)
              clear hx
              by_cases hjc : (j : Int) = c
              · rw [if_pos hjc] at c2
                have e1 : ((j : Int) == c) = true := by simpa using hjc
                have e2 : (a3 != a3) = false := by simp
                clear hjc
                go_wp2_with fail
                go_roundw
                case rel => exact ⟨j + 1, by omega, by go_num, trivial⟩
                case measure => simp [intOf]; omega
              · rw [if_neg hjc] at c2
                have e1 : ((j : Int) == c) = false := by simpa using hjc
                have e2 : (x != x) = false := by simp
                clear hjc
                go_wp2_with fail
                go_roundw
                case rel => exact ⟨j + 1, by omega, by go_num, trivial⟩
                case measure => simp [intOf]; omega
            · have dj : decide (j < d.cells.length) = false := decide_eq_false hjn
              go_wp2_with fail
              go_roundw
              case rel => exact ⟨p + 1, by omega, by go_num, HW9.out⟩
              case measure => simp [intOf]; omega
        · have g0 : decide (c < 0) = false := decide_eq_false h0
          have g1 : decide (c ≥ (d.cells.length : Int)) = true := decide_eq_true (by omega)
          clear hr hwd
          go_wp2_with (go_at_call 17; refine HSM2.out.mono ?_; rintro e w9 ⟨rfl, hb9⟩; have H9 := Lib.hid hb9; clear hb9)
          obtain ⟨wo, hwo⟩ : ∃ W, W = wr := ⟨_, rfl⟩
          subst hwo
          have HW9 := Lib.hid (show Below U.heap.size U w9 from HU8.out.trans (H9.out.mono HU8.out.size))
          have hgW := (H9.out.block _ (blk_lt H8.out.2.2)).trans H8.out.2.2
          have hgN := (H9.out.block _ (blk_lt H8.out.2.1)).trans H8.out.2.1
          have HGN := Lib.hid (And.intro hgW hgN)
          clear hgW hgN d0 d1 e0 e1 hne1
          go_loopw [18] (fun i V => ∃ j : Nat, j ≤ d.cells.length ∧ i = .int .i64 (j : Int) ∧ V = w9) (fun i _ => d.cells.length - (intOf i).toNat)
          case atStart => exact ⟨0, by omega, rfl, rfl⟩
          case round =>
            obtain ⟨j, hj, rfl, rfl⟩ := hrel
            by_cases hjn : j < d.cells.length
            · have dj : decide (j < d.cells.length) = true := decide_eq_true hjn
              obtain ⟨x, hx⟩ : ∃ x, (DK.view d)[j]? = some x := ⟨_, List.getElem?_eq_getElem (by rw [DK.view_len]; exact hjn)⟩
              have c1 := row_cell HGN.out.1 hx
              have c2 := row_cell HGN.out.2 (write_at (c := c) (v := a3) hx)
              clear hx
              by_cases hjc : (j : Int) = c
              · rw [if_pos hjc] at c2
                have e1 : ((j : Int) == c) = true := by simpa using hjc
                have e2 : (a3 != a3) = false := by simp
                clear hjc
                go_wp2_with fail
                go_roundw
                case rel => exact ⟨j + 1, by omega, by go_num, trivial⟩
                case measure => simp [intOf]; omega
              · rw [if_neg hjc] at c2
                have e1 : ((j : Int) == c) = false := by simpa using hjc
                have e2 : (x != x) = false := by simp
                clear hjc
                go_wp2_with fail
                go_roundw
                case rel => exact ⟨j + 1, by omega, by go_num, trivial⟩
                case measure => simp [intOf]; omega
            · have dj : decide (j < d.cells.length) = false := decide_eq_false hjn
              go_wp2_with fail
              go_roundw
              case rel => exact ⟨p + 1, by omega, by go_num, HW9.out⟩
              case measure => simp [intOf]; omega
    · have dp : decide (p < 2) = false := decide_eq_false hin
      go_wp2_with (go_at_call 21; refine (lives_any _).mono ?_; rintro e w9 ⟨rfl, hb9⟩)
      go_ret
      have h3 := HBU2.out.trans (HV.out.mono HBU2.out.size)
      have h4 := h3.trans (hb9.mono h3.size)
      exact ⟨rfl, H3.out.2.2.trans (h4.mono H3.out.2.2.size)⟩
end Go.Proofs.Ytgdefhlcgmibcaa.LawDiskWrites
