/-
  The reference's Crash, Resize and Write. Conditions: the lengths; the writes' cells are there.
-/
import Derived.Test.YtgdefhlcgmibcaaDkF
namespace Go.Proofs.Ytgdefhlcgmibcaa
open Go Go.RowKit Go.Proofs
attribute [local go_sem] Oper.semAt_some

def dkLen : Value → Nat
  | .slice _ n _ => n
  | _ => 0
theorem rep_more {L : List Int} {s nn : Nat} (h : nn ≤ s) : DK.intsC (L ++ List.replicate (s + 1 - nn) 0) = DK.intsC (L ++ List.replicate (s - nn) 0) ++ [.int .i64 0] := by
  rw [show s + 1 - nn = (s - nn) + 1 by omega, List.replicate_succ', ← List.append_assoc]
  unfold DK.intsC
  rw [List.map_append]
  rfl
/-- A write in a new row. -/
theorem one_wr (Z : World) (a v : Int) : ∃ Y, Z.alloc (.cells #[.int .i64 a, .int .i64 v] 46) = Y ∧ Below Z.heap.size Z Y ∧ RgX.Src Y (some ⟨Z.heap.size, 0, none⟩) 1 1 (DK.wrC (a, v)) := by
  have hy := dk_two (show (Z.alloc (.cells #[.int .i64 a, .int .i64 v] 46)).heap[Z.heap.size]? = some (.cells #[.int .i64 a, .int .i64 v] 46 (0, 0)) from dk_new_at rfl)
  exact ⟨_, rfl, dk_box Z _, .inr ⟨_, rfl, fun j u hu => by
    match j, hu with
    | 0, hu => injection hu with hu; subst hu; exact hy.1
    | 1, hu => injection hu with hu; subst hu; exact hy.2⟩⟩
theorem wrC_one (a v : Int) : ∀ u ∈ DK.wrC (a, v), u.oneCell' = true := by
  intro u hu
  simp [DK.wrC] at hu
  rcases hu with rfl | rfl <;> rfl
set_option maxHeartbeats 4000000 in
set_option maxRecDepth 100000 in
theorem refCrash_any {lo lo' kn kc : Nat} {K : Option Addr} {bs : List Bool} {x : Value} {d : DK.Dk} (w : World) (h : DkAt lo w x d) (hbl : Bls lo' w K kn kc bs) (hin : DK.In d) (bn : d.cells.length ≤ 1000) (bm : d.pend.length ≤ 1000) : Calls Try.prog 32 #[x, .slice K kn kc] w fun e w' => (∃ y, e = .returned y ∧ DkAt w.heap.size w' y (DK.crash d bs)) ∧ Below w.heap.size w w' := by
  obtain ⟨A, n, c, P, m, q, rfl, h1, h2⟩ := h
  obtain ⟨U, hU, hbu, k0, k1, hz⟩ := dk_two_boxes w (.cells #[.slice A n c, .slice P m q] 26) (.cells #[.slice none 0 0, .slice none 0 0] 26)
  obtain ⟨c0, c1⟩ := dk_two k0
  have HK := Lib.hid (fun (V : World) (hV : Below U.heap.size U V) => dk_two ((hV.block _ (by omega)).trans k0))
  have HF := Lib.hid (fun (V : World) (hV : Below U.heap.size U V) => (hV.block _ (by omega)).trans k1)
  obtain ⟨i0, hi, hz0, hz1, hz2⟩ := dk_info dk_wr
  have HX := Lib.hid (fun (V : World) (hV : Below U.heap.size U V) => And.intro ((h1.keep hbu).keep hV) (And.intro ((h2.keep hbu).keep hV) ((hbl.keep hbu).keep hV)))
  have HB := Lib.hid (And.intro hbu hz)
  have HN := Lib.hid (And.intro h1.len (And.intro h2.len (And.intro hbl.len (show ∀ x ∈ d.pend, 0 ≤ x.1 ∧ x.1 < (n : Int) by rw [← h1.len]; exact hin))))
  have HI := Lib.hid (And.intro hi (And.intro hz0 (And.intro hz1 hz2)))
  have hm3 : m ≤ 1000 := by rw [← h2.len]; exact bm
  have hn3 : n ≤ 1000 := by rw [← h1.len]; exact bn
  clear k0 k1 hbu hz h1 h2 hbl hi hz0 hz1 hz2 hin
  go_enter Try.func32, Try.ntmps32
  go_wp2_with fail
  clear hU
  go_loopw [5, 6] (fun o i V => ∃ k : Nat, k ≤ m ∧ k ≤ kn ∧ i = .int .i64 (k : Int) ∧ (∃ B r, o = .slice B (DK.kept bs (d.pend.take k)).length r) ∧ Hid (V.ownsRow U.heap.size 46 2 o (DK.kept bs (d.pend.take k)).length (DK.wrsC (DK.kept bs (d.pend.take k)))) ∧ Hid (Below U.heap.size U V)) (fun _ i _ => m - (intOf i).toNat)
  case atStart => exact ⟨0, by omega, by omega, rfl, ⟨none, 0, by simp [DK.kept_none']⟩, show World.ownsRow _ _ _ _ _ _ _ by simp [DK.kept_none', DK.wrsC]; exact ⟨rfl, .inl ⟨rfl, rfl⟩⟩, Below.refl _ _⟩
  case round =>
    obtain ⟨k, hk, hkn, rfl, ⟨B, r, rfl⟩, HO, HV⟩ := hrel
    obtain ⟨d0, d1⟩ := HK.out wr HV.out
    clear c0 c1
    have HE := Lib.hid (show k = m ∨ k = kn → DK.kept bs (d.pend.take k) = DK.kept bs d.pend from fun h => by
      rcases h with h | h
      · rw [List.take_of_length_le (by rw [HN.out.2.1]; omega)]
      · exact (DK.kept_short (by rw [HN.out.2.2.1]; omega)).symm)
    have HKL := Lib.hid (show (DK.kept bs (d.pend.take k)).length ≤ 1000 from Nat.le_trans (DK.kept_len bs (d.pend.take k)) (by rw [List.length_take]; omega))
    by_cases hin : k < m
    · have dk : decide (k < m) = true := decide_eq_true hin
      by_cases hin2 : k < kn
      · have dk2 : decide (k < kn) = true := decide_eq_true hin2
        obtain ⟨g, off, a, v, rfl, hlo, hg, hxk, p0, p1⟩ := ((HX.out wr HV.out).2.1).at_ hin
        obtain ⟨gb, ob, b, rfl, hlb, hgb, hbk, pb⟩ := ((HX.out wr HV.out).2.2).at_ hin2
        have HS := Lib.hid (show DK.kept bs (d.pend.take (k + 1)) = DK.kept bs (d.pend.take k) ++ (if b then [(a, v)] else []) by rw [DK.kept_step hxk, hbk]; rfl)
        clear hxk hbk hlo hlb HE
        obtain ⟨K, hK⟩ : ∃ K, DK.kept bs (d.pend.take k) = K := ⟨_, rfl⟩
        rw [hK] at HS HO HKL ⊢
        clear hK
        cases b with
        | true =>
          obtain ⟨Y, hY, hbY, hsrc⟩ := one_wr wr a v
          have HY := Lib.hid (And.intro (dk_own_keep HO.out hbY) (And.intro hsrc (And.intro (HV.out.trans (hbY.mono HV.out.size)) (HV.out.trans (hbY.mono HV.out.size)).size)))
          have HM := Lib.hid (And.intro (show K.length + 1 ≤ maxLen by have := HKL.out; simp only [maxLen]; omega) (show (K.length + 1) * 16 ≤ 140737488355328 by have := HKL.out; omega))
          clear hbY hsrc
          go_wp2_with (at_builtin; refine RgX.wpList_append_any rfl _ _ 24 rfl U.heap.size 46 i0 _ 2 16 Try.underlying24 HI.out.1 HI.out.2.1 HI.out.2.2.1 HI.out.2.2.2 rfl (by decide) _ K.length (DK.wrsC K) rfl HY.out.1 (some ⟨wr.heap.size, 0, none⟩) 1 1 (DK.wrC (a, v)) rfl rfl HY.out.2.1 (wrC_one a v) HM.out.1 HM.out.2 HY.out.2.2.2 ?_; intro B2 r2 Z2 ho2 hg2)
          go_roundw
          case rel =>
            refine ⟨k + 1, by omega, by omega, by go_num, ⟨B2, r2, by rw [HS.out, List.length_append]; rfl⟩, show World.ownsRow _ _ _ _ _ _ _ by rw [HS.out, if_pos rfl, DK.wrsC_app, List.length_append]; exact ho2, dk_grown HY.out.1 HY.out.2.2.1 hg2 HY.out.2.2.2⟩
          case measure => simp [intOf]; omega
        | false =>
          have HS2 := Lib.hid (show DK.kept bs (d.pend.take (k + 1)) = K by rw [HS.out]; simp)
          go_wp2_with fail
          go_roundw
          case rel => exact ⟨k + 1, by omega, by omega, by go_num, ⟨B, r, by rw [HS2.out]⟩, show World.ownsRow _ _ _ _ _ _ _ by rw [HS2.out]; exact HO.out, HV.out⟩
          case measure => simp [intOf]; omega
      · have dk2 : decide (k < kn) = false := decide_eq_false hin2
        have HQ := Lib.hid (HE.out (.inr (by omega)))
        rw [HQ.out] at HO HKL ⊢
        have HA := Lib.hid (refAfter_any wr (HX.out wr HV.out).1 (Rw.of_own HO.out : Wrs _ _ _ _ _ _) hn3 HKL.out (fun x hx => HN.out.2.2.2 x (DK.kept_sub _ _ x hx)))
        go_wp2_with (first | (go_at_call 36; refine HA.out.mono ?_; rintro e w2 ⟨⟨B3, r3, rfl, ho3⟩, hb3⟩; have HK3 := Lib.hid (And.intro (show Cls wr.heap.size w2 B3 n r3 _ from Rw.of_own ho3) (And.intro (HV.out.trans (hb3.mono HV.out.size)) hb3)); have HR3 := Lib.hid (HF.out w2 (HV.out.trans (hb3.mono HV.out.size))); clear ho3 hb3) | (refine dk_store rfl _ _ rfl (w.heap.size + 1) B3 n r3 none 0 0 _ _ rfl rfl HR3.out ?_; intro w4 k4 ho4 hz4 hb4))
        refine bodyPost_ret (dk_ret rfl _ rfl k4) rfl ?_
        obtain ⟨hk3, hb3, hb5⟩ := HK3.out
        obtain ⟨hbu, hz⟩ := HB.out
        have s4 := HV.out.size
        exact ⟨⟨_, rfl, _, _, _, _, _, _, rfl, dk_moveC hk3 (fun g hg => ho4 g (by omega)) (by omega), Rw.nil _ _ _ _⟩, (hbu.trans (hb3.mono hbu.size)).trans (hb4.mono (by omega))⟩
    · have dk : decide (k < m) = false := decide_eq_false hin
      have HQ := Lib.hid (HE.out (.inl (by omega)))
      rw [HQ.out] at HO HKL ⊢
      have HA := Lib.hid (refAfter_any wr (HX.out wr HV.out).1 (Rw.of_own HO.out : Wrs _ _ _ _ _ _) hn3 HKL.out (fun x hx => HN.out.2.2.2 x (DK.kept_sub _ _ x hx)))
      go_wp2_with (first | (go_at_call 36; refine HA.out.mono ?_; rintro e w2 ⟨⟨B3, r3, rfl, ho3⟩, hb3⟩; have HK3 := Lib.hid (And.intro (show Cls wr.heap.size w2 B3 n r3 _ from Rw.of_own ho3) (And.intro (HV.out.trans (hb3.mono HV.out.size)) hb3)); have HR3 := Lib.hid (HF.out w2 (HV.out.trans (hb3.mono HV.out.size))); clear ho3 hb3) | (refine dk_store rfl _ _ rfl (w.heap.size + 1) B3 n r3 none 0 0 _ _ rfl rfl HR3.out ?_; intro w4 k4 ho4 hz4 hb4))
      refine bodyPost_ret (dk_ret rfl _ rfl k4) rfl ?_
      obtain ⟨hk3, hb3, hb5⟩ := HK3.out
      obtain ⟨hbu, hz⟩ := HB.out
      have s4 := HV.out.size
      exact ⟨⟨_, rfl, _, _, _, _, _, _, rfl, dk_moveC hk3 (fun g hg => ho4 g (by omega)) (by omega), Rw.nil _ _ _ _⟩, (hbu.trans (hb3.mono hbu.size)).trans (hb4.mono (by omega))⟩
set_option maxHeartbeats 4000000 in
set_option maxRecDepth 100000 in
theorem refResize_any {lo : Nat} {x : Value} {d : DK.Dk} (k : Nat) (hk : k ≤ 16) (w : World) (h : DkAt lo w x d) (hin : DK.In d) (bn : d.cells.length ≤ 1000) (bm : d.pend.length ≤ 1000) : Calls Try.prog 33 #[x, .int .i64 (k : Int)] w fun e w' => (∃ y, e = .returned y ∧ DkAt w.heap.size w' y (DK.resize d k)) ∧ Below w.heap.size w w' := by
  have h0 := h
  obtain ⟨A, n, c, P, m, q, rfl, h1, h2⟩ := h
  obtain ⟨U, hU, hbu, k0, k1, hz⟩ := dk_two_boxes w (.cells #[.slice A n c, .slice P m q] 26) (.cells #[.slice none 0 0, .slice none 0 0] 26)
  obtain ⟨c0, c1⟩ := dk_two k0
  have HK := Lib.hid (fun (V : World) (hV : Below U.heap.size U V) => dk_two ((hV.block _ (by omega)).trans k0))
  have HF := Lib.hid (fun (V : World) (hV : Below U.heap.size U V) => (hV.block _ (by omega)).trans k1)
  obtain ⟨i0, hi, hz0, hz1, hz2⟩ := dk_info dk_int
  have H := Lib.hid (refView_any U (h0.keep hbu) hin bn bm)
  have HB := Lib.hid (And.intro hbu hz)
  have HI := Lib.hid (And.intro hi (And.intro hz0 (And.intro hz1 hz2)))
  have HVL := Lib.hid (DK.view_len d)
  obtain ⟨L, hL⟩ : ∃ L, DK.view d = L := ⟨_, rfl⟩
  obtain ⟨nn, hnn⟩ : ∃ nn, d.cells.length = nn := ⟨_, rfl⟩
  have HD := Lib.hid (show DK.resize d k = ⟨DK.fit L k, []⟩ by rw [← hL]; rfl)
  rw [hL, hnn] at H HVL
  rw [hnn] at bn
  clear k0 k1 hbu hz h0 h1 h2 hi hz0 hz1 hz2 hin hL hnn bm HK
  go_enter Try.func33, Try.ntmps33
  go_wp2_with (go_at_call 20; refine H.out.mono ?_; rintro e w2 ⟨⟨B, r, rfl, ho⟩, hb2⟩)
  have HO := Lib.hid ho
  have HB2 := Lib.hid hb2
  clear hU c0 c1 ho hb2 H
  go_loopw [5] (fun o V => ∃ s : Nat, nn ≤ s ∧ (s ≤ k ∨ s = nn) ∧ (∃ B r, o = .slice B s r) ∧ Hid (V.ownsRow U.heap.size 3 1 o s (DK.intsC (L ++ List.replicate (s - nn) 0))) ∧ Hid (Below U.heap.size U V)) (fun o _ => k - dkLen o)
  case atStart => exact ⟨nn, by omega, .inr rfl, ⟨B, r, rfl⟩, show World.ownsRow _ _ _ _ _ _ _ by simpa using HO.out, HB2.out⟩
  case round =>
    obtain ⟨s, hs1, hs2, ⟨B, r, rfl⟩, HO, HV⟩ := hrel
    by_cases hin : s < k
    · have dk : decide (s < k) = true := decide_eq_true hin
      obtain ⟨Y, hY⟩ : ∃ Y, wr.alloc (.cells #[.int .i64 0] 3) = Y := ⟨_, rfl⟩
      have hbY : Below wr.heap.size wr Y := hY ▸ dk_box wr _
      have kY : Y.heap[wr.heap.size]? = some (.cells #[.int .i64 0] 3 (0, 0)) := by rw [← hY]; exact dk_new_at rfl
      have hsrc : RgX.Src Y (some ⟨wr.heap.size, 0, none⟩) 1 1 [.int .i64 0] := .inr ⟨_, rfl, fun j u hu => by
        match j, hu with
        | 0, hu => injection hu with hu; subst hu; exact cell_of_row Y wr.heap.size 0 _ _ (0, 0) kY⟩
      have HY := Lib.hid (And.intro (dk_own_keep HO.out hbY) (And.intro hsrc (And.intro (HV.out.trans (hbY.mono HV.out.size)) (HV.out.trans (hbY.mono HV.out.size)).size)))
      have HM := Lib.hid (And.intro (show s + 1 ≤ maxLen by simp only [maxLen]; omega) (show (s + 1) * 8 ≤ 140737488355328 by omega))
      have H1 := Lib.hid (show ∀ u ∈ [Value.int .i64 0], u.oneCell' = true by intro u hu; simp at hu; rw [hu]; rfl)
      clear hbY kY hsrc
      go_wp2_with (at_builtin; refine RgX.wpList_append_any rfl _ _ 22 rfl U.heap.size 3 i0 _ 1 8 Try.underlying22 HI.out.1 HI.out.2.1 HI.out.2.2.1 HI.out.2.2.2 rfl (by decide) _ s (DK.intsC (L ++ List.replicate (s - nn) 0)) rfl HY.out.1 (some ⟨wr.heap.size, 0, none⟩) 1 1 [.int .i64 0] rfl rfl HY.out.2.1 H1.out HM.out.1 HM.out.2 HY.out.2.2.2 ?_; intro B2 r2 Z2 ho2 hg2)
      go_roundw
      case rel => exact ⟨s + 1, by omega, .inl hin, ⟨B2, r2, rfl⟩, show World.ownsRow _ _ _ _ _ _ _ by rw [rep_more hs1]; exact ho2, dk_grown HY.out.1 HY.out.2.2.1 hg2 HY.out.2.2.2⟩
      case measure => show k - (s + 1) < k - s; omega
    · have dk : decide (s < k) = false := decide_eq_false hin
      have HC := Lib.hid (show Cls U.heap.size wr B s r (L ++ List.replicate (s - nn) 0) from Rw.of_own HO.out)
      obtain ⟨hcap1, hcap2⟩ : s ≤ r ∧ k ≤ r := by have := Rw.le HC.out; omega
      have HFI := Lib.hid (show (L ++ List.replicate (s - nn) 0).take k = DK.fit L k by
        unfold DK.fit
        have hl := HVL.out
        rcases Nat.lt_or_ge k nn with h | h
        · obtain rfl : s = nn := by omega
          rw [Nat.sub_self, List.replicate_zero, List.append_nil, show k - L.length = 0 by omega, List.replicate_zero, List.append_nil]
        · obtain rfl : s = k := by omega
          rw [List.take_of_length_le (by simp; omega), List.take_of_length_le (by omega), hl])
      have HF4 := Lib.hid (HF.out wr HV.out)
      have hk0 : (0 : Int) ≤ (k : Int) := by omega
      have hkr : (k : Int) ≤ (r : Int) := by omega
      go_wp2_with (refine dk_store rfl _ _ rfl (w.heap.size + 1) B k r none 0 0 _ _ rfl rfl HF4.out ?_; intro w4 k4 ho4 hz4 hb4)
      refine bodyPost_ret (dk_ret rfl _ rfl k4) rfl ?_
      obtain ⟨hbu, hz⟩ := HB.out
      have s4 := HV.out.size
      rw [HD.out]
      refine ⟨⟨_, rfl, _, _, _, _, _, _, rfl, ?_, Rw.nil _ _ _ _⟩, (hbu.trans (HV.out.mono hbu.size)).trans (hb4.mono (by omega))⟩
      have hfr := Rw.front HC.out (m := k) (by omega)
      have e : (DK.intsC (L ++ List.replicate (s - nn) 0)).take (k * 1) = DK.intsC (DK.fit L k) := by rw [← HFI.out, Nat.mul_one]; unfold DK.intsC; rw [List.map_take]
      rw [e] at hfr
      exact dk_moveC hfr (fun g hg => ho4 g (by omega)) (by omega)
end Go.Proofs.Ytgdefhlcgmibcaa
