/-
  The walk of the law HashGroups: Bytes is the Sum of the little-endian words and the length; a further zero byte changes the hash where the last group is not full. No condition beyond the arguments' readings.
-/
import Derived.Test.YtmjonpiaphncmaaRefB
import Derived.Test.YtmjonpiaphncmaaMathB
namespace Go.Proofs.Ytmjonpiaphncmaa.LawHashGroups
open Go.RowKit

theorem slc_below {k : IntKind} {w w' : World} {a : Option Addr} {n c B : Nat} {zs : List Int} (h : Slc k w a n c zs) (hI : Ints k B w a n zs) (hb : Below B w w') : Slc k w' a n c zs := by
  obtain ⟨h1, h2, h3, h4⟩ := h
  refine ⟨h1, h2, h3, ?_⟩
  rcases h4 with h4 | ⟨x, e, hx⟩
  · exact .inl h4
  · refine .inr ⟨x, e, fun i u hu => ?_⟩
    have hi : i < zs.length := by
      rcases Nat.lt_or_ge i (zs.map (Value.int k)).length with h | h
      · simpa using h
      · rw [List.getElem?_eq_none h] at hu; cases hu
    obtain ⟨b, off, e2, hlt, _⟩ := hI.at_ (by omega)
    rw [e] at e2
    injection e2 with e2
    subst e2
    have hc := hx i u hu
    rw [Addr.add_lit] at hc ⊢
    exact (hb.cell (p := ⟨b, off + i, none⟩) hlt).trans hc
theorem cells_byte (l : List Int) : l.map (Value.int .u8) ++ [Value.int .u8 0] = (l ++ [0]).map (Value.int .u8) := by rw [List.map_append]; rfl

set_option maxHeartbeats 4000000 in
theorem walk (a0 : ByteArray) (a1 : Option Addr) (len1 cap1 : Nat) (z1 : List Int) (w : World) (_ : a0.size ≤ maxLen) (w1 : Row .u8 w a1 len1 cap1 z1) :
    Calls Try.prog 8 #[.string a0, .slice a1 len1 cap1] w fun e w' => e = .returned (.bool true) ∧ Below w.heap.size w w' := by
  obtain ⟨s, -, hs, cS⟩ := short_got a0 20 (by decide) (by decide) w
  obtain ⟨l, el, hl, cI⟩ := few_got _ _ _ _ 60 (by decide) (by decide) _ w1.slc
  have h8 : ∀ x ∈ l, B8 x := by rw [el]; exact w1.b8 _
  have hl60 : l.length ≤ 60 := by rw [el, List.length_take]; simp; omega
  obtain ⟨i0, hi, hz0, hz1, hz2⟩ := info_parts info_int
  obtain ⟨i1, hi1, hy0, hy1, hy2⟩ := info_parts info_byte
  have H8 := Lib.hid h8
  have hS := Lib.hid cS
  have hI := Lib.hid cI
  clear w1 cS cI el h8
  go_enter Try.func8, Try.ntmps8
  go_wp2_with fail
  refine hS.out.mono ?_
  rintro e w0 ⟨rfl, rfl⟩
  go_wp2_with fail
  refine hI.out.mono ?_
  rintro e u1 ⟨A, n, c, rfl, hn, hsl, hJ, -, hb1⟩
  have hn1 : n ≤ 60 := by omega
  have hnc := hsl.2.1
  have HN := Lib.hid hn
  have HSL := Lib.hid hsl
  clear hn hl hl60 hsl
  go_wp2_with fail
  refine (words_any _ _ _ l _ hJ H8.out (by omega)).mono ?_
  rintro e u2 ⟨A2, c2, rfl, -, -, hown, hb2⟩
  have hI1 := Ints.of_own rfl hown
  have hwl : (wordsI l).length ≤ 1000 := by rw [wordsI_length, HN.out]; exact nwords_le _ (by omega)
  obtain ⟨W, hW⟩ : ∃ W, wordsI l = W := ⟨_, rfl⟩
  rw [hW] at hI1 hwl ⊢
  have HW := Lib.hid hW
  obtain ⟨N, hNN⟩ : ∃ N, W.length = N := ⟨_, rfl⟩
  rw [hNN] at hI1 hwl ⊢
  have HNN := Lib.hid hNN
  have b2 := hb1.trans (hb2.mono hb1.size)
  have hJ2 := (hJ.below hb2).more hb2.size
  have HSL2 := Lib.hid (HSL.out.below hb2)
  clear hown hW hNN hJ HSL hb1 hb2
  go_wp2
  go_loopw [8, 9] (fun o i wr => ∃ k : Nat, k ≤ N ∧ i = .int .i64 k ∧ wr.ownsRow u2.heap.size 3 1 o k ((cellsI W).take k) ∧ Below u2.heap.size u2 wr) (fun _ i _ => N - (intOf i).toNat)
  case atStart => exact ⟨0, Nat.zero_le _, rfl, ⟨rfl, .inl ⟨rfl, rfl⟩⟩, Below.refl _ _⟩
  case round =>
    obtain ⟨k, hk, rfl, hrow, hB1⟩ := hrel
    have hBz := hB1.size
    by_cases hlt : k < N
    · obtain ⟨b, off, rfl, hbl, hc⟩ := hI1.at_ (by omega)
      have hck := (hB1.cell (p := ⟨b, off + k, none⟩) hbl).trans (hc k hlt)
      have HS := Lib.hid (cellsI_take W k (by rw [HNN.out]; exact hlt))
      clear hc hI1 hJ2
      go_wp2_with (at_builtin
                   refine wpList_append_own _ rfl _ _ 22 rfl u2.heap.size 3 i0 _ 1 8 Try.underlying22 hi hz0 hz1 hz2 rfl (by decide) _ _ _ rfl (hrow.alloc _) ⟨wr.heap.size, 0, none⟩ 1 1 [.int .i64 (wrap64 (W[k]?.getD 0))] rfl rfl (cell_one_new _ _ _) (by simp [Value.oneCell']) (by simp only [maxLen]; omega) (by omega) (by simp; omega) ?_
                   intro v' w2 hown' hgrow _)
      go_roundw
      case rel => exact ⟨k + 1, by omega, by go_num, by rw [HS.out]; exact hown', (hB1.alloc hBz _).grown hgrow (by simp; omega) (fun g hg => own_low hrow hg)⟩
      case measure => simp [intOf]; omega
    · obtain rfl : k = N := by omega
      have e : (cellsI W).take k = cellsI W := List.take_of_length_le (by rw [cellsI_length, HNN.out]; omega)
      rw [e] at hrow
      clear hI1 e
      go_wp2_with fail
      refine (bytes_any s A n c l _ ((hJ2.below hB1).more hB1.size) hnc H8.out (len_small hs) (len_small (by omega))).mono ?_
      rintro e u3 ⟨rfl, hb3⟩
      have hrow3 := own_below hrow hb3
      have B3 := hB1.trans (hb3.mono hB1.size)
      have z3 := B3.size
      clear hrow hb3 hB1 hBz
      go_wp2_with (at_builtin
                   refine wpList_append_own _ rfl _ _ 22 rfl u2.heap.size 3 i0 _ 1 8 Try.underlying22 hi hz0 hz1 hz2 rfl (by decide) _ _ _ rfl (hrow3.alloc _) ⟨u3.heap.size, 0, none⟩ 1 1 [.int .i64 n] rfl rfl (cell_one_new _ _ _) (by simp [Value.oneCell']) (by simp only [maxLen]; omega) (by omega) (by simp; omega) ?_
                   intro v' u4 hown' hgrow _
                   obtain ⟨g', cap', rfl⟩ := ownsRow_succ hown')
      have hrX := own_bytes l n HN.out (by rw [HW.out]; exact hown')
      have B4 : Below u2.heap.size u2 u4 := (B3.alloc z3 _).grown hgrow (by simp; omega) (fun g hg => own_low hrow3 hg)
      have cSum : Calls Try.prog 13 #[.string s, .slice (some ⟨g', 0, none⟩) (k + 1) cap'] u4 fun e w' => e = .returned (.int .u64 (bytesI (sb s) l)) ∧ Below u4.heap.size u4 w' :=
        sum_any s _ _ _ (bytesL l) _ (Ints.of_own rfl hrX) (len_small hs) (by unfold Len; omega)
      clear hown' hgrow hrow3 B3 z3 hrX
      refine cSum.mono ?_
      clear cSum
      rintro e u5 ⟨rfl, hb5⟩
      have B5 := B4.trans (hb5.mono B4.size)
      have z5 := B5.size
      have cFew := (few_any _ _ _ _ 60 (by decide) (by decide) u5 (slc_below HSL2.out hJ2 B5)).mono fun _ _ h => h.got
      rw [List.take_of_length_le (by rw [HN.out]; simp; omega)] at cFew
      have HF := Lib.hid cFew
      clear cFew hb5 B4
      go_wp2_with fail
      refine HF.out.mono ?_
      rintro e u6 ⟨A6, n6, c6, rfl, hn6, -, -, hown6, hb6⟩
      have B6 := B5.trans (hb6.mono B5.size)
      have z6 := B6.size
      have z56 := hb6.size
      obtain rfl : n6 = n := hn6.symm.trans HN.out
      clear hn6 HF hb6
      have Hlow := Lib.hid (show ∀ g, (Value.slice A6 n6 c6).ownBlock = some g → u5.heap.size ≤ g from fun g hg => own_low hown6 hg)
      rcases Bool.eq_false_or_eq_true ((n6 : Int) % 8 == 0) with hq | hq
      · go_wp2_with (at_builtin
                     refine wpList_append_own _ rfl _ _ 30 rfl u5.heap.size 5 i1 _ 1 1 Try.underlying30 hi1 hy0 hy1 hy2 rfl (by decide) _ _ _ rfl (hown6.alloc _) ⟨u6.heap.size, 0, none⟩ 1 1 [.int .u8 0] rfl rfl (cell_one_new _ _ _) (by simp [Value.oneCell']) (by simp only [maxLen]; omega) (by omega) (by simp; omega) ?_
                     intro v' u7 hown7 hgrow _
                     obtain ⟨g7, c7, rfl⟩ := ownsRow_succ hown7)
        have B7 : Below u2.heap.size u2 u7 := (B6.alloc z6 _).grown hgrow (by simp; omega) (fun g hg => Nat.le_trans z5 (Hlow.out g hg))
        refine (lives_any _).mono ?_
        rintro e u8 ⟨rfl, hb8⟩
        go_wp2_with fail
        go_ret
        exact ⟨rfl, b2.trans ((B7.trans (hb8.mono B7.size)).mono b2.size)⟩
      · go_wp2_with (at_builtin
                     refine wpList_append_own _ rfl _ _ 30 rfl u5.heap.size 5 i1 _ 1 1 Try.underlying30 hi1 hy0 hy1 hy2 rfl (by decide) _ _ _ rfl (hown6.alloc _) ⟨u6.heap.size, 0, none⟩ 1 1 [.int .u8 0] rfl rfl (cell_one_new _ _ _) (by simp [Value.oneCell']) (by simp only [maxLen]; omega) (by omega) (by simp; omega) ?_
                     intro v' u7 hown7 hgrow _
                     obtain ⟨g7, c7, rfl⟩ := ownsRow_succ hown7)
        have B7 : Below u2.heap.size u2 u7 := (B6.alloc z6 _).grown hgrow (by simp; omega) (fun g hg => Nat.le_trans z5 (Hlow.out g hg))
        have hne : (bytesI (sb s) (l ++ [0]) != bytesI (sb s) l) = true := by
          rw [bne_iff_ne]
          refine longer_ne (sb s) l (sb_b8 s) (by rw [sb_length]; exact len_small hs) (by rw [HN.out]; omega) ?_
          rw [HN.out]
          simp at hq
          omega
        have hc7 := (own_slice hown7)
        have cB : Calls Try.prog 17 #[.string s, .slice (some ⟨g7, 0, none⟩) (n6 + 1) c7] u7 fun e w' => e = .returned (.int .u64 (bytesI (sb s) (l ++ [0]))) ∧ Below u7.heap.size u7 w' :=
          bytes_any s _ _ _ (l ++ [0]) _ (Ints.of_own rfl (by rw [← cells_byte]; exact hown7)) (by obtain ⟨_, _, e, h1, _⟩ := hc7; injection e with _ _ e3; omega)
            (by
              intro x hx
              rcases List.mem_append.1 hx with hx | hx
              · exact H8.out x hx
              · rw [List.mem_singleton] at hx
                subst hx
                exact ⟨by decide, by decide⟩) (len_small hs) (len_small (by omega))
        clear hc7 hown7 hgrow
        refine cB.mono ?_
        clear cB
        rintro e u8 ⟨rfl, hb8⟩
        have B8 := B7.trans (hb8.mono B7.size)
        clear hb8 B7
        go_wp2_with fail
        refine (bytes_any s A n6 c l _ ((hJ2.below B8).more B8.size) hnc H8.out (len_small hs) (len_small (by omega))).mono ?_
        rintro e u9 ⟨rfl, hb9⟩
        have B9 := B8.trans (hb9.mono B8.size)
        clear hb9 B8
        go_wp2_with fail
        refine (lives_any _).mono ?_
        rintro e u10 ⟨rfl, hb10⟩
        go_wp2_with fail
        go_ret
        exact ⟨rfl, b2.trans ((B9.trans (hb10.mono B9.size)).mono b2.size)⟩
end Go.Proofs.Ytmjonpiaphncmaa.LawHashGroups
