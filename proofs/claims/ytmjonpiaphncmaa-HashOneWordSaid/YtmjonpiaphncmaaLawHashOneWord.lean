/-
  The walk of the law HashOneWord: replacing one integer changes the sum just where its value changes. No condition beyond the arguments' readings.
-/
import Derived.Test.YtmjonpiaphncmaaRefB
import Derived.Test.YtmjonpiaphncmaaMathB
import Derived.Deep.RegionHeld3
namespace Go.Proofs.Ytmjonpiaphncmaa.LawHashOneWord
open Go.RowKit

theorem cells_int (l : List Int) (x : Int) : l.map (Value.int .i64) ++ [Value.int .i64 x] = (l ++ [x]).map (Value.int .i64) := by rw [List.map_append]; rfl

set_option maxHeartbeats 4000000 in
theorem walk (a0 : ByteArray) (a1 : Option Addr) (len1 cap1 : Nat) (z1 : List Int) (a2 a3 : Int) (w : World) (_ : a0.size ≤ maxLen) (w1 : Row .i64 w a1 len1 cap1 z1) (w2 : (Lit.int .i64 a2).wf = true) (w3 : (Lit.int .i64 a3).wf = true) :
    Calls Try.prog 5 #[.string a0, .slice a1 len1 cap1, .int .i64 a2, .int .i64 a3] w fun e w' => e = .returned (.bool true) ∧ Below w.heap.size w w' := by
  obtain ⟨s, -, hs, cS⟩ := short_got a0 20 (by decide) (by decide) w
  obtain ⟨l, el, hl, cI⟩ := ints_got _ _ _ _ 9 (by decide) (by decide) _ w1.slc
  have h64 : ∀ x ∈ l, I64 x := by rw [el]; exact w1.i64 _
  have hl9 : l.length ≤ 9 := by rw [el, List.length_take]; simp; omega
  have i2 : I64 a2 := by have := bounds_i64 w2; unfold I64; omega
  have i3 : I64 a3 := by have := bounds_i64 w3; unfold I64; omega
  obtain ⟨i0, hi, hz0, hz1, hz2⟩ := info_parts info_int
  have H64 := Lib.hid h64
  have hS := Lib.hid cS
  have hI := Lib.hid cI
  clear w1 w2 w3 cS cI el h64 hl
  go_enter Try.func5, Try.ntmps5
  go_wp2_with fail
  refine hS.out.mono ?_
  rintro e w0 ⟨rfl, rfl⟩
  go_wp2_with fail
  refine hI.out.mono ?_
  rintro e u1 ⟨A, n, c, rfl, hn, -, -, hown, hb1⟩
  have hn1 : n ≤ 9 := by omega
  have HN := Lib.hid hn
  have z1 := hb1.size
  clear hn hl9
  go_wp2_with (at_builtin
               refine wpList_append_own _ rfl _ _ 22 rfl w.heap.size 3 i0 _ 1 8 Try.underlying22 hi hz0 hz1 hz2 rfl (by decide) _ _ _ rfl (hown.alloc _) ⟨u1.heap.size, 0, none⟩ 1 1 [.int .i64 7] rfl rfl (cell_one_new _ _ _) (by simp [Value.oneCell']) (by simp only [maxLen]; omega) (by omega) (by simp; omega) ?_
               intro v' u2 hown2 hgrow _
               obtain ⟨g2, c2, rfl⟩ := ownsRow_succ hown2)
  have b2 : Below w.heap.size w u2 := (hb1.alloc z1 _).grown hgrow (by simp; omega) (fun g hg => own_low hown hg)
  rw [cells_int] at hown2
  have hlen : (l ++ [7]).length = n + 1 := by rw [List.length_append, HN.out]; rfl
  have h64a : ∀ x ∈ l ++ [7], I64 x := fun x hx => by
    rcases List.mem_append.1 hx with hx | hx
    · exact H64.out x hx
    · rw [List.mem_singleton] at hx
      subst hx
      exact ⟨by decide, by decide⟩
  obtain ⟨a, ea⟩ : ∃ a, l ++ [7] = a := ⟨_, rfl⟩
  rw [ea] at hown2 hlen h64a
  have H64a := Lib.hid h64a
  have HL := Lib.hid hlen
  have hJ := Ints.of_own rfl hown2
  have cC := (ints_any _ _ _ _ 10 (by decide) (by decide) u2 (own_slc hown2)).mono fun _ _ h => h.got
  rw [List.take_of_length_le (by rw [hlen]; simp; omega)] at cC
  have HC := Lib.hid cC
  clear hown hown2 hgrow hlen h64a cC ea hb1
  refine HC.out.mono ?_
  rintro e u3 ⟨A3, n3, c3, rfl, hn3, -, hJ3, hown3, hb3⟩
  obtain rfl : n + 1 = n3 := HL.out.symm.trans hn3
  have b3 := b2.trans (hb3.mono b2.size)
  have hJa := (hJ.below hb3)
  obtain ⟨g3, rfl, hg3, hg3', hnc3, hfz⟩ := own_at hown3 (by omega)
  have hg2 : g2 < u2.heap.size := by
    obtain ⟨b, off, e, hb, _⟩ := hJ.at_ (by omega)
    injection e with e
    injection e with e
    omega
  clear hJ hown3 hn3 HC
  go_wp2_with fail
  refine (around_any a2 _ i2 (by omega) (by omega) _).mono ?_
  rintro e u4 ⟨rfl, rfl⟩
  obtain ⟨hk0, hk1⟩ := around_in a2 ((n : Int) + 1) (by omega)
  obtain ⟨k, ek⟩ := Int.eq_ofNat_of_zero_le hk0
  rw [ek] at hk1 ⊢
  have hkn : k < n + 1 := by omega
  have c3k : (u3.cell? ⟨g3, k, none⟩).isSome = true := by
    obtain ⟨b, off, e, _, hc⟩ := hJ3.at_ (by omega)
    injection e with e
    injection e with e1 e2
    subst e1 e2
    have := hc k hkn
    rw [Nat.zero_add] at this
    rw [this]; rfl
  have c2k : u3.cell? ⟨g2, k, none⟩ = some (.int .i64 (a[k]?.getD 0)) := by
    obtain ⟨b, off, e, _, hc⟩ := hJa.at_ (by omega)
    injection e with e
    injection e with e1 e2
    subst e1 e2
    have := hc k hkn
    rw [Nat.zero_add] at this
    exact this
  obtain ⟨y, hy⟩ := Option.isSome_iff_exists.1 c3k
  have f3k := hfz k
  have Hk := Lib.hid (And.intro hJa (And.intro hJ3 (And.intro hb3 c2k)))
  clear hk0 ek hJa hJ3 hb3 c2k c3k hfz
  go_wp2
  obtain ⟨hJa, hJ3, hb3, c2k⟩ := Hk.out
  have hb4 : Below w.heap.size w (u3.setCell ⟨g3, k, none⟩ (Value.int .i64 a3)) := b3.setCell (p := ⟨g3, k, none⟩) (Nat.le_trans b2.size hg3) _
  have hJa4 := (hJa.setCell (p := ⟨g3, k, none⟩) hg3 (Value.int .i64 a3)).more (B' := (u3.setCell ⟨g3, k, none⟩ (Value.int .i64 a3)).heap.size) (by have := hb3.size; simp [World.setCell]; omega)
  have hJb4 := (hJ3.set k hkn a3).more (B' := (u3.setCell ⟨g3, 0 + k, none⟩ (Value.int .i64 a3)).heap.size) (by simp [World.setCell])
  rw [Nat.zero_add] at hJb4
  have c4 : (u3.setCell ⟨g3, k, none⟩ (Value.int .i64 a3)).cell? ⟨g2, k, none⟩ = some (.int .i64 (a[k]?.getD 0)) := by
    rw [World.cell?_setCell_other _ _ _ _ (by intro e; injection e with e1; omega)]
    exact c2k
  obtain ⟨W4, hW4⟩ : ∃ W4, u3.setCell ⟨g3, k, none⟩ (Value.int .i64 a3) = W4 := ⟨_, rfl⟩
  rw [hW4] at hb4 hJa4 hJb4 c4 ⊢
  obtain ⟨x, hx⟩ : ∃ x, a[k]?.getD 0 = x := ⟨_, rfl⟩
  rw [hx] at c4
  obtain ⟨B, hB⟩ : ∃ B, (x == a3) = B := ⟨_, rfl⟩
  have f1 : (sumI (sb s) a == sumI (sb s) (a.set k a3)) = B := by
    rw [← hB, Bool.eq_iff_iff, beq_iff_eq, beq_iff_eq, ← hx]
    exact one_word (sb s) a k a3 (sb_b8 s) (by rw [sb_length]; exact len_small hs) (by rw [HL.out]; exact len_small (by omega)) (by rw [HL.out]; exact hkn) H64a.out i3
  have hg2' : g2 < W4.heap.size := by
    obtain ⟨b, off, e, hb, _⟩ := hJa4.at_ (by omega)
    injection e with e
    injection e with e
    omega
  have CA := Lib.hid (show ∀ W, Below W4.heap.size W4 W → Calls Try.prog 13 #[.string s, .slice (some ⟨g2, 0, none⟩) (n + 1) c2] W fun e w' => e = .returned (.int .u64 (sumI (sb s) a)) ∧ Below W4.heap.size W4 w' from
    fun W hW => (sum_any s _ _ _ a W ((hJa4.below hW).more hW.size) (len_small hs) (len_small (by omega))).mono fun _ _ ⟨he, hb⟩ => ⟨he, hW.trans (hb.mono hW.size)⟩)
  have CB := Lib.hid (show ∀ W, Below W4.heap.size W4 W → Calls Try.prog 13 #[.string s, .slice (some ⟨g3, 0, none⟩) (n + 1) c3] W fun e w' => e = .returned (.int .u64 (sumI (sb s) (a.set k a3))) ∧ Below W4.heap.size W4 w' from
    fun W hW => (sum_any s _ _ _ (a.set k a3) W ((hJb4.below hW).more hW.size) (len_small hs) (len_small (by omega))).mono fun _ _ ⟨he, hb⟩ => ⟨he, hW.trans (hb.mono hW.size)⟩)
  have CL := Lib.hid (show ∀ W, Below W4.heap.size W4 W → Calls Try.prog 15 #[] W fun e w' => e = .returned (.bool true) ∧ Below W4.heap.size W4 w' from
    fun W hW => (lives_any W).mono fun _ _ ⟨he, hb⟩ => ⟨he, hW.trans (hb.mono hW.size)⟩)
  obtain ⟨p, hp⟩ : ∃ p, sumI (sb s) a = p := ⟨_, rfl⟩
  obtain ⟨q, hq⟩ : ∃ q, sumI (sb s) (a.set k a3) = q := ⟨_, rfl⟩
  rw [hp] at CA f1
  rw [hq] at CB f1
  have B0 : Below W4.heap.size W4 W4 := Below.refl _ _
  have Hb4 := Lib.hid hb4
  clear hW4 hx hp hq Hk hJa hJ3 hb3 c2k hJa4 hJb4 b3 b2 hg3 hg3' hy f3k y hb4
  go_region_held3 (fun w' => w'.cell? ⟨g2, k, none⟩ = some (.int .i64 x)) (first | exact c4 | exact (B5.cell (p := ⟨g2, k, none⟩) hg2').trans c4 | exact (B6.cell (p := ⟨g2, k, none⟩) hg2').trans c4 | exact (B7.cell (p := ⟨g2, k, none⟩) hg2').trans c4)
    (first
      | (go_at_call 13; ((with_reducible refine (CA.out _ ?_).mono ?_); focus (first | exact B0.drew | exact B0)); rintro e w5 ⟨rfl, B5⟩)
      | (go_at_call 13; ((with_reducible refine (CB.out _ ?_).mono ?_); focus (exact B5)); rintro e w6 ⟨rfl, B6⟩)
      | (go_at_call 15; ((with_reducible refine (CL.out _ ?_).mono ?_); focus (exact B6)); rintro e w7 ⟨rfl, B7⟩))
  go_wp2
  go_ret
  exact ⟨rfl, Hb4.out.trans (B7.mono Hb4.out.size)⟩
end Go.Proofs.Ytmjonpiaphncmaa.LawHashOneWord
