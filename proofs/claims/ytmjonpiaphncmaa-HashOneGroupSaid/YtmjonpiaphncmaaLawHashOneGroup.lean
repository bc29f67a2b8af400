/-
  The walk of the law HashOneGroup: changing bytes within a group of 8 changes the hash just where a byte changes. No condition beyond the arguments' readings.
-/
import Derived.Test.YtmjonpiaphncmaaRefB
import Derived.Test.YtmjonpiaphncmaaMathB
namespace Go.Proofs.Ytmjonpiaphncmaa.LawHashOneGroup
open Go.RowKit

theorem cells_byte (l : List Int) (x : Int) : l.map (Value.int .u8) ++ [Value.int .u8 x] = (l ++ [x]).map (Value.int .u8) := by rw [List.map_append]; rfl
theorem xor_b8 (x y : Int) : B8 (bits .xor .u8 x y) := by
  unfold bits B8
  rw [IntKind.wrap_u8]
  constructor <;> omega
theorem set_b8 {l : List Int} (h : ∀ x ∈ l, B8 x) (k : Nat) {v : Int} (hv : B8 v) : ∀ x ∈ l.set k v, B8 x := fun x hx => by
  rcases List.mem_or_eq_of_mem_set hx with hx | rfl
  · exact h x hx
  · exact hv
/-- y is a, but for bytes within group j. -/
def Near (a y : List Int) (j : Nat) : Prop := y.length = a.length ∧ (∀ z ∈ y, B8 z) ∧ ∀ p, p / 8 ≠ j → a[p]? = y[p]?
theorem Near.set {a y : List Int} {j k : Nat} (h : Near a y j) (hk : k / 8 = j) {v : Int} (hv : B8 v) : Near a (y.set k v) j :=
  ⟨by rw [List.length_set]; exact h.1, set_b8 h.2.1 k hv, fun p hp => by rw [List.getElem?_set_ne (by rintro rfl; exact hp hk)]; exact h.2.2 p hp⟩
theorem same_hash {s : ByteArray} {a y : List Int} {j : Nat} (hs : s.size ≤ 1000) (ha : ∀ z ∈ a, B8 z) (hn : a.length ≤ 1000) (hj : 8 * j < a.length) (h : Near a y j) : (bytesI (sb s) a == bytesI (sb s) y) = decide (a = y) := by
  rw [Bool.eq_iff_iff, beq_iff_eq, decide_eq_true_iff]
  exact ⟨one_group (sb s) a y j (sb_b8 s) (by rw [sb_length]; exact len_small hs) hn h.1 ha h.2.1 (by unfold nwords; omega) h.2.2, fun e => by rw [e]⟩

set_option maxHeartbeats 4000000 in
theorem walk (a0 : ByteArray) (a1 : Option Addr) (len1 cap1 : Nat) (z1 : List Int) (a2 a3 a4 : Int) (w : World) (_ : a0.size ≤ maxLen) (w1 : Row .u8 w a1 len1 cap1 z1) (w2 : (Lit.int .i64 a2).wf = true) (_ : (Lit.int .u8 a3).wf = true) (_ : (Lit.int .u8 a4).wf = true) :
    Calls Try.prog 6 #[.string a0, .slice a1 len1 cap1, .int .i64 a2, .int .u8 a3, .int .u8 a4] w fun e w' => e = .returned (.bool true) ∧ Below w.heap.size w w' := by
  obtain ⟨s, -, hs, cS⟩ := short_got a0 20 (by decide) (by decide) w
  obtain ⟨l, el, hl, cI⟩ := few_got _ _ _ _ 39 (by decide) (by decide) _ w1.slc
  have h8 : ∀ x ∈ l, B8 x := by rw [el]; exact w1.b8 _
  have hl9 : l.length ≤ 39 := by rw [el, List.length_take]; simp; omega
  have i2 : I64 a2 := by have := bounds_i64 w2; unfold I64; omega
  obtain ⟨i0, hi, hz0, hz1, hz2⟩ := info_parts info_byte
  have H8 := Lib.hid h8
  have hS := Lib.hid cS
  have hI := Lib.hid cI
  clear w1 w2 cS cI el h8 hl
  go_enter Try.func6, Try.ntmps6
  go_wp2_with fail
  refine hS.out.mono ?_
  rintro e w0 ⟨rfl, rfl⟩
  go_wp2_with fail
  refine hI.out.mono ?_
  rintro e u1 ⟨A, n, c, rfl, hn, -, -, hown, hb1⟩
  have hn1 : n ≤ 39 := by omega
  have HN := Lib.hid hn
  have z1 := hb1.size
  clear hn hl9
  go_wp2_with (at_builtin
               refine wpList_append_own _ rfl _ _ 30 rfl w.heap.size 5 i0 _ 1 1 Try.underlying30 hi hz0 hz1 hz2 rfl (by decide) _ _ _ rfl (hown.alloc _) ⟨u1.heap.size, 0, none⟩ 1 1 [.int .u8 65] rfl rfl (cell_one_new _ _ _) (by simp [Value.oneCell']) (by simp only [maxLen]; omega) (by omega) (by simp; omega) ?_
               intro v' u2 hown2 hgrow _
               obtain ⟨g2, c2, rfl⟩ := ownsRow_succ hown2)
  have b2 : Below w.heap.size w u2 := (hb1.alloc z1 _).grown hgrow (by simp; omega) (fun g hg => own_low hown hg)
  rw [cells_byte] at hown2
  have hlen : (l ++ [65]).length = n + 1 := by rw [List.length_append, HN.out]; rfl
  have h8a : ∀ x ∈ l ++ [65], B8 x := fun x hx => by
    rcases List.mem_append.1 hx with hx | hx
    · exact H8.out x hx
    · rw [List.mem_singleton] at hx
      subst hx
      exact ⟨by decide, by decide⟩
  obtain ⟨a, ea⟩ : ∃ a, l ++ [65] = a := ⟨_, rfl⟩
  rw [ea] at hown2 hlen h8a
  have H8a := Lib.hid h8a
  have HL := Lib.hid hlen
  have hJ := Ints.of_own rfl hown2
  have hc2 : n + 1 ≤ c2 := by
    obtain ⟨_, _, e, h1, _⟩ := own_slice hown2
    injection e with _ _ e3
    omega
  have cC := (few_any _ _ _ _ 40 (by decide) (by decide) u2 (own_slc hown2)).mono fun _ _ h => h.got
  rw [List.take_of_length_le (by rw [hlen]; simp; omega)] at cC
  have HC := Lib.hid cC
  clear hown hown2 hgrow hlen h8a cC ea hb1
  refine HC.out.mono ?_
  rintro e u3 ⟨A3, n3, c3, rfl, hn3, -, hJ3, hown3, hb3⟩
  obtain rfl : n + 1 = n3 := HL.out.symm.trans hn3
  have b3 := b2.trans (hb3.mono b2.size)
  have hJa := (hJ.below hb3)
  obtain ⟨g3, rfl, hg3, hg3', hnc3, hfz⟩ := own_at hown3 (by omega)
  clear hJ hown3 hn3 HC
  go_wp2_with fail
  refine (around_any a2 _ i2 (by omega) (by omega) _).mono ?_
  rintro e u4 ⟨rfl, rfl⟩
  obtain ⟨hk0, hk1⟩ := around_in a2 ((n : Int) + 1) (by omega)
  obtain ⟨k, ek⟩ := Int.eq_ofNat_of_zero_le hk0
  rw [ek] at hk1 ⊢
  have hkn : k < n + 1 := by omega
  have cells3 : ∀ j, j < n + 1 → u3.cell? ⟨g3, j, none⟩ = some (.int .u8 (a[j]?.getD 0)) := fun j hj => by
    obtain ⟨b, off, e, _, hc⟩ := hJ3.at_ (by omega)
    injection e with e
    injection e with e1 e2
    subst e1 e2
    have := hc j hj
    rw [Nat.zero_add] at this
    exact this
  have c3k := cells3 k hkn
  have f3k := hfz k
  obtain ⟨x, hx⟩ : ∃ x, a[k]?.getD 0 = x := ⟨_, rfl⟩
  rw [hx] at c3k
  have hN0 : Near a a (k / 8) := ⟨rfl, H8a.out, fun _ _ => rfl⟩
  have hN1 : Near a (a.set k (bits .xor .u8 x a3)) (k / 8) := hN0.set rfl (xor_b8 _ _)
  have H := Lib.hid (And.intro hJa (And.intro hJ3 (And.intro hb3 (And.intro hN1 (And.intro cells3 hfz)))))
  clear hk0 ek hJa hJ3 hb3 hN0 hN1 cells3 hfz hx
  have hcases : (k < n ∧ (((k : Int) + 1) % 8 != 0) = true) ∨ (k < n ∧ (((k : Int) + 1) % 8 != 0) = false) ∨ ¬ k < n := by
    by_cases hq : k < n
    · rcases Bool.eq_false_or_eq_true (((k : Int) + 1) % 8 != 0) with hm | hm
      · exact .inl ⟨hq, hm⟩
      · exact .inr (.inl ⟨hq, hm⟩)
    · exact .inr (.inr hq)
  rcases hcases with ⟨hq, hm⟩ | ⟨hq, hm⟩ | hq
  case' inl =>
    (obtain ⟨hJa, hJ3, hb3, hN1, cells3, hfz⟩ := H.out
     have c3k1 := cells3 (k + 1) (by omega)
     have f3k1 := hfz (k + 1)
     obtain ⟨x1, hx1⟩ : ∃ x1, a[k + 1]?.getD 0 = x1 := ⟨_, rfl⟩
     rw [hx1] at c3k1
     clear hJa hJ3 hb3 hN1 cells3 hfz hx1
     go_wp2_with fail
     obtain ⟨hJa, hJ3, hb3, hN1, cells3, hfz⟩ := H.out
     have hk8 : (k + 1) / 8 = k / 8 := by rw [bne_iff_ne] at hm; omega
     have hN2 := hN1.set hk8 (xor_b8 x1 a4)
     have hz4 : u3.heap.size ≤ (u3.setCell ⟨g3, k, none⟩ (Value.int .u8 (bits .xor .u8 x a3))).heap.size := by simp [World.setCell]
     have hz5 : (u3.setCell ⟨g3, k, none⟩ (Value.int .u8 (bits .xor .u8 x a3))).heap.size ≤ ((u3.setCell ⟨g3, k, none⟩ (Value.int .u8 (bits .xor .u8 x a3))).setCell ⟨g3, k + 1, none⟩ (Value.int .u8 (bits .xor .u8 x1 a4))).heap.size := by simp [World.setCell]
     have hb4 : Below w.heap.size w ((u3.setCell ⟨g3, k, none⟩ (Value.int .u8 (bits .xor .u8 x a3))).setCell ⟨g3, k + 1, none⟩ (Value.int .u8 (bits .xor .u8 x1 a4))) :=
       (b3.setCell (p := ⟨g3, k, none⟩) (Nat.le_trans b2.size hg3) _).setCell (p := ⟨g3, k + 1, none⟩) (Nat.le_trans b2.size hg3) _
     have hJa4 := ((hJa.setCell (p := ⟨g3, k, none⟩) hg3 (Value.int .u8 (bits .xor .u8 x a3))).setCell (p := ⟨g3, k + 1, none⟩) hg3 (Value.int .u8 (bits .xor .u8 x1 a4))).more
       (B' := ((u3.setCell ⟨g3, k, none⟩ (Value.int .u8 (bits .xor .u8 x a3))).setCell ⟨g3, k + 1, none⟩ (Value.int .u8 (bits .xor .u8 x1 a4))).heap.size) (by have := hb3.size; omega)
     have hJb3 := hJ3.set k hkn (bits .xor .u8 x a3)
     rw [Nat.zero_add] at hJb3
     have hJb3' := hJb3.set (k + 1) (by omega) (bits .xor .u8 x1 a4)
     rw [Nat.zero_add] at hJb3'
     have hJb4 := hJb3'.more (B' := ((u3.setCell ⟨g3, k, none⟩ (Value.int .u8 (bits .xor .u8 x a3))).setCell ⟨g3, k + 1, none⟩ (Value.int .u8 (bits .xor .u8 x1 a4))).heap.size) (by omega)
     obtain ⟨y, hy⟩ : ∃ y, (a.set k (bits .xor .u8 x a3)).set (k + 1) (bits .xor .u8 x1 a4) = y := ⟨_, rfl⟩
     rw [hy] at hJb4 hN2
     obtain ⟨W4, hW4⟩ : ∃ W4, (u3.setCell ⟨g3, k, none⟩ (Value.int .u8 (bits .xor .u8 x a3))).setCell ⟨g3, k + 1, none⟩ (Value.int .u8 (bits .xor .u8 x1 a4)) = W4 := ⟨_, rfl⟩
     rw [hW4] at hb4 hJa4 hJb4 ⊢
     have HB := Lib.hid (same_hash hs H8a.out (by rw [HL.out]; omega) (by rw [HL.out]; omega) hN2)
     have HY := Lib.hid hN2.2.1
     clear hW4 hy hN2 hN1 cells3 hfz hJa hJ3 hb3 hJb3 hJb3' hz4 hz5)
  case' inr.inl =>
    (obtain ⟨hJa, hJ3, hb3, hN1, cells3, hfz⟩ := H.out
     clear hJa hJ3 hb3 hN1 cells3 hfz
     go_wp2_with fail
     obtain ⟨hJa, hJ3, hb3, hN1, cells3, hfz⟩ := H.out
     have hb4 : Below w.heap.size w (u3.setCell ⟨g3, k, none⟩ (Value.int .u8 (bits .xor .u8 x a3))) := b3.setCell (p := ⟨g3, k, none⟩) (Nat.le_trans b2.size hg3) _
     have hJa4 := (hJa.setCell (p := ⟨g3, k, none⟩) hg3 (Value.int .u8 (bits .xor .u8 x a3))).more (B' := (u3.setCell ⟨g3, k, none⟩ (Value.int .u8 (bits .xor .u8 x a3))).heap.size) (by have := hb3.size; simp [World.setCell]; omega)
     have hJb4 := (hJ3.set k hkn (bits .xor .u8 x a3)).more (B' := (u3.setCell ⟨g3, 0 + k, none⟩ (Value.int .u8 (bits .xor .u8 x a3))).heap.size) (by simp [World.setCell])
     rw [Nat.zero_add] at hJb4
     obtain ⟨y, hy⟩ : ∃ y, a.set k (bits .xor .u8 x a3) = y := ⟨_, rfl⟩
     rw [hy] at hJb4 hN1
     obtain ⟨W4, hW4⟩ : ∃ W4, u3.setCell ⟨g3, k, none⟩ (Value.int .u8 (bits .xor .u8 x a3)) = W4 := ⟨_, rfl⟩
     rw [hW4] at hb4 hJa4 hJb4 ⊢
     have HY := Lib.hid hN1.2.1
     have HB := Lib.hid (same_hash hs H8a.out (by rw [HL.out]; omega) (by rw [HL.out]; omega) hN1)
     clear hW4 hy hN1 cells3 hfz hJa hJ3 hb3)
  case' inr.inr =>
    (obtain ⟨hJa, hJ3, hb3, hN1, cells3, hfz⟩ := H.out
     clear hJa hJ3 hb3 hN1 cells3 hfz
     go_wp2_with fail
     obtain ⟨hJa, hJ3, hb3, hN1, cells3, hfz⟩ := H.out
     have hb4 : Below w.heap.size w (u3.setCell ⟨g3, k, none⟩ (Value.int .u8 (bits .xor .u8 x a3))) := b3.setCell (p := ⟨g3, k, none⟩) (Nat.le_trans b2.size hg3) _
     have hJa4 := (hJa.setCell (p := ⟨g3, k, none⟩) hg3 (Value.int .u8 (bits .xor .u8 x a3))).more (B' := (u3.setCell ⟨g3, k, none⟩ (Value.int .u8 (bits .xor .u8 x a3))).heap.size) (by have := hb3.size; simp [World.setCell]; omega)
     have hJb4 := (hJ3.set k hkn (bits .xor .u8 x a3)).more (B' := (u3.setCell ⟨g3, 0 + k, none⟩ (Value.int .u8 (bits .xor .u8 x a3))).heap.size) (by simp [World.setCell])
     rw [Nat.zero_add] at hJb4
     obtain ⟨y, hy⟩ : ∃ y, a.set k (bits .xor .u8 x a3) = y := ⟨_, rfl⟩
     rw [hy] at hJb4 hN1
     obtain ⟨W4, hW4⟩ : ∃ W4, u3.setCell ⟨g3, k, none⟩ (Value.int .u8 (bits .xor .u8 x a3)) = W4 := ⟨_, rfl⟩
     rw [hW4] at hb4 hJa4 hJb4 ⊢
     have HY := Lib.hid hN1.2.1
     have HB := Lib.hid (same_hash hs H8a.out (by rw [HL.out]; omega) (by rw [HL.out]; omega) hN1)
     clear hW4 hy hN1 cells3 hfz hJa hJ3 hb3)
  all_goals
    refine (bytes_any s _ _ _ a W4 hJa4 hc2 H8a.out (len_small hs) (len_small (by omega))).mono ?_
    rintro e u5 ⟨rfl, hb5⟩
    have hJa5 := (hJa4.below hb5).more hb5.size
    have hJb5 := (hJb4.below hb5).more hb5.size
    have b5 := hb4.trans (hb5.mono hb4.size)
    clear hJa4 hJb4 hb5 hb4
    go_wp2_with fail
    refine (bytes_any s _ _ _ y u5 hJb5 hnc3 HY.out (len_small hs) (len_small (by omega))).mono ?_
    rintro e u6 ⟨rfl, hb6⟩
    have hJa6 := (hJa5.below hb6).more hb6.size
    have hJb6 := (hJb5.below hb6).more hb6.size
    have b6 := b5.trans (hb6.mono b5.size)
    clear hJa5 hJb5 hb6 b5
    have f1 := HB.out
    obtain ⟨B, hB⟩ : ∃ B, decide (a = y) = B := ⟨_, rfl⟩
    rw [hB] at f1
    have cS := sameBytes_any _ _ _ _ c2 c3 a y u6 hJa6 hJb6 (by omega)
    rw [hB] at cS
    have CS := Lib.hid cS
    clear cS hB
    go_wp2_with fail
    refine CS.out.mono ?_
    rintro e u7 ⟨rfl, hb7⟩
    have b7 := b6.trans (hb7.mono b6.size)
    clear CS hb7 b6
    go_wp2_with fail
    refine (lives_any _).mono ?_
    rintro e u8 ⟨rfl, hb8⟩
    go_wp2_with fail
    go_ret
    exact ⟨rfl, b7.trans (hb8.mono b7.size)⟩
end Go.Proofs.Ytmjonpiaphncmaa.LawHashOneGroup
