/-
  The reference's encoders give the encodings of the mathematics. Condition: lengths of which we speak.
-/
import Derived.Test.YtcojbloflaeefaaWEnc
namespace Go.Proofs.Ytcojbloflaeefaa
open Go Go.RowKit

theorem grown_low {base : Nat} {w wr w1 : World} {v : Value} {n : Nat} {xs : List Value} {e : TypeId} {size : Nat} (hB : Below base w wr) (hrow : wr.ownsRow base e size v n xs) (hg : wr.grownBy w1 v.ownBlock) (hb : base ≤ wr.heap.size) : Below base w w1 :=
  hB.grown hg hb fun k e => (hrow.lt k e).1
theorem row_up {w w' : World} {base size n : Nat} {t : TypeId} {v : Value} {xs : List Value} (h : w.ownsRow base t size v n xs) (hb : Below w.heap.size w w') : w'.ownsRow base t size v n xs := by
  obtain ⟨h1, h2⟩ := h
  refine ⟨h1, ?_⟩
  rcases h2 with h2 | ⟨g, cap, cur, hv, hg, hh, r⟩
  · exact .inl h2
  · exact .inr ⟨g, cap, cur, hv, hg, (hb.block g (heap_lt hh)).trans hh, r⟩

set_option maxHeartbeats 1000000 in
theorem ref_uint (n : Int) (w : World) (hn : W64 n) :
    Calls Try.prog 28 #[.int .u64 n] w (Mk 5 .u8 w (encU n)) := by
  obtain ⟨i0, hi, hz0, hz1, hz2⟩ := info_parts info_byte
  obtain ⟨hn0, hn1⟩ := hn
  go_enter Try.func28, Try.ntmps28
  go_wp2
  go_loopw [0, 3] (fun x o wr => ∃ (f : Nat) (m : Int) (pre : List Int) (A : Option Addr) (l c : Nat), f < 10 ∧ 0 ≤ m ∧ m < 2 * 128 ^ f ∧ m < 18446744073709551616 ∧ x = .int .u64 m ∧ o = .slice A l c ∧ l + f = 9 ∧ Hid (pre.length = l) ∧ Hid (pre ++ encF (f + 1) m = encU n) ∧ wr.ownsRow w.heap.size 5 1 (.slice A l c) l (pre.map (Value.int .u8)) ∧ Below w.heap.size w wr) (fun x _ _ => (intOf x).toNat)
  case atStart => exact ⟨9, n, [], none, 0, 0, by omega, hn0, by simpa using hn1, hn1, rfl, rfl, rfl, rfl, rfl, ⟨rfl, .inl ⟨rfl, rfl⟩⟩, Below.refl _ _⟩
  case round =>
    obtain ⟨f, m, pre, A, l, c, hf, h0, h1, h2, rfl, rfl, hlf, hpl, hE, hrow, hB⟩ := hrel
    have hBz := hB.size
    by_cases hlt : m < 128
    · have hge : ¬ 127 < m := by omega
      go_wp2_with (at_builtin
                   refine wpList_append_slc rfl _ _ 24 rfl w.heap.size 5 i0 _ 1 Try.underlying24 hi hz0 hz1 hz2 rfl _ _ _ rfl (hrow.alloc _) .u8 _ _ _ _ rfl (slc_one _ _ _ _) (by simp only [maxLen]; omega) (by omega) (by simp; omega) ?_
                   intro A' c' w1 hown' hgrow)
      have hb := grown_low (hB.alloc hBz _) (hrow.alloc _) hgrow (by simp; omega)
      rw [encF_last f m hlt] at hE
      go_ret
      refine mk_own (m := l + 1) ?_ hb
      rw [← hE.out, List.map_append]
      exact hown'
    · have hge : 127 < m := by omega
      obtain ⟨q, rfl⟩ : ∃ q, f = q + 1 := ⟨f - 1, by
        rcases f with _ | f
        · simp at h1; omega
        · omega⟩
      have h1' : m / 128 < 2 * 128 ^ q := by rw [Int.pow_succ] at h1; omega
      have hE2 := Lib.hid (encF_step (q + 1) m hlt)
      clear h1
      go_wp2_with (at_builtin
                   refine wpList_append_slc rfl _ _ 24 rfl w.heap.size 5 i0 _ 1 Try.underlying24 hi hz0 hz1 hz2 rfl _ _ _ rfl (hrow.alloc _) .u8 _ _ _ _ rfl (slc_one _ _ _ _) (by simp only [maxLen]; omega) (by omega) (by simp; omega) ?_
                   intro A' c' w1 hown' hgrow)
      have hb := grown_low (hB.alloc hBz _) (hrow.alloc _) hgrow (by simp; omega)
      go_roundw
      case rel => exact ⟨q, m / 128, pre ++ [128 + m % 128], _, l + 1, _, by omega, by omega, h1', by omega, rfl, rfl, by omega, (by show _ = _; rw [List.length_append, hpl.out]; rfl), (by show _ = _; rw [← hE.out, hE2.out]; simp), (by rw [List.map_append]; exact hown'), hb⟩
      case measure => simp [intOf]; omega

set_option maxHeartbeats 400000 in
theorem ref_zig (n : Int) (h : I64 n) (w : World) :
    Calls Try.prog 42 #[.int .i64 n] w fun e w' => e = .returned (.int .u64 (zig n)) ∧ w = w' := by
  obtain ⟨h0, h1⟩ := h
  by_cases hn : n < 0
  · have H := Lib.hid (show zig n = 2 * -(n + 1) + 1 by unfold zig; rw [if_pos hn]; omega)
    go_enter Try.func42, Try.ntmps42
    go_wp2
    go_ret
    exact ⟨by rw [H.out]; rfl, rfl⟩
  · have H := Lib.hid (show zig n = 2 * n by unfold zig; rw [if_neg hn])
    go_enter Try.func42, Try.ntmps42
    go_wp2
    go_ret
    exact ⟨by rw [H.out]; rfl, rfl⟩

set_option maxHeartbeats 400000 in
theorem ref_int (n : Int) (w : World) (h : I64 n) :
    Calls Try.prog 29 #[.int .i64 n] w (Mk 5 .u8 w (encI n)) := by
  go_enter Try.func29, Try.ntmps29
  go_wp2_with fail
  refine (ref_zig n h _).mono ?_
  rintro e w1 ⟨rfl, rfl⟩
  go_wp2_with fail
  refine (ref_uint (zig n) _ (zig_w h)).mono ?_
  rintro e w1 ⟨A, m, c, rfl, h1, h2⟩
  have H1 := Lib.hid h1
  clear h1
  go_wp2_with fail
  go_ret
  exact ⟨A, m, c, rfl, H1.out, h2⟩

set_option maxHeartbeats 1000000 in
theorem ref_bytes (A : Option Addr) (n c : Nat) (zs : List Int) (w : World) (hz : Lst 5 .u8 w.heap.size w A n c zs) (hn : n ≤ 1000) :
    Calls Try.prog 30 #[.slice A n c] w (Mk 5 .u8 w (encB zs)) := by
  obtain ⟨i0, hi, hz0, hz1, hz2⟩ := info_parts info_byte
  have HZ := Lib.hid hz
  have hL := Lib.hid hz.len
  have HU := Lib.hid (ref_uint n w ⟨by omega, by omega⟩)
  have hw : IntKind.u64.wrap (n : Int) = n := by rw [IntKind.wrap_u64]; omega
  clear hz
  go_enter Try.func30, Try.ntmps30
  go_wp2_with fail
  refine HU.out.mono ?_
  rintro e w1 ⟨A1, m1, c1, rfl, h1, -, h3, h4⟩
  have hm : m1 ≤ 10 := by rw [← h1]; exact encU_len _
  have hsl := (HZ.out.below h4).slc
  have hs := h4.size
  clear hw h1
  go_wp2_with (at_builtin
               refine wpList_append_slc rfl _ _ 24 rfl w.heap.size 5 i0 _ 1 Try.underlying24 hi hz0 hz1 hz2 rfl _ _ _ rfl h3 .u8 _ _ _ _ rfl hsl (by simp only [maxLen]; omega) (by omega) hs ?_
               intro A' c' w2 hown' hgrow)
  have hb := grown_low h4 h3 hgrow hs
  go_ret
  refine mk_own (m := m1 + n) ?_ hb
  unfold encB
  rw [List.map_append, hL.out]
  exact hown'

set_option maxHeartbeats 1000000 in
theorem ref_ints (A : Option Addr) (n c : Nat) (zs : List Int) (w : World) (hz : Lst 3 .i64 w.heap.size w A n c zs) (hi : ∀ x ∈ zs, I64 x) (hn : n ≤ 1000) :
    Calls Try.prog 31 #[.slice A n c] w (Mk 5 .u8 w (encL zs)) := by
  obtain ⟨i0, hi0, hz0, hz1, hz2⟩ := info_parts info_byte
  have hI := hz.ints
  have hL := Lib.hid hz.len
  have HI := Lib.hid hi
  have HU := Lib.hid (ref_uint n w ⟨by omega, by omega⟩)
  have hw : IntKind.u64.wrap (n : Int) = n := by rw [IntKind.wrap_u64]; omega
  clear hz hi
  go_enter Try.func31, Try.ntmps31
  go_wp2_with fail
  refine HU.out.mono ?_
  rintro e w1 ⟨A1, m1, c1, rfl, h1, -, h3, h4⟩
  have hm : m1 ≤ 10 := by rw [← h1]; exact encU_len _
  have H1 := Lib.hid h1
  clear hw h1
  go_wp2_with fail
  go_loopw [3, 4] (fun o i wr => ∃ (k : Nat) (A' : Option Addr) (l c' : Nat) (bs : List Int), k ≤ n ∧ i = .int .i64 k ∧ o = .slice A' l c' ∧ l ≤ 10 + 10 * k ∧ Hid (bs.length = l) ∧ Hid (bs = encU n ++ (zs.take k).flatMap encI) ∧ wr.ownsRow w.heap.size 5 1 (.slice A' l c') l (bs.map (Value.int .u8)) ∧ Below w.heap.size w wr) (fun _ i _ => n - (intOf i).toNat)
  case atStart => exact ⟨0, A1, m1, c1, encU n, Nat.zero_le _, rfl, rfl, by omega, H1.out, (by show _ = _; simp), h3, h4⟩
  case round =>
    obtain ⟨k, A', l, c', bs, hk, rfl, rfl, hl, hbl, hbs, hrow, hB⟩ := hrel
    have hBz := hB.size
    by_cases hlt : k < n
    · obtain ⟨b, off, rfl, hbb, hcs⟩ := hI.at_ (by omega)
      have hck := (hB.cell (p := ⟨b, off + k, none⟩) hbb).trans (hcs k hlt)
      have HS := Lib.hid (take_succ_getD zs k (by rw [hL.out]; exact hlt))
      have hx := HI.out _ (getD_mem (l := zs) (j := k) (by rw [hL.out]; exact hlt))
      obtain ⟨x, ex⟩ : ∃ x, zs[k]?.getD 0 = x := ⟨_, rfl⟩
      rw [ex] at hck HS hx
      have HC := Lib.hid (ref_int x wr hx)
      clear ex hI hcs
      go_wp2_with fail
      refine HC.out.mono ?_
      rintro e w2 ⟨A2, m2, c2, rfl, g1, g2, -, g4⟩
      have hm2 : m2 ≤ 10 := by rw [← g1]; exact encU_len _
      have hrow2 := row_up hrow g4
      have hsl := g2.slc
      have G1 := Lib.hid g1
      have hB2 := hB.trans (g4.mono hBz)
      clear g1 g2
      go_wp2_with (at_builtin
                   refine wpList_append_slc rfl _ _ 24 rfl w.heap.size 5 i0 _ 1 Try.underlying24 hi0 hz0 hz1 hz2 rfl _ _ _ rfl hrow2 .u8 _ _ _ _ rfl hsl (by simp only [maxLen]; omega) (by omega) hB2.size ?_
                   intro A3 c3 w3 hown' hgrow)
      have hb := grown_low hB2 hrow2 hgrow hB2.size
      go_roundw
      case rel => exact ⟨k + 1, A3, l + m2, c3, bs ++ encI x, by omega, by go_num, rfl, by omega, (by show _ = _; rw [List.length_append, hbl.out, G1.out]), (by show _ = _; rw [hbs.out, HS.out, List.flatMap_append]; simp), (by rw [List.map_append]; exact hown'), hb⟩
      case measure => simp [intOf]; omega
    · obtain rfl : n = k := by omega
      have e : zs.take n = zs := List.take_of_length_le (by rw [hL.out]; omega)
      rw [e] at hbs
      clear e hI
      go_wp2_with fail
      go_ret
      have hfin := mk_own (m := l) hrow hB
      have hE : bs = encL zs := by rw [hbs.out]; unfold encL; rw [hL.out]
      rw [hE] at hfin
      exact hfin
end Go.Proofs.Ytcojbloflaeefaa
