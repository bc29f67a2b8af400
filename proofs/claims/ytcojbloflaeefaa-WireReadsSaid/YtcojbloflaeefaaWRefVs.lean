/-
  The reference's Encode gives the encodings of a slice of values. Condition: the values are such as the laws make.
-/
import Derived.Test.YtcojbloflaeefaaWRefEnc
namespace Go.Proofs.Ytcojbloflaeefaa
open Go Go.RowKit

/-- The element i of a slice of values, its cells written out. -/
theorem Vls.cells {B n c i : Nat} {w : World} {A : Option Addr} {xs : List V} (h : Vls B w A n c xs) (hi : i < n) :
    ∃ b off x bA bn bc lA ln lc, A = some ⟨b, off, none⟩ ∧ b < B ∧ xs[i]? = some x ∧ Lst 5 .u8 B w bA bn bc x.b ∧ Lst 3 .i64 B w lA ln lc x.l ∧
      w.cell? ⟨b, off + i * 5, none⟩ = some (.int .i64 x.kind) ∧ w.cell? ⟨b, off + i * 5 + 1, none⟩ = some (.int .u64 x.u) ∧ w.cell? ⟨b, off + i * 5 + 2, none⟩ = some (.int .i64 x.n) ∧ w.cell? ⟨b, off + i * 5 + 3, none⟩ = some (.slice bA bn bc) ∧ w.cell? ⟨b, off + i * 5 + 4, none⟩ = some (.slice lA ln lc) := by
  obtain ⟨b, off, x, c0, c1, c2, c3, c4, e, hb, hx, ⟨bA, bn, bc, lA, ln, lc, ea, h1, h2⟩, q0, q1, q2, q3, q4⟩ := h.at_ hi
  injection ea with ea
  simp only [Array.mk.injEq, List.cons.injEq] at ea
  obtain ⟨rfl, rfl, rfl, rfl, rfl, _⟩ := ea
  exact ⟨b, off, x, bA, bn, bc, lA, ln, lc, e, hb, hx, h1, h2, q0, q1, q2, q3, q4⟩

set_option maxHeartbeats 2000000 in
theorem ref_encode (A : Option Addr) (n c : Nat) (xs : List V) (w : World) (h : Vls w.heap.size w A n c xs) (hx : ∀ x ∈ xs, x.wf) (hn : n ≤ 40) :
    Calls Try.prog 12 #[.slice A n c] w (Mk 5 .u8 w (encVs xs)) := by
  obtain ⟨i0, hi0, hz0, hz1, hz2⟩ := info_parts info_byte
  have HX := Lib.hid hx
  have HL := Lib.hid h.1
  clear hx
  go_enter Try.func12, Try.ntmps12
  go_wp2
  go_loopw [3, 4] (fun o i wr => ∃ (k : Nat) (A' : Option Addr) (l c' : Nat) (bs : List Int), k ≤ n ∧ i = .int .i64 k ∧ o = .slice A' l c' ∧ l ≤ 10010 * k ∧ Hid (bs.length = l) ∧ Hid (bs = encVs (xs.take k)) ∧ wr.ownsRow w.heap.size 5 1 (.slice A' l c') l (bs.map (Value.int .u8)) ∧ Below w.heap.size w wr) (fun _ i _ => n - (intOf i).toNat)
  case atStart => exact ⟨0, none, 0, 0, [], Nat.zero_le _, rfl, rfl, by omega, rfl, (by show _ = _; simp [encVs]), ⟨rfl, .inl ⟨rfl, rfl⟩⟩, Below.refl _ _⟩
  case round =>
    obtain ⟨k, A', l, c', bs, hk, rfl, rfl, hl, hbl, hbs, hrow, hB⟩ := hrel
    have hBz := hB.size
    by_cases hlt : k < n
    · obtain ⟨b, off, x, bA, bn, bc, lA, ln, lc, rfl, hbb, hxk, hLb, hLl, q0, q1, q2, q3, q4⟩ := (h.below hB).cells hlt
      have hwf := HX.out x (List.mem_of_getElem? hxk)
      have hel := encV_len hwf
      have HS := Lib.hid (encVs_snoc xs k x hxk)
      obtain ⟨h1, h2, h3, h4, h5, h6, hkd⟩ := hwf
      rw [hLb.len] at h5
      rw [hLl.len] at h6
      have HC0 := Lib.hid (ref_uint x.u wr h1)
      have HC1 := Lib.hid (ref_int x.n wr h2)
      have HC2 := Lib.hid (ref_bytes bA bn bc x.b wr (hLb.more hBz) h5)
      have HC3 := Lib.hid (ref_ints lA ln lc x.l wr (hLl.more hBz) h4 h6)
      obtain ⟨kd, ekd⟩ : ∃ kd, x.kind = kd := ⟨_, rfl⟩
      have HKD := Lib.hid ekd
      rw [ekd] at q0 hkd
      clear h hxk hLb hLl h3 h4 ekd
      rcases hkd with rfl | rfl | rfl | rfl
      · go_wp2_with fail
        refine HC0.out.mono ?_
        rintro e w2 ⟨A2, m2, c2, rfl, g1, g2, -, g4⟩
        have hrow2 := row_up hrow g4
        have hsl := g2.slc
        have hB2 := hB.trans (g4.mono hBz)
        have hE : encV x = encU x.u := by unfold encV; rw [HKD.out]; simp
        rw [← hE] at g1 hsl
        have hm2 : m2 ≤ 10010 := by omega
        have G1 := Lib.hid g1
        clear g1 g2 hE
        go_wp2_with (at_builtin
                     refine wpList_append_slc rfl _ _ 24 rfl w.heap.size 5 i0 _ 1 Try.underlying24 hi0 hz0 hz1 hz2 rfl _ _ _ rfl hrow2 .u8 _ _ _ _ rfl hsl (by simp only [maxLen]; omega) (by omega) hB2.size ?_
                     intro A3 c3 w3 hown' hgrow)
        have hb := grown_low hB2 hrow2 hgrow hB2.size
        go_roundw
        case rel => exact ⟨k + 1, A3, l + m2, c3, bs ++ encV x, by omega, by go_num, rfl, by omega, (by show _ = _; rw [List.length_append, hbl.out, G1.out]), (by show _ = _; rw [hbs.out, HS.out]), (by rw [List.map_append]; exact hown'), hb⟩
        case measure => simp [intOf]; omega
      · go_wp2_with fail
        refine HC1.out.mono ?_
        rintro e w2 ⟨A2, m2, c2, rfl, g1, g2, -, g4⟩
        have hrow2 := row_up hrow g4
        have hsl := g2.slc
        have hB2 := hB.trans (g4.mono hBz)
        have hE : encV x = encI x.n := by unfold encV; rw [HKD.out]; simp
        rw [← hE] at g1 hsl
        have hm2 : m2 ≤ 10010 := by omega
        have G1 := Lib.hid g1
        clear g1 g2 hE
        go_wp2_with (at_builtin
                     refine wpList_append_slc rfl _ _ 24 rfl w.heap.size 5 i0 _ 1 Try.underlying24 hi0 hz0 hz1 hz2 rfl _ _ _ rfl hrow2 .u8 _ _ _ _ rfl hsl (by simp only [maxLen]; omega) (by omega) hB2.size ?_
                     intro A3 c3 w3 hown' hgrow)
        have hb := grown_low hB2 hrow2 hgrow hB2.size
        go_roundw
        case rel => exact ⟨k + 1, A3, l + m2, c3, bs ++ encV x, by omega, by go_num, rfl, by omega, (by show _ = _; rw [List.length_append, hbl.out, G1.out]), (by show _ = _; rw [hbs.out, HS.out]), (by rw [List.map_append]; exact hown'), hb⟩
        case measure => simp [intOf]; omega
      · go_wp2_with fail
        refine HC2.out.mono ?_
        rintro e w2 ⟨A2, m2, c2, rfl, g1, g2, -, g4⟩
        have hrow2 := row_up hrow g4
        have hsl := g2.slc
        have hB2 := hB.trans (g4.mono hBz)
        have hE : encV x = encB x.b := by unfold encV; rw [HKD.out]; simp
        rw [← hE] at g1 hsl
        have hm2 : m2 ≤ 10010 := by omega
        have G1 := Lib.hid g1
        clear g1 g2 hE
        go_wp2_with (at_builtin
                     refine wpList_append_slc rfl _ _ 24 rfl w.heap.size 5 i0 _ 1 Try.underlying24 hi0 hz0 hz1 hz2 rfl _ _ _ rfl hrow2 .u8 _ _ _ _ rfl hsl (by simp only [maxLen]; omega) (by omega) hB2.size ?_
                     intro A3 c3 w3 hown' hgrow)
        have hb := grown_low hB2 hrow2 hgrow hB2.size
        go_roundw
        case rel => exact ⟨k + 1, A3, l + m2, c3, bs ++ encV x, by omega, by go_num, rfl, by omega, (by show _ = _; rw [List.length_append, hbl.out, G1.out]), (by show _ = _; rw [hbs.out, HS.out]), (by rw [List.map_append]; exact hown'), hb⟩
        case measure => simp [intOf]; omega
      · go_wp2_with fail
        refine HC3.out.mono ?_
        rintro e w2 ⟨A2, m2, c2, rfl, g1, g2, -, g4⟩
        have hrow2 := row_up hrow g4
        have hsl := g2.slc
        have hB2 := hB.trans (g4.mono hBz)
        have hE : encV x = encL x.l := by unfold encV; rw [HKD.out]; simp
        rw [← hE] at g1 hsl
        have hm2 : m2 ≤ 10010 := by omega
        have G1 := Lib.hid g1
        clear g1 g2 hE
        go_wp2_with (at_builtin
                     refine wpList_append_slc rfl _ _ 24 rfl w.heap.size 5 i0 _ 1 Try.underlying24 hi0 hz0 hz1 hz2 rfl _ _ _ rfl hrow2 .u8 _ _ _ _ rfl hsl (by simp only [maxLen]; omega) (by omega) hB2.size ?_
                     intro A3 c3 w3 hown' hgrow)
        have hb := grown_low hB2 hrow2 hgrow hB2.size
        go_roundw
        case rel => exact ⟨k + 1, A3, l + m2, c3, bs ++ encV x, by omega, by go_num, rfl, by omega, (by show _ = _; rw [List.length_append, hbl.out, G1.out]), (by show _ = _; rw [hbs.out, HS.out]), (by rw [List.map_append]; exact hown'), hb⟩
        case measure => simp [intOf]; omega
    · obtain rfl : n = k := by omega
      have e : xs.take n = xs := List.take_of_length_le (by rw [HL.out]; omega)
      rw [e] at hbs
      clear e h
      go_wp2_with fail
      go_ret
      have hfin := mk_own (m := l) hrow hB
      rw [hbs.out] at hfin
      exact hfin
end Go.Proofs.Ytcojbloflaeefaa
