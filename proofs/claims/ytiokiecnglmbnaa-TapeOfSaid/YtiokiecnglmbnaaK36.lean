/-
  The reference's Get. No condition but the slice's length.
  The reference's encoders give the encodings of the mathematics. Condition: lengths of which we speak.
-/
import Derived.Test.YtiokiecnglmbnaaK4
import Derived.BigQuiet
import Derived.Test.YtiokiecnglmbnaaK3

namespace Go.Proofs.Ytiokiecnglmbnaa
open Go Go.RowKit Go.Proofs
attribute [local go_sem] Oper.semAt_some

set_option maxHeartbeats 4000000 in
set_option maxRecDepth 100000 in
theorem refGet_any (EA : Option Addr) (ne ce : Nat) {AA : Option Addr} {na ca : Nat} (q : NM.Qu) {l : List TP.An} (w : World) (ha : Ans w AA na l) (bn : na ≤ 1000000) :
    Calls Try.prog 22 #[.agg #[.slice EA ne ce, .slice AA na ca], quV q] w fun e w' => e = .returned (.int .i64 (TP.getA l q)) ∧ Below w.heap.size w w' := by
  obtain ⟨U, hU, hb, k1, k2, hlt⟩ := two_boxes w (.cells #[.slice EA ne ce, .slice AA na ca] 26) (.cells #[.int .i64 q.c, .int .i64 q.h, .int .i64 q.t, .int .i64 q.k, .int .i64 q.i] 30)
  have HA := Lib.hid (ha.keep hb)
  have HK := Lib.hid (fun (V : World) (hV : Below U.heap.size U V) => And.intro ((hV.cell (p := ⟨w.heap.size, 1, none⟩) (by show w.heap.size < _; omega)).trans (cell_of_row U _ 1 _ _ (0, 0) k1)) (row5 ((hV.block _ hlt).trans k2)))
  have HB := Lib.hid hb
  have HN := Lib.hid ha.1
  clear k1 k2 hb ha
  go_enter Try.func22, Try.ntmps22
  go_wp2_with fail
  clear hU
  go_loopw [5, 6] (fun x i V => ∃ k : Nat, k ≤ na ∧ i = .int .i64 (k : Int) ∧ x = .int .i64 (TP.getA (l.take k) q) ∧ Hid (Below U.heap.size U V)) (fun _ i _ => na - (intOf i).toNat)
  case atStart => exact ⟨0, by omega, rfl, by rw [List.take_zero]; rfl, Below.refl _ _⟩
  case round =>
    obtain ⟨k, hk, rfl, rfl, HV⟩ := hrel
    obtain ⟨d1, f0, f1, f2, f3, f4⟩ := HK.out wr HV.out
    by_cases hin : k < na
    · have dk : decide (k < na) = true := decide_eq_true hin
      obtain ⟨x, hx⟩ : ∃ x, l[k]? = some x := ⟨_, List.getElem?_eq_getElem (by rw [HN.out]; exact hin)⟩
      obtain ⟨g, hg, hgl, hxa⟩ := HA.out.2 (by omega)
      obtain ⟨c0, c1, c2, c3, c4, c5⟩ := (hxa k x hx).keep hgl HV.out
      subst hg
      have HS := Lib.hid (show TP.getA (l.take (k + 1)) q = if x.1 = q then max 0 x.2 else TP.getA (l.take k) q from by rw [List.take_add_one, hx]; exact TP.getA_snoc _ _ _)
      have heq : ∀ V, (binOp .eql 30 (quV x.1) (quV q)).run Try.prog V = .ok (.bool (decide (x.1 = q))) V := fun V => eqQ_any x.1 q V
      clear hxa hx
      by_cases hxq : x.1 = q
      · have dq : decide (x.1 = q) = true := decide_eq_true hxq
        simp only [dq] at heq
        have HT := Lib.hid (show TP.getA (l.take (k + 1)) q = max 0 x.2 from by rw [HS.out, if_pos hxq])
        clear HS hxq dq
        go_wp2_with (go_quiet (fail))
        go_roundw
        case rel => exact ⟨k + 1, by omega, by go_num, by rw [HT.out]; congr 1; show (if 0 < x.2 then x.2 else 0) = max 0 x.2; split <;> omega, HV.out.trans ((drewN_below wr _).mono HV.out.size)⟩
        case measure => simp [intOf]; omega
      · have dq : decide (x.1 = q) = false := decide_eq_false hxq
        simp only [dq] at heq
        have HT := Lib.hid (show TP.getA (l.take (k + 1)) q = TP.getA (l.take k) q from by rw [HS.out, if_neg hxq])
        clear HS hxq dq
        go_wp2_with (go_quiet (fail))
        go_roundw
        case rel => exact ⟨k + 1, by omega, by go_num, by rw [HT.out], HV.out.trans ((drewN_below wr _).mono HV.out.size)⟩
        case measure => simp [intOf]; omega
    · have dk : decide (k < na) = false := decide_eq_false hin
      have HT := Lib.hid (show TP.getA (l.take k) q = TP.getA l q from by rw [List.take_of_length_le (by have := HN.out; omega)])
      go_wp2_with fail
      go_ret
      exact ⟨by rw [← HT.out]; rfl, HB.out.trans (HV.out.mono HB.out.size)⟩
end Go.Proofs.Ytiokiecnglmbnaa

namespace Go.Proofs.Ytiokiecnglmbnaa
open Go Go.RowKit

theorem grown_low {base : Nat} {w wr w1 : World} {v : Value} {n : Nat} {xs : List Value} {e : TypeId} {size : Nat} (hB : Below base w wr) (hrow : wr.ownsRow base e size v n xs) (hg : wr.grownBy w1 v.ownBlock) (hb : base ≤ wr.heap.size) : Below base w w1 :=
  hB.grown hg hb fun k e => (hrow.lt k e).1
theorem row_up {w w' : World} {base size n : Nat} {t : TypeId} {v : Value} {xs : List Value} (h : w.ownsRow base t size v n xs) (hb : Below w.heap.size w w') : w'.ownsRow base t size v n xs := by
  obtain ⟨h1, h2⟩ := h
  refine ⟨h1, ?_⟩
  rcases h2 with h2 | ⟨g, cap, cur, hv, hg, hh, r⟩
  · exact .inl h2
  · exact .inr ⟨g, cap, cur, hv, hg, (hb.block g (heap_lt hh)).trans hh, r⟩

set_option maxHeartbeats 1000000 in
theorem ref_uint (n : Int) (w : World) (hn : W64 n) :
    Calls Try.prog 55 #[.int .u64 n] w (Mk 5 .u8 w (encU n)) := by
  obtain ⟨i0, hi, hz0, hz1, hz2⟩ := info_parts info_byte
  obtain ⟨hn0, hn1⟩ := hn
  go_enter Try.func55, Try.ntmps55
  go_wp2
  go_loopw [0, 3] (fun x o wr => ∃ (f : Nat) (m : Int) (pre : List Int) (A : Option Addr) (l c : Nat), f < 10 ∧ 0 ≤ m ∧ m < 2 * 128 ^ f ∧ m < 18446744073709551616 ∧ x = .int .u64 m ∧ o = .slice A l c ∧ l + f = 9 ∧ Hid (pre.length = l) ∧ Hid (pre ++ encF (f + 1) m = encU n) ∧ wr.ownsRow w.heap.size 5 1 (.slice A l c) l (pre.map (Value.int .u8)) ∧ Below w.heap.size w wr) (fun x _ _ => (intOf x).toNat)
  case atStart => exact ⟨9, n, [], none, 0, 0, by omega, hn0, by simpa using hn1, hn1, rfl, rfl, rfl, rfl, rfl, ⟨rfl, .inl ⟨rfl, rfl⟩⟩, Below.refl _ _⟩
  case round =>
    obtain ⟨f, m, pre, A, l, c, hf, h0, h1, h2, rfl, rfl, hlf, hpl, hE, hrow, hB⟩ := hrel
    have hBz := hB.size
    by_cases hlt : m < 128
    · have hge : ¬ 127 < m := by omega
      go_wp2_with (at_builtin
                   refine wpList_append_slc rfl _ _ 60 rfl w.heap.size 5 i0 _ 1 Try.underlying60 hi hz0 hz1 hz2 rfl _ _ _ rfl (hrow.alloc _) .u8 _ _ _ _ rfl (slc_one _ _ _ _) (by simp only [maxLen]; omega) (by omega) (by simp; omega) ?_
                   intro A' c' w1 hown' hgrow)
      have hb := grown_low (hB.alloc hBz _) (hrow.alloc _) hgrow (by simp; omega)
      rw [encF_last f m hlt] at hE
      go_ret
      refine mk_own (m := l + 1) ?_ hb
      rw [← hE.out, List.map_append]
      exact hown'
    · have hge : 127 < m := by omega
      obtain ⟨q, rfl⟩ : ∃ q, f = q + 1 := ⟨f - 1, by
        rcases f with _ | f
        · simp at h1; omega
        · omega⟩
      have h1' : m / 128 < 2 * 128 ^ q := by rw [Int.pow_succ] at h1; omega
      have hE2 := Lib.hid (encF_step (q + 1) m hlt)
      clear h1
      go_wp2_with (at_builtin
                   refine wpList_append_slc rfl _ _ 60 rfl w.heap.size 5 i0 _ 1 Try.underlying60 hi hz0 hz1 hz2 rfl _ _ _ rfl (hrow.alloc _) .u8 _ _ _ _ rfl (slc_one _ _ _ _) (by simp only [maxLen]; omega) (by omega) (by simp; omega) ?_
                   intro A' c' w1 hown' hgrow)
      have hb := grown_low (hB.alloc hBz _) (hrow.alloc _) hgrow (by simp; omega)
      go_roundw
      case rel => exact ⟨q, m / 128, pre ++ [128 + m % 128], _, l + 1, _, by omega, by omega, h1', by omega, rfl, rfl, by omega, (by show _ = _; rw [List.length_append, hpl.out]; rfl), (by show _ = _; rw [← hE.out, hE2.out]; simp), (by rw [List.map_append]; exact hown'), hb⟩
      case measure => simp [intOf]; omega

set_option maxHeartbeats 400000 in
theorem ref_zig (n : Int) (h : I64 n) (w : World) :
    Calls Try.prog 92 #[.int .i64 n] w fun e w' => e = .returned (.int .u64 (zig n)) ∧ w = w' := by
  obtain ⟨h0, h1⟩ := h
  by_cases hn : n < 0
  · have H := Lib.hid (show zig n = 2 * -(n + 1) + 1 by unfold zig; rw [if_pos hn]; omega)
    go_enter Try.func92, Try.ntmps92
    go_wp2
    go_ret
    exact ⟨by rw [H.out]; rfl, rfl⟩
  · have H := Lib.hid (show zig n = 2 * n by unfold zig; rw [if_neg hn])
    go_enter Try.func92, Try.ntmps92
    go_wp2
    go_ret
    exact ⟨by rw [H.out]; rfl, rfl⟩

set_option maxHeartbeats 400000 in
theorem ref_int (n : Int) (w : World) (h : I64 n) :
    Calls Try.prog 75 #[.int .i64 n] w (Mk 5 .u8 w (encI n)) := by
  go_enter Try.func75, Try.ntmps75
  go_wp2_with fail
  refine (ref_zig n h _).mono ?_
  rintro e w1 ⟨rfl, rfl⟩
  go_wp2_with fail
  refine (ref_uint (zig n) _ (zig_w h)).mono ?_
  rintro e w1 ⟨A, m, c, rfl, h1, h2⟩
  have H1 := Lib.hid h1
  clear h1
  go_wp2_with fail
  go_ret
  exact ⟨A, m, c, rfl, H1.out, h2⟩
end Go.Proofs.Ytiokiecnglmbnaa
