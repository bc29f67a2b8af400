/-
  The walk of the law WirePrefix: a proper beginning of an encoding is too short, a further byte is one too many. No condition beyond the arguments' readings.
-/
import Derived.Test.YtpnahndgfnkinaaWLives
import Derived.Test.YtpnahndgfnkinaaWVals
import Derived.Test.YtpnahndgfnkinaaWShort
namespace Go.Proofs.Ytpnahndgfnkinaa.LawWirePrefix
open Go Go.RowKit

theorem Lst.cut {t : TypeId} {k : IntKind} {B n c : Nat} {w : World} {A : Option Addr} {zs : List Int} (h : Lst t k B w A n c zs) (a : Nat) (ha : a ≤ n) : Lst t k B w A a c (zs.take a) := by
  obtain ⟨h1, h2, h3, h4⟩ := h
  refine ⟨by rw [List.length_take]; omega, by omega, h3, ?_⟩
  rcases h4 with h4 | ⟨b, off, C, e, hb, hc, hj⟩
  · exact .inl h4
  · exact .inr ⟨b, off, C, e, hb, hc, fun j hja => by rw [hj j (by omega), List.getElem?_take_of_lt hja]⟩
theorem encV_good {x : V} (h : x.good) : (encV x).length ≤ 50 := by
  obtain ⟨_, _, h5, h6⟩ := h
  unfold encV
  have a := encU_len x.u
  have b := encU_len (zig x.n)
  have c := encU_len x.b.length
  have d := encU_len x.l.length
  have e := encI_le x.l
  split
  · omega
  · split
    · unfold encI; omega
    · split
      · unfold encB; rw [List.length_append]; omega
      · unfold encL; rw [List.length_append]; omega
theorem encVs_good (xs : List V) (h : ∀ x ∈ xs, x.good) : (encVs xs).length ≤ 50 * xs.length := by
  induction xs with
  | nil => simp [encVs]
  | cons x xs ih =>
    have h1 := encV_good (h x (by simp))
    have h2 := ih (fun y hy => h y (by simp [hy]))
    unfold encVs at *
    rw [List.flatMap_cons, List.length_append, List.length_cons]
    omega
theorem encV_b8 {x : V} (h : x.good) : ∀ y ∈ encV x, B8 y := by
  obtain ⟨⟨h1, h2, h3, h4, _⟩, _⟩ := h
  intro y hy
  unfold encV at hy
  split at hy
  · exact encU_b8 h1.1 y hy
  · split at hy
    · exact encU_b8 (zig_w h2).1 y hy
    · split at hy
      · unfold encB at hy
        rcases List.mem_append.1 hy with hy | hy
        · exact encU_b8 (by omega) y hy
        · exact h3 y hy
      · unfold encL at hy
        rcases List.mem_append.1 hy with hy | hy
        · exact encU_b8 (by omega) y hy
        · obtain ⟨z, hz, hy⟩ := List.mem_flatMap.1 hy
          exact encU_b8 (zig_w (h4 z hz)).1 y hy
theorem encVs_b8 (xs : List V) (h : ∀ x ∈ xs, x.good) : ∀ y ∈ encVs xs, B8 y := by
  intro y hy
  obtain ⟨x, hx, hy⟩ := List.mem_flatMap.1 hy
  exact encV_b8 (h x hx) y hy
/-- The world and the slice of values behind Vals. -/
theorem vals_vls (A : Option Addr) (n c : Nat) (zs : List Int) (w : World) (hI : Ints .i64 w.heap.size w A n zs) (hi : ∀ x ∈ zs, I64 x) (hn : n ≤ 9223372036854775807) :
    Calls Try.prog 11 #[.slice A n c] w fun e w' => ∃ A' n' c' xs, e = .returned (.slice A' n' c') ∧ n' ≤ 8 ∧ xs.length = n' ∧ (∀ x ∈ xs, V.good x) ∧ Vls w'.heap.size w' A' n' c' xs ∧ Below w.heap.size w w' :=
  (vals_any A n c zs w hI hi hn).mono fun _ _ ⟨A', n', c', xs, _, h1, h2, h3, h4, h5, h6, h7⟩ => ⟨A', n', c', xs, h1, h2, h3, h4, Vls.of_own h5 h6, h7⟩

theorem Vls.kind {B n c k : Nat} {w : World} {A : Option Addr} {xs : List V} (h : Vls B w A n c xs) (hk : k < n) : ∃ b off x, A = some ⟨b, off, none⟩ ∧ xs[k]? = some x ∧ w.cell? ⟨b, off + k * 5, none⟩ = some (.int .i64 x.kind) := by
  obtain ⟨b, off, x, c0, c1, c2, c3, c4, e, _, hx, ⟨_, _, _, _, _, _, ea, _⟩, q0, _⟩ := h.at_ hk
  injection ea with ea
  simp only [Array.mk.injEq, List.cons.injEq] at ea
  exact ⟨b, off, x, e, hx, by rw [q0, ea.1]⟩
/-- Another reader has read. -/
theorem InAt.other {B g g' : Nat} {w w' : World} {s s' : St} {B' : Nat} (h : InAt B w g s) (h' : InAt B' w g' s') (hb : But g' w w') (hne : g ≠ g') : InAt B w' g s := by
  obtain ⟨cs, hcs⟩ := h'.struct
  exact h.grown hb (fun e => hne (by injection e)) fun b e => .inr fun C hC => by
    injection e with e
    subst e
    exact heap_ne hcs hC (by decide) rfl

set_option maxRecDepth 100000 in
set_option maxHeartbeats 4000000 in
theorem walk (a0 : Option Addr) (len0 cap0 : Nat) (z0 : List Int) (a1 : Int) (a2 : Int) (w : World) (w0 : Row .i64 w a0 len0 cap0 z0) (w1 : (Lit.int .i64 a1).wf = true) (w2 : (Lit.int .u8 a2).wf = true) :
    Calls Try.prog 7 #[.slice a0 len0 cap0, .int .i64 a1, .int .u8 a2] w fun e w' => e = .returned (.bool true) ∧ Below w.heap.size w w' := by
  have hb1 := bounds_i64 w1
  have hb2 := bounds_u8 w2
  obtain ⟨hI0, hlc0, hcm0, hwf0⟩ := w0.ints
  unfold maxLen at hcm0
  have HV := Lib.hid (vals_vls a0 len0 cap0 _ w hI0 (i64_of hwf0) (by omega))
  obtain ⟨i0, hi0, hz0, hz1, hz2⟩ := info_parts info_byte
  clear w0 w1 w2 hI0 hlc0 hcm0 hwf0
  go_enter Try.func7, Try.ntmps7
  go_wp2_with fail
  refine HV.out.mono ?_
  rintro e u1 ⟨A1, n1, c1, xs, rfl, hn8, hxl, hxg, hV, hbw1⟩
  have HE := Lib.hid (encode_any A1 n1 c1 xs u1 hV (fun x hx => (hxg x hx).1) (by omega))
  have hlen := encVs_good xs hxg
  have H8 := Lib.hid (encVs_b8 xs hxg)
  have HXL := Lib.hid hxl
  have HXG := Lib.hid hxg
  have hl400 : (encVs xs).length ≤ 400 := by omega
  have hs1 := hbw1.size
  clear hxl hxg hlen
  go_wp2_with fail
  refine HE.out.mono ?_
  rintro e u2 ⟨A2, n2, c2, rfl, hn2, hL2, hO2, hbw2⟩
  have hn400 : n2 ≤ 400 := by omega
  have HN2 := Lib.hid hn2
  have B2 := hbw1.trans (hbw2.mono hs1)
  have hV2 := hV.below hbw2
  have hs2 := hbw2.size
  clear hn2 hV hO2 hl400
  by_cases hn0 : n2 = 0
  · have hz0' : ((n2 : Int) == 0) = true := by simp [hn0]
    have HNN := Lib.hid (newin_any none 0 0 [] u2 0 (Lst.none_ _ _ _ _) (by decide) (fun x hx => by cases hx))
    clear hn0 hV2 hL2
    go_wp2_with fail
    refine HNN.out.mono ?_
    rintro e u3 ⟨g, rfl, hg, hin, hbw3⟩
    have B3 := B2.trans (hbw3.mono B2.size)
    go_wp2_with fail
    refine (in_end g _ u3 hin).mono ?_
    rintro e u4 ⟨rfl, rfl⟩
    simp only [St.endE]
    go_wp2_with fail
    refine (lives_any u3).mono ?_
    rintro e u4 ⟨rfl, hbw4⟩
    go_wp2_with fail
    go_ret
    exact ⟨rfl, B3.trans (hbw4.mono B3.size)⟩
  · have hnz : ((n2 : Int) == 0) = false := by simp; omega
    obtain ⟨r0, r1⟩ := around_in a1 n2 (by omega)
    have HA := Lib.hid (around_any a1 n2 ⟨by omega, by omega⟩ (by omega) (by omega) u2)
    obtain ⟨a, ha⟩ : ∃ a, around a1 n2 = a := ⟨_, rfl⟩
    rw [ha] at HA r0 r1
    obtain ⟨a, rfl⟩ := Int.eq_ofNat_of_zero_le r0
    have ha2 : a < n2 := by omega
    have hnc := hL2.le
    clear ha hn0
    go_wp2_with fail
    refine HA.out.mono ?_
    rintro e u2' ⟨rfl, rfl⟩
    have HN3 := Lib.hid (newin_any A2 a c2 _ u2 _ (Lst.cut hL2 a (by omega)) (by omega) (fun x hx => H8.out x (List.mem_of_mem_take hx)))
    have HF := Lib.hid (fun u (hu : Below u2.heap.size u2 u) => few_any A2 n2 c2 _ n2 (by omega) (by omega) u (hL2.below hu).slc)
    clear hL2
    go_wp2_with fail
    refine HN3.out.mono ?_
    rintro e u3 ⟨g1, rfl, hg1, hin1, hbw3⟩
    have B3 := B2.trans (hbw3.mono B2.size)
    have hs3 := hbw3.size
    go_wp2_with fail
    refine (HF.out u3 hbw3).mono ?_
    rintro e u4 ⟨A4, n4, c4, rfl, hn4, hL4, hO4, hbw4⟩
    have hs4 := hbw4.size
    have hn4' : n4 ≤ 400 := by rw [← hn4, List.length_take]; omega
    have e4 : (encVs xs).take (n2 : Int).toNat = encVs xs := List.take_of_length_le (by rw [HN2.out]; omega)
    rw [e4] at hO4
    clear hn4 hL4 e4
    go_wp2_with (at_builtin
                 refine wpList_append_slc rfl _ _ 24 rfl u3.heap.size 5 i0 _ 1 Try.underlying24 hi0 hz0 hz1 hz2 rfl _ _ _ rfl (hO4.alloc _) .u8 _ _ _ _ rfl (slc_one _ _ _ _) (by simp only [maxLen]; omega) (by omega) (by simp; omega) ?_
                 intro A5 c5 u5 hO5 hg5)
    have b5 : Below u3.heap.size u4 u5 := ((Below.refl u3.heap.size u4).alloc hs4 _).grown hg5 (by simp; omega) (fun k e => (hO4.lt k e).1)
    have hs5 := b5.size
    have B4 := B3.trans (hbw4.mono B3.size)
    have B5 := B4.trans (b5.mono B3.size)
    have b35 := hbw4.trans b5
    have hL5 : Lst 5 .u8 u5.heap.size u5 A5 (n4 + 1) c5 (encVs xs ++ [a2]) := Lst.of_own (by rw [List.map_append]; exact hO5)
    have HN5 := Lib.hid (newin_any A5 (n4 + 1) c5 _ u5 _ hL5 (by omega) (fun x hx => by
      rcases List.mem_append.1 hx with hx | hx
      · exact H8.out x hx
      · have e : x = a2 := by simpa using hx
        subst e
        unfold B8
        omega))
    have hin1a := hin1.below b35
    clear hg5 hO4 hO5 hL5 hin1
    go_wp2_with fail
    refine HN5.out.mono ?_
    rintro e u6 ⟨g2, rfl, hg2, hin2, hbw6⟩
    have hs6 := hbw6.size
    have B6 := B5.trans (hbw6.mono B5.size)
    have hin1b := hin1a.below hbw6
    have b26 : Below u2.heap.size u2 u6 := (hbw3.trans (b35.mono hs3)).trans (hbw6.mono (by omega))
    have hV6 := (hV2.below (b26.mono hs2))
    have hne : g1 ≠ g2 := by have := hin1a.lt; omega
    clear hin1a hV2
    go_wp2_with fail
    go_loopw [12] (fun i wr => ∃ k : Nat, k ≤ n1 ∧ i = .int .i64 k ∧ InAt u3.heap.size wr g1 (rdAll 10 (xs.take k) (.ok ((encVs xs).take a))) ∧ InAt u6.heap.size wr g2 (rdAll 10 (xs.take k) (.ok (encVs xs ++ [a2]))) ∧ Below u2.heap.size u6 wr ∧ u6.heap.size ≤ wr.heap.size) (fun i _ => n1 - (intOf i).toNat)
    case atStart => exact ⟨0, Nat.zero_le _, rfl, hin1b, hin2, Below.refl _ _, Nat.le_refl _⟩
    case round =>
      obtain ⟨k, hk, rfl, hA1, hA2, hBr, hsr⟩ := hrel
      clear hin1b hin2
      have hVr := hV6.below (hBr.mono hs2)
      by_cases hlt : k < n1
      · obtain ⟨b, off, x, rfl, hxk, hck⟩ := Vls.kind hVr hlt
        have hxg := (HXG.out x (List.mem_of_getElem? hxk)).1
        obtain ⟨_, _, _, _, _, _, hkd⟩ := hxg
        have HR1 := Lib.hid (read_any g1 _ x.kind 10 wr hA1 (by omega) ⟨by decide, by decide⟩ hkd)
        have HK := Lib.hid hxk
        clear hVr hxk
        go_wp2_with fail
        refine HR1.out.mono ?_
        rintro e v1 ⟨va, rfl, -, hA1', hbv⟩
        have hA2' := InAt.other hA2 hA1 hbv (Ne.symm hne)
        have hBv := below_but hBr hbv hg1 (by omega)
        have hsv := hbv.size
        obtain ⟨b', off', x', e', hxk', hck'⟩ := Vls.kind (hV6.below (hBv.mono hs2)) hlt
        injection e' with e'
        injection e' with e1 e2
        subst e1 e2
        have ex : x' = x := by have := HK.out; rw [hxk'] at this; injection this
        subst ex
        have HR2 := Lib.hid (read_any g2 _ x'.kind 10 v1 hA2' (by omega) ⟨by decide, by decide⟩ hkd)
        clear hxk' hck hA1 hA2
        go_wp2_with fail
        refine HR2.out.mono ?_
        rintro e v2 ⟨va2, rfl, -, hA2'', hbv2⟩
        have hA1'' := InAt.other hA1' hA2' hbv2 hne
        have hBv2 := below_but hBv hbv2 (by omega) (by omega)
        have hsv2 := hbv2.size
        clear hA1' hA2' hck'
        go_wp2_with fail
        go_roundw
        case rel => exact ⟨k + 1, by omega, by go_num, by rw [rdAll_snoc 10 xs k x' _ HK.out]; exact hA1'', by rw [rdAll_snoc 10 xs k x' _ HK.out]; exact hA2'', hBv2, by omega⟩
        case measure => simp [intOf]; omega
      · obtain rfl : n1 = k := by omega
        have et : xs.take n1 = xs := List.take_of_length_le (by rw [HXL.out]; omega)
        rw [et, rdAll_take xs a HXG.out (by rw [HN2.out]; exact ha2)] at hA1
        rw [et, rdAll_enc xs [a2] HXG.out] at hA2
        have B7 := B6.trans (hBr.mono (by omega))
        clear et hVr hV6
        go_wp2_with fail
        refine (in_err g1 _ wr hA1).mono ?_
        rintro e v1 ⟨rfl, rfl⟩
        simp only [St.err]
        go_wp2_with fail
        refine (in_end g1 _ wr hA1).mono ?_
        rintro e v1 ⟨rfl, rfl⟩
        simp only [St.endE]
        go_wp2_with fail
        refine (in_err g2 _ wr hA2).mono ?_
        rintro e v1 ⟨rfl, rfl⟩
        simp only [St.err]
        go_wp2_with fail
        refine (in_end g2 _ wr hA2).mono ?_
        rintro e v1 ⟨rfl, rfl⟩
        simp only [St.endE]
        go_wp2_with fail
        refine (lives_any wr).mono ?_
        rintro e v1 ⟨rfl, hbv⟩
        go_wp2_with fail
        go_ret
        exact ⟨rfl, B7.trans (hbv.mono B7.size)⟩
end Go.Proofs.Ytpnahndgfnkinaa.LawWirePrefix
