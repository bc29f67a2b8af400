/-
  The program's search in a set: the closure of position, sort.Search, position. Conditions: the set is sorted; the length.
-/
import Derived.Test.YtepbppckhfiplaaNwW
import Derived.Test.YtepbppckhfiplaaNwL
import Derived.Test.YtepbppckhfiplaaNmDm
import Derived.BigQuiet
import Derived.Deep.Cut
namespace Go.Proofs.Ytepbppckhfiplaa
open Go Go.RowKit Go.Proofs
attribute [local go_sem] Oper.semAt_some

set_option maxHeartbeats 4000000 in
set_option maxRecDepth 100000 in
/-- Is the name at k not less? -/
theorem notLess_any {g n c k bl bm : Nat} {l : List NW.En} {m : NM.Ms} {x : NW.En} {t : TypeId} (w : World) (h1 : Ens w (some ⟨g, 0, none⟩) n c l) (hl : w.heap[bl]? = some (.cells #[.slice (some ⟨g, 0, none⟩) n c] t (0, 0))) (hm : MsB w bm m) (hx : l[k]? = some x) (hk : k < n) :
    Calls Try.prog 35 #[.int .i64 k, .pointer (some ⟨bl, 0, none⟩), .pointer (some ⟨bm, 0, none⟩)] w fun e w' => e = .returned (.bool (decide (NM.lexL (NM.msL x.m) (NM.msL m) ≥ 0))) ∧ Below w.heap.size w w' := by
  have HX := Lib.hid (fun (V : World) (hV : Below w.heap.size w V) => And.intro ((cell_of_row _ _ 0 _ _ (0, 0) ((hV.block _ (heap_lt hl)).trans hl)).trans rfl) (And.intro (hm.keep hV).cells (en_at (h1.keep hV) hx)))
  have HCM := Lib.hid (fun V => cmpMsg_any x.m m V)
  obtain ⟨r, hr⟩ : ∃ r, NM.lexL (NM.msL x.m) (NM.msL m) = r := ⟨_, rfl⟩
  obtain ⟨b, hb⟩ : ∃ b, decide (NM.lexL (NM.msL x.m) (NM.msL m) ≥ 0) = b := ⟨_, rfl⟩
  rw [hr] at HCM hb
  rw [hr, hb]
  clear hr hx hl hm h1
  go_enter Try.func35, Try.ntmps35
  go_wp2_with fail
  refine RgX.region 9 (fun i => (if i = 8 then 4 else 5 + i)) (fun ix_ => match ix_ with | 0 => .v (.slice (some ⟨g, 0, none⟩) n c) | 1 => .v (.int .i64 (k : Int)) | 2 => .v (.pointer (some ⟨g, k * 9, none⟩)) | 3 => .v (.pointer (some ⟨g, k * 9, none⟩)) | 4 => .v (.agg #[.int .i64 x.m.c, .int .i64 x.m.h, .int .i64 x.m.t, .int .i64 x.m.i, .int .i64 x.m.p]) | 5 => .v (.agg #[.int .i64 m.c, .int .i64 m.h, .int .i64 m.t, .int .i64 m.i, .int .i64 m.p]) | 6 => .v (.int .i64 r) | 7 => .v (.bool b) | 8 => .v (.bool b) | _ => .any) (by kernel_rfl) rfl (by kernel_rfl)  (fun i hi => by show (if i = 8 then 4 else 5 + i) < 13; (repeat' split) <;> omega) (fun i j hi hj => by show (if i = 8 then 4 else 5 + i) = (if j = 8 then 4 else 5 + j) → i = j; (repeat' split) <;> omega) ?step ?fin
  case step =>
    intro L_ A_ w3 ix op_ hI ho hdep
    have hi : ix < 9 := (Array.getElem?_eq_some_iff.1 ho).1
    have hcase : ix = 0 ∨ ix = 1 ∨ ix = 2 ∨ ix = 3 ∨ ix = 4 ∨ ix = 5 ∨ ix = 6 ∨ ix = 7 ∨ ix = 8 := by omega
    have hh := hI.held
    clear hi
    rcases hcase with rfl | rfl | rfl | rfl | rfl | rfl | rfl | rfl | rfl
    · simp only [List.getElem?_toArray, List.getElem?_cons_zero, Option.some.injEq] at ho
      subst ho
      refine ⟨rfl, ?_⟩
      have e1 : A_.tmps[1]?.getD undef = .pointer (some ⟨bl, 0, none⟩) := by rw [hI.low 1 (by decide)]; rfl
      clear hI hdep
      obtain ⟨x9, ⟨m0, m1, m2, m3, m4⟩, g_, hg_, _, x0, x1, x2, x3, x4, _⟩ := HX.out w3 hh
      obtain rfl : g = g_ := by injection hg_ with hg_; injection hg_
      exact .run rfl (.slice (some ⟨g, 0, none⟩) n c) w3 (by simp [execOp, go_sem, Act.eval, *]) (Below.refl _ _) rfl
    · simp only [List.getElem?_toArray, List.getElem?_cons_succ, List.getElem?_cons_zero, Option.some.injEq] at ho
      subst ho
      refine ⟨rfl, ?_⟩
      have e0 : A_.tmps[0]?.getD undef = .int .i64 (k : Int) := by rw [hI.low 0 (by decide)]; rfl
      clear hI hdep
      exact .run rfl (.int .i64 (k : Int)) w3 (by simp [execOp, go_sem, Act.eval, e0]) (Below.refl _ _) rfl
    · simp only [List.getElem?_toArray, List.getElem?_cons_succ, List.getElem?_cons_zero, Option.some.injEq] at ho
      subst ho
      refine ⟨rfl, ?_⟩
      have e5 : A_.tmps[5]?.getD undef = .slice (some ⟨g, 0, none⟩) n c := getD_of (hI.val_ (i := 0) rfl rfl (by decide) (hdep ⟨0, .data⟩ (by simp) rfl))
      have e6 : A_.tmps[6]?.getD undef = .int .i64 (k : Int) := getD_of (hI.val_ (i := 1) rfl rfl (by decide) (hdep ⟨1, .data⟩ (by simp) rfl))
      clear hI hdep
      have hkn : (k : Int) < (n : Int) := by omega
      exact .run rfl (.pointer (some ⟨g, k * 9, none⟩)) w3 (by simp [execOp, go_sem, Act.eval, e5, e6, hkn]) (Below.refl _ _) rfl
    · simp only [List.getElem?_toArray, List.getElem?_cons_succ, List.getElem?_cons_zero, Option.some.injEq] at ho
      subst ho
      refine ⟨rfl, ?_⟩
      have e7 : A_.tmps[7]?.getD undef = .pointer (some ⟨g, k * 9, none⟩) := getD_of (hI.val_ (i := 2) rfl rfl (by decide) (hdep ⟨2, .data⟩ (by simp) rfl))
      clear hI hdep
      exact .run rfl (.pointer (some ⟨g, k * 9, none⟩)) w3 (by simp [execOp, go_sem, Act.eval, e7]) (Below.refl _ _) rfl
    · simp only [List.getElem?_toArray, List.getElem?_cons_succ, List.getElem?_cons_zero, Option.some.injEq] at ho
      subst ho
      refine ⟨rfl, ?_⟩
      have e8 : A_.tmps[8]?.getD undef = .pointer (some ⟨g, k * 9, none⟩) := getD_of (hI.val_ (i := 3) rfl rfl (by decide) (hdep ⟨3, .data⟩ (by simp) rfl))
      clear hI hdep
      obtain ⟨x9, ⟨m0, m1, m2, m3, m4⟩, g_, hg_, _, x0, x1, x2, x3, x4, _⟩ := HX.out w3 hh
      obtain rfl : g = g_ := by injection hg_ with hg_; injection hg_
      exact .run rfl (.agg #[.int .i64 x.m.c, .int .i64 x.m.h, .int .i64 x.m.t, .int .i64 x.m.i, .int .i64 x.m.p]) w3 (by simp [execOp, go_sem, Act.eval, *]) (Below.refl _ _) rfl
    · simp only [List.getElem?_toArray, List.getElem?_cons_succ, List.getElem?_cons_zero, Option.some.injEq] at ho
      subst ho
      refine ⟨rfl, ?_⟩
      have e2 : A_.tmps[2]?.getD undef = .pointer (some ⟨bm, 0, none⟩) := by rw [hI.low 2 (by decide)]; rfl
      clear hI hdep
      obtain ⟨x9, ⟨m0, m1, m2, m3, m4⟩, g_, hg_, _, x0, x1, x2, x3, x4, _⟩ := HX.out w3 hh
      obtain rfl : g = g_ := by injection hg_ with hg_; injection hg_
      exact .run rfl (.agg #[.int .i64 m.c, .int .i64 m.h, .int .i64 m.t, .int .i64 m.i, .int .i64 m.p]) w3 (by simp [execOp, go_sem, Act.eval, *]) (Below.refl _ _) rfl
    · simp only [List.getElem?_toArray, List.getElem?_cons_succ, List.getElem?_cons_zero, Option.some.injEq] at ho
      subst ho
      refine ⟨rfl, ?_⟩
      have e9 : A_.tmps[9]?.getD undef = .agg #[.int .i64 x.m.c, .int .i64 x.m.h, .int .i64 x.m.t, .int .i64 x.m.i, .int .i64 x.m.p] := getD_of (hI.val_ (i := 4) rfl rfl (by decide) (hdep ⟨4, .data⟩ (by simp) rfl))
      have e10 : A_.tmps[10]?.getD undef = .agg #[.int .i64 m.c, .int .i64 m.h, .int .i64 m.t, .int .i64 m.i, .int .i64 m.p] := getD_of (hI.val_ (i := 5) rfl rfl (by decide) (hdep ⟨5, .data⟩ (by simp) rfl))
      clear hI hdep
      exact .call rfl 25 #[.agg #[.int .i64 x.m.c, .int .i64 x.m.h, .int .i64 x.m.t, .int .i64 x.m.i, .int .i64 x.m.p], .agg #[.int .i64 m.c, .int .i64 m.h, .int .i64 m.t, .int .i64 m.i, .int .i64 m.p]] (by simp [go_sem, Act.eval, e9, e10]) ((HCM.out w3).mono fun _ _ ⟨h1_, h2_⟩ => ⟨⟨_, h1_, rfl⟩, h2_⟩)
    · simp only [List.getElem?_toArray, List.getElem?_cons_succ, List.getElem?_cons_zero, Option.some.injEq] at ho
      subst ho
      refine ⟨rfl, ?_⟩
      have e11 : A_.tmps[11]?.getD undef = .int .i64 r := getD_of (hI.val_ (i := 6) rfl rfl (by decide) (hdep ⟨6, .data⟩ (by simp) rfl))
      clear hI hdep
      exact .run rfl (.bool b) w3 (by simp [execOp, go_sem, Act.eval, *]) (Below.refl _ _) rfl
    · simp only [List.getElem?_toArray, List.getElem?_cons_succ, List.getElem?_cons_zero, Option.some.injEq] at ho
      subst ho
      refine ⟨rfl, ?_⟩
      have e12 : A_.tmps[12]?.getD undef = .bool b := getD_of (hI.val_ (i := 7) rfl rfl (by decide) (hdep ⟨7, .data⟩ (by simp) rfl))
      clear hI hdep
      exact .run rfl (.bool b) w3 (by simp [execOp, go_sem, Act.eval, e12]) (Below.refl _ _) rfl
  case fin =>
  intro A_ w3 hs hd hlow hS hok
  obtain rfl : A_ = ⟨#[.int .i64 (k : Int), .pointer (some ⟨bl, 0, none⟩), .pointer (some ⟨bm, 0, none⟩), undef, .bool b, .slice (some ⟨g, 0, none⟩) n c, .int .i64 (k : Int), .pointer (some ⟨g, k * 9, none⟩), .pointer (some ⟨g, k * 9, none⟩), .agg #[.int .i64 x.m.c, .int .i64 x.m.h, .int .i64 x.m.t, .int .i64 x.m.i, .int .i64 x.m.p], .agg #[.int .i64 m.c, .int .i64 m.h, .int .i64 m.t, .int .i64 m.i, .int .i64 m.p], .int .i64 r, .bool b], []⟩ := act_ext hd hs (fun j hj => match j, hj with | 0, _ => (hlow 0 (by decide)).trans rfl | 1, _ => (hlow 1 (by decide)).trans rfl | 2, _ => (hlow 2 (by decide)).trans rfl | 3, _ => (hlow 3 (by decide)).trans rfl | 4, _ => RgX.val_at (hok 8 4 _ (by decide) rfl rfl) | 5, _ => RgX.val_at (hok 0 5 _ (by decide) rfl rfl) | 6, _ => RgX.val_at (hok 1 6 _ (by decide) rfl rfl) | 7, _ => RgX.val_at (hok 2 7 _ (by decide) rfl rfl) | 8, _ => RgX.val_at (hok 3 8 _ (by decide) rfl rfl) | 9, _ => RgX.val_at (hok 4 9 _ (by decide) rfl rfl) | 10, _ => RgX.val_at (hok 5 10 _ (by decide) rfl rfl) | 11, _ => RgX.val_at (hok 6 11 _ (by decide) rfl rfl) | 12, _ => RgX.val_at (hok 7 12 _ (by decide) rfl rfl) | n + 13, h => absurd h (by show ¬ n + 13 < 13; omega))
  clear hs hd hlow hok 
  go_wp2_with fail
  go_ret
  exact ⟨rfl, hS⟩
set_option maxHeartbeats 4000000 in
set_option maxRecDepth 100000 in
/-- Binary search, where the closure says from r on that it is true. -/
theorem search_any {bl bm n r : Nat} (w : World) (hr : r ≤ n) (bn : n ≤ 100000)
    (hp : ∀ V, Below w.heap.size w V → ∀ k : Nat, k < n → Calls Try.prog 35 #[.int .i64 k, .pointer (some ⟨bl, 0, none⟩), .pointer (some ⟨bm, 0, none⟩)] V fun e w' => e = .returned (.bool (decide (r ≤ k))) ∧ Below V.heap.size V w') :
    Calls Try.prog 34 #[.int .i64 n, .func (.func 35) #[] #[.pointer (some ⟨bl, 0, none⟩), .pointer (some ⟨bm, 0, none⟩)]] w fun e w' => e = .returned (.int .i64 r) ∧ Below w.heap.size w w' := by
  have HP := Lib.hid hp
  clear hp
  go_enter Try.func34, Try.ntmps34
  go_wp2_with fail
  go_loopw [5, 6, 7] (fun i j _ V => ∃ p q : Nat, i = .int .i64 (p : Int) ∧ j = .int .i64 (q : Int) ∧ p ≤ r ∧ r ≤ q ∧ q ≤ n ∧ Hid (Below w.heap.size w V)) (fun i j _ _ => (intOf j).toNat - (intOf i).toNat)
  case atStart => exact ⟨0, n, rfl, rfl, by omega, hr, Nat.le_refl _, Below.refl _ _⟩
  case round =>
    obtain ⟨p, q, rfl, rfl, h1, h2, h3, HV⟩ := hrel
    by_cases hpq : p < q
    · have d1 : decide (p < q) = true := decide_eq_true hpq
      go_wp2_with fail
      obtain ⟨h, he, hlo, hhi⟩ : ∃ h : Nat, ((p : Int) + (q : Int)) / 2 = (h : Int) ∧ p ≤ h ∧ h < q := ⟨(p + q) / 2, by omega, by omega, by omega⟩
      rw [he]
      refine (HP.out wr HV.out h (by omega)).mono ?_
      rintro e w1 ⟨rfl, hb1⟩
      have HV1 := Lib.hid (HV.out.trans (hb1.mono HV.out.size))
      clear hb1 HV he
      by_cases hrh : r ≤ h
      · have d2 : decide (r ≤ h) = true := decide_eq_true hrh
        rw [d2]
        go_wp2_with fail
        go_roundw
        case rel => exact ⟨p, h, rfl, rfl, h1, hrh, by omega, HV1⟩
        case measure => simp [intOf]; omega
      · have d2 : decide (r ≤ h) = false := decide_eq_false hrh
        rw [d2]
        go_wp2_with fail
        go_roundw
        case rel => exact ⟨h + 1, q, by go_num, rfl, by omega, h2, h3, HV1⟩
        case measure => simp [intOf]; omega
    · have d1 : decide (p < q) = false := decide_eq_false hpq
      obtain rfl : p = r := by omega
      go_wp2_with fail
      go_ret
      exact ⟨rfl, HV.out⟩
set_option maxHeartbeats 4000000 in
set_option maxRecDepth 100000 in
theorem position_any {A : Option Addr} {n c : Nat} {l : List NW.En} (m : NM.Ms) (w : World) (h1 : Ens w A n c l) (hs : NW.Srt l) (bn : n ≤ 100000) :
    Calls Try.prog 27 #[.slice A n c, msV m] w fun e w' => e = .returned (.tuple #[.int .i64 (NW.lo l m), .bool (NW.has l m)]) ∧ Below w.heap.size w w' := by
  obtain ⟨U, hU, hb, k1, k2, hlt⟩ := two_boxes w (.cells #[.slice A n c] 29) (.cells #[.int .i64 m.c, .int .i64 m.h, .int .i64 m.t, .int .i64 m.i, .int .i64 m.p] 26)
  have km : MsB U (w.heap.size + 1) m := k2
  have hlo := NW.lo_le l m
  have hp : ∀ V, Below U.heap.size U V → ∀ k : Nat, k < n → Calls Try.prog 35 #[.int .i64 k, .pointer (some ⟨w.heap.size, 0, none⟩), .pointer (some ⟨w.heap.size + 1, 0, none⟩)] V fun e w' => e = .returned (.bool (decide (NW.lo l m ≤ k))) ∧ Below V.heap.size V w' := by
    intro V hV k hk
    obtain ⟨x, hx⟩ : ∃ x, l[k]? = some x := ⟨_, List.getElem?_eq_getElem (by rw [h1.len]; exact hk)⟩
    obtain ⟨g, hg, _⟩ := (h1.keep hb).get hx
    subst hg
    refine (notLess_any V ((h1.keep hb).keep hV) ((hV.block _ (heap_lt k1)).trans k1) (km.keep hV) hx hk).mono ?_
    rintro e w' ⟨rfl, h⟩
    refine ⟨?_, h⟩
    congr 2
    by_cases hc : NW.lo l m ≤ k
    · have := NW.lo_ge hs hc hx
      unfold NW.ltM at this
      rw [decide_eq_true hc, decide_eq_true (by omega)]
    · have := NW.lo_lt (by omega : k < NW.lo l m) hx
      unfold NW.ltM at this
      rw [decide_eq_false hc, decide_eq_false (by omega)]
  have HS := Lib.hid (search_any U (by rw [← h1.len]; exact hlo) bn hp)
  have HK := Lib.hid (fun (V : World) (hV : Below U.heap.size U V) => And.intro (show V.cell? ⟨w.heap.size, 0, none⟩ = some (.slice A n c) from (cell_of_row _ _ 0 _ _ (0, 0) ((hV.block _ (heap_lt k1)).trans k1)).trans rfl) (km.keep hV).cells)
  have HB := Lib.hid hb
  have HE := Lib.hid (h1.keep hb)
  have HN := Lib.hid h1.len
  rw [h1.len] at hlo
  have HH := Lib.hid (And.intro (fun x (hx : l[NW.lo l m]? = some x) => NW.has_at hs hx) (fun (h : l.length ≤ NW.lo l m) => NW.has_end h))
  have HX : Hid (NW.lo l m < n → ∃ x, l[NW.lo l m]? = some x) := Lib.hid (fun h => ⟨_, List.getElem?_eq_getElem (by rw [HN.out]; exact h)⟩)
  obtain ⟨r, hr⟩ : ∃ r, NW.lo l m = r := ⟨_, rfl⟩
  rw [hr] at HS HH HX hlo ⊢
  obtain ⟨x0, y0, y1, y2, y3, y4⟩ := HK.out U (Below.refl _ _)
  clear k1 k2 km hb hp h1 hs hr
  go_enter Try.func27, Try.ntmps27
  go_upto_region 2 with (go_at_call 34; (with_reducible refine HS.out.mono ?_); rintro e w1 ⟨rfl, hb1⟩; have HV := Lib.hid hb1; clear hb1)
  clear x0 y0 y1 y2 y3 y4 hU
  obtain ⟨x0, y0, y1, y2, y3, y4⟩ := HK.out w1 HV.out
  by_cases hin : r < n
  · have d1 : decide (r < n) = true := decide_eq_true hin
    have d2 : decide ((r : Int) < (n : Int)) = true := decide_eq_true (by omega)
    obtain ⟨x, hx⟩ := HX.out hin
    obtain ⟨g, hg, hgl, p0, p1, p2, p3, p4, p5, p6, p7, p8⟩ := en_at (HE.out.keep HV.out) hx
    subst hg
    have HT := Lib.hid (HH.out.1 x hx)
    have heq : ∀ V, (binOp .eql 26 (msV x.m) (msV m)).run Try.prog V = .ok (.bool (decide (x.m = m))) V := fun V => eqM_any x.m m V
    obtain ⟨b, hb⟩ : ∃ b, decide (x.m = m) = b := ⟨_, rfl⟩
    rw [hb] at HT heq
    clear hx hb HH HX
    go_wp2_with (go_quiet (fail))
    refine bodyPost_ret (v := .tuple #[.int .i64 r, .bool b]) (by simp [results, Try.results27, go_sem]) rfl ⟨by rw [HT.out], ?_⟩
    exact HB.out.trans ((HV.out.trans ((drewN_below w1 _).mono HV.out.size)).mono HB.out.size)
  · have d1 : decide (r < n) = false := decide_eq_false hin
    have d2 : decide ((r : Int) < (n : Int)) = false := decide_eq_false (by omega)
    have HT := Lib.hid (HH.out.2 (by have := HN.out; omega))
    clear HH HX
    go_wp2_with (go_quiet (fail))
    refine bodyPost_ret (v := .tuple #[.int .i64 r, .bool false]) (by simp [results, Try.results27, go_sem]) rfl ⟨by rw [HT.out], ?_⟩
    exact HB.out.trans ((HV.out.trans ((drewN_below w1 _).mono HV.out.size)).mono HB.out.size)
end Go.Proofs.Ytepbppckhfiplaa
