/-
  The walk of the law NetworkCommutes.
-/
import Derived.Test.YtepbppckhfiplaaNwLv
import Derived.Test.YtepbppckhfiplaaNwS
import Derived.Test.YtepbppckhfiplaaRgY
namespace Go.Proofs.Ytepbppckhfiplaa
open Go Go.RowKit Go.Proofs
namespace RgX.Sp
/-- A set and an error. -/
def enst (l : List NW.En) (n : Nat) (k : Int) : Sp := ⟨fun w x => ∃ B c, x = .tuple #[.slice B n c, .int .i64 k] ∧ Ens w B n c l, fun ⟨B, c, e, h⟩ hb => ⟨B, c, e, h.keep hb⟩⟩
end RgX.Sp
end Go.Proofs.Ytepbppckhfiplaa
namespace Go.Proofs.Ytepbppckhfiplaa.LawNetworkCommutes
open Go Go.RowKit Go.Proofs Go.Proofs.Ytepbppckhfiplaa
attribute [local go_sem] Oper.semAt_some

theorem addT {A : Option Addr} {n c q : Nat} {l r : List NW.En} (a : NW.En) (w : World) (h1 : Ens w A n c l) (hs : NW.Srt l) (bn : n ≤ 1000) (hf : NW.has l a.m = false) (hr : NW.put l a = r) (hq : r.length = q) :
    Calls Try.prog 11 #[.slice A n c, enV a] w fun e w' => (∃ x, e = .returned x ∧ (RgX.Sp.enst r q 0).p w' x) ∧ Below w.heap.size w w' := by
  refine (add_any a w h1 hs bn).mono ?_
  rintro e w' ⟨⟨B, k, c', rfl, h, _⟩, hb⟩
  rw [hf] at h ⊢
  simp only [Bool.false_eq_true, if_false] at h ⊢
  rw [hr] at h
  obtain rfl : k = q := h.len.symm.trans hq
  exact ⟨⟨_, rfl, B, c', rfl, h⟩, hb⟩
set_option maxHeartbeats 4000000 in
set_option maxRecDepth 100000 in
theorem walk (a0 : Option Addr) (len0 cap0 : Nat) (z0 : List Int) (a1 a2 : Int) (w : World) (w0 : Row .i64 w a0 len0 cap0 z0) (w1 : (Lit.int .i64 a1).wf = true) (w2 : (Lit.int .i64 a2).wf = true) :
    Calls Try.prog 6 #[.slice a0 len0 cap0, .int .i64 a1, .int .i64 a2] w fun e w' => e = .returned (.bool true) ∧ Below w.heap.size w w' := by
  have HS := Lib.hid (set_any (c := cap0) w w0.ints.1 (i64_of w0.ints.2.2.2))
  have HO := Lib.hid (NW.setL_srt (z0.take len0))
  have HL := Lib.hid (NW.setL_len (z0.take len0))
  have HTO := Lib.hid (fun x (hx : x ∈ NW.setL (z0.take len0)) => NW.setL_to hx)
  obtain ⟨s, hs⟩ : ∃ s, NW.setL (z0.take len0) = s := ⟨_, rfl⟩
  rw [hs] at HS HO HL HTO
  have hlen := HL.out
  have HGx := Lib.hid (fun V => enOf_any a1 (show I64 a1 by have := bounds_i64 w1; unfold I64; omega) V)
  obtain ⟨x, hx⟩ : ∃ x, NW.enOf (NM.arI a1 100000) = x := ⟨_, rfl⟩
  rw [hx] at HGx
  clear hx
  have HGy := Lib.hid (fun V => enOf_any a2 (show I64 a2 by have := bounds_i64 w2; unfold I64; omega) V)
  obtain ⟨y, hx⟩ : ∃ x, NW.enOf (NM.arI a2 100000) = x := ⟨_, rfl⟩
  rw [hx] at HGy
  clear hx
  clear w0 w1 w2 hs HL HTO
  go_enter Try.func6, Try.ntmps6
  go_upto_region 3 with (first
    | (go_at_call 9; (with_reducible refine HS.out.mono ?_); rintro e v1 ⟨⟨B, r, rfl, hE⟩, hb⟩; have HE := Lib.hid hE; have HB := Lib.hid hb; clear hE hb)
    | (go_at_call 10; (with_reducible refine (HGx.out _).mono ?_); rintro e v2 ⟨rfl, hb⟩; replace HE := Lib.hid (HE.out.keep hb); replace HB := Lib.hid (HB.out.trans (hb.mono HB.out.size)); clear hb))
  obtain ⟨U2, hU⟩ : ∃ U, v2.alloc (.cells #[.int .i64 x.m.c, .int .i64 x.m.h, .int .i64 x.m.t, .int .i64 x.m.i, .int .i64 x.m.p, .int .i64 x.o, .int .i64 x.k, .int .i64 x.a, .int .i64 x.b] 28) = U := ⟨_, rfl⟩
  rw [hU]
  have H8 := Lib.hid (show EnB U2 v2.heap.size x from by rw [← hU]; exact new_at rfl)
  have hb : Below v2.heap.size v2 U2 := hU ▸ one_box _ _
  replace HE := Lib.hid (HE.out.keep hb)
  replace HB := Lib.hid (HB.out.trans (hb.mono HB.out.size))
  clear hb hU
  go_upto_region 4 with ((go_at_call 10; (with_reducible refine (HGy.out _).mono ?_); rintro e v3 ⟨rfl, hb⟩; replace HE := Lib.hid (HE.out.keep hb); replace H8 := Lib.hid (H8.out.keep hb); replace HB := Lib.hid (HB.out.trans (hb.mono HB.out.size)); clear hb))
  obtain ⟨U3, hU⟩ : ∃ U, v3.alloc (.cells #[.int .i64 y.m.c, .int .i64 y.m.h, .int .i64 y.m.t, .int .i64 y.m.i, .int .i64 y.m.p, .int .i64 y.o, .int .i64 y.k, .int .i64 y.a, .int .i64 y.b] 28) = U := ⟨_, rfl⟩
  rw [hU]
  have H9 := Lib.hid (show EnB U3 v3.heap.size y from by rw [← hU]; exact new_at rfl)
  have hb : Below v3.heap.size v3 U3 := hU ▸ one_box _ _
  replace HE := Lib.hid (HE.out.keep hb)
  replace H8 := Lib.hid (H8.out.keep hb)
  replace HB := Lib.hid (HB.out.trans (hb.mono HB.out.size))
  clear hb hU
  obtain ⟨p0, p1, p2, p3, p4, p5, p6, p7, p8⟩ := H8.out.cells
  obtain ⟨q0, q1, q2, q3, q4, q5, q6, q7, q8⟩ := H9.out.cells
  have heq : ∀ V, (binOp .eql 26 (msV x.m) (msV y.m)).run Try.prog V = .ok (.bool (decide (x.m = y.m))) V := fun V => eqM_any x.m y.m V
  have ht := HE.out
  by_cases hxy : x.m = y.m
  · have dq : decide (x.m = y.m) = true := decide_eq_true hxy
    rw [dq] at heq
    clear hxy dq ht
    go_wp2_with ((go_at_call 24; (with_reducible refine (lives_any _).mono ?_); rintro e v4 ⟨rfl, hb⟩; replace HB := Lib.hid (HB.out.trans (hb.mono HB.out.size)); clear hb))
    go_ret
    exact ⟨rfl, HB.out⟩
  · have dq : decide (x.m = y.m) = false := decide_eq_false hxy
    rw [dq] at heq
    clear dq ht
    have HXY := Lib.hid hxy
    have HXY2 := Lib.hid (fun e : y.m = x.m => hxy e.symm)
    clear hxy
    go_upto_region 6 with (fail)
    clear heq
    obtain ⟨rx, hrx⟩ : ∃ t, NW.rem s x.m = t := ⟨_, rfl⟩
    obtain ⟨ry, hry⟩ : ∃ t, NW.rem s y.m = t := ⟨_, rfl⟩
    obtain ⟨rxy, hrxy⟩ : ∃ t, NW.rem rx y.m = t := ⟨_, rfl⟩
    have hryx : NW.rem ry x.m = rxy := by rw [← hry, ← hrxy, ← hrx, NW.rem_comm]
    have HOX := Lib.hid (show NW.Srt rx from hrx ▸ NW.srt_rem HO.out)
    have HOY := Lib.hid (show NW.Srt ry from hry ▸ NW.srt_rem HO.out)
    have hl1 : rx.length ≤ 12 := by rw [← hrx]; exact Nat.le_trans (List.length_filter_le _ _) hlen
    have hl2 : ry.length ≤ 12 := by rw [← hry]; exact Nat.le_trans (List.length_filter_le _ _) hlen
    have hl3 : rxy.length ≤ 12 := by rw [← hrxy]; exact Nat.le_trans (List.length_filter_le _ _) hl1
    obtain ⟨qx, hqx⟩ : ∃ q, rx.length = q := ⟨_, rfl⟩
    obtain ⟨qy, hqy⟩ : ∃ q, ry.length = q := ⟨_, rfl⟩
    obtain ⟨qxy, hqxy⟩ : ∃ q, rxy.length = q := ⟨_, rfl⟩
    rw [hqx] at hl1
    rw [hqy] at hl2
    rw [hqxy] at hl3
    have HRX := Lib.hid (And.intro hrx hqx)
    have HRY := Lib.hid (And.intro hry hqy)
    have HRXY := Lib.hid (And.intro hrxy (And.intro hryx hqxy))
    have HRL := Lib.hid (And.intro hl1 (And.intro hl2 hl3))
    clear hrx hry hrxy hryx hqx hqy hqxy hl1 hl2 hl3
    have HA := Lib.hid (fun V (h : Ens V B s.length r s) => add_any x V h HO.out (by omega))
    have HAY := Lib.hid (fun V (h : Ens V B s.length r s) => add_any y V h HO.out (by omega))
    by_cases hx : NW.has s x.m = true
    · rw [hx] at HA
      simp only [if_true] at HA
      obtain ⟨f, hf⟩ : ∃ f : Int, (if NW.has s y.m = true then 4 else 0) = f := ⟨_, rfl⟩
      rw [hf] at HAY
      clear hx hf
      go_upto_region 8 with (first
        | (go_at_call 11; (with_reducible refine (HA.out _ HE.out).mono ?_); rintro e v4 ⟨⟨B10, q10, c10, rfl, h_, _⟩, hb⟩; replace HE := Lib.hid (HE.out.keep hb); replace H8 := Lib.hid (H8.out.keep hb); replace H9 := Lib.hid (H9.out.keep hb); replace HB := Lib.hid (HB.out.trans (hb.mono HB.out.size)); clear hb; have HX10 := Lib.hid h_; clear h_; obtain ⟨p0, p1, p2, p3, p4, p5, p6, p7, p8⟩ := H8.out.cells; obtain ⟨q0, q1, q2, q3, q4, q5, q6, q7, q8⟩ := H9.out.cells)
        | (go_at_call 11; (with_reducible refine (HAY.out _ HE.out).mono ?_); rintro e v5 ⟨⟨B12, q12, c12, rfl, h_, _⟩, hb⟩; replace HE := Lib.hid (HE.out.keep hb); replace H8 := Lib.hid (H8.out.keep hb); replace H9 := Lib.hid (H9.out.keep hb); replace HB := Lib.hid (HB.out.trans (hb.mono HB.out.size)); clear hb; have HX12 := Lib.hid h_; clear h_))
      clear HX10 HX12 p0 p1 p2 p3 p4 p5 p6 p7 p8 q0 q1 q2 q3 q4 q5 q6 q7 q8
      go_upto_region 17 with (fail)
      refine RgX.regionB 19 (fun i => (if i = 18 then 6 else 96 + i)) (fun ix_ => match ix_ with | 0 => .v (.slice B s.length r) | 1 => .v (.pointer (some ⟨v2.heap.size, 0, none⟩)) | 2 => .v (.agg #[.int .i64 x.m.c, .int .i64 x.m.h, .int .i64 x.m.t, .int .i64 x.m.i, .int .i64 x.m.p]) | 3 => .ens 0 rx qx | 4 => .v (.pointer (some ⟨v3.heap.size, 0, none⟩)) | 5 => .v (.agg #[.int .i64 y.m.c, .int .i64 y.m.h, .int .i64 y.m.t, .int .i64 y.m.i, .int .i64 y.m.p]) | 6 => .ens 0 rxy qxy | 7 => .v (.slice B s.length r) | 8 => .v (.pointer (some ⟨v3.heap.size, 0, none⟩)) | 9 => .v (.agg #[.int .i64 y.m.c, .int .i64 y.m.h, .int .i64 y.m.t, .int .i64 y.m.i, .int .i64 y.m.p]) | 10 => .ens 0 ry qy | 11 => .v (.pointer (some ⟨v2.heap.size, 0, none⟩)) | 12 => .v (.agg #[.int .i64 x.m.c, .int .i64 x.m.h, .int .i64 x.m.t, .int .i64 x.m.i, .int .i64 x.m.p]) | 13 => .ens 0 rxy qxy | 14 => .v (.bool true) | 15 => .v (.bool true) | 16 => .v (.bool true) | 17 => .v (.bool true) | 18 => .v (.bool true) | _ => .any) (by kernel_rfl) rfl (by kernel_rfl)  (fun i hi => by show (if i = 18 then 6 else 96 + i) < 114; (repeat' split) <;> omega) (fun i j hi hj => by show (if i = 18 then 6 else 96 + i) = (if j = 18 then 6 else 96 + j) → i = j; (repeat' split) <;> omega) ?step ?fin
      case step =>
        intro L_ A_ w3 ix op_ hI ho hdep
        have hi : ix < 19 := (Array.getElem?_eq_some_iff.1 ho).1
        have hcase : ix = 0 ∨ ix = 1 ∨ ix = 2 ∨ ix = 3 ∨ ix = 4 ∨ ix = 5 ∨ ix = 6 ∨ ix = 7 ∨ ix = 8 ∨ ix = 9 ∨ ix = 10 ∨ ix = 11 ∨ ix = 12 ∨ ix = 13 ∨ ix = 14 ∨ ix = 15 ∨ ix = 16 ∨ ix = 17 ∨ ix = 18 := by omega
        have hh := hI.held
        clear hi
        rcases hcase with rfl | rfl | rfl | rfl | rfl | rfl | rfl | rfl | rfl | rfl | rfl | rfl | rfl | rfl | rfl | rfl | rfl | rfl | rfl
        · simp only [List.getElem?_toArray, List.getElem?_cons_zero, Option.some.injEq] at ho
          subst ho
          refine ⟨rfl, ?_⟩
          have e7 : A_.tmps[7]?.getD undef = .slice B s.length r := by rw [hI.low 7 (by decide)]; rfl
          clear hI hdep
          exact .run rfl (.slice B s.length r) w3 (by simp [execOp, go_sem, Act.eval, e7]) (Below.refl _ _) rfl
        · simp only [List.getElem?_toArray, List.getElem?_cons_succ, List.getElem?_cons_zero, Option.some.injEq] at ho
          subst ho
          refine ⟨rfl, ?_⟩
          have e8 : A_.tmps[8]?.getD undef = .pointer (some ⟨v2.heap.size, 0, none⟩) := by rw [hI.low 8 (by decide)]; rfl
          clear hI hdep
          exact .run rfl (.pointer (some ⟨v2.heap.size, 0, none⟩)) w3 (by simp [execOp, go_sem, Act.eval, e8]) (Below.refl _ _) rfl
        · simp only [List.getElem?_toArray, List.getElem?_cons_succ, List.getElem?_cons_zero, Option.some.injEq] at ho
          subst ho
          refine ⟨rfl, ?_⟩
          have e97 : A_.tmps[97]?.getD undef = .pointer (some ⟨v2.heap.size, 0, none⟩) := getD_of (hI.val_ (i := 1) rfl rfl (by decide) (hdep ⟨1, .data⟩ (by simp) rfl))
          clear hI hdep
          obtain ⟨p0, p1, p2, p3, p4, p5, p6, p7, p8⟩ := (H8.out.keep hh).cells
          obtain ⟨q0, q1, q2, q3, q4, q5, q6, q7, q8⟩ := (H9.out.keep hh).cells
          exact .run rfl (.agg #[.int .i64 x.m.c, .int .i64 x.m.h, .int .i64 x.m.t, .int .i64 x.m.i, .int .i64 x.m.p]) w3 (by simp [execOp, go_sem, Act.eval, *]) (Below.refl _ _) rfl
        · simp only [List.getElem?_toArray, List.getElem?_cons_succ, List.getElem?_cons_zero, Option.some.injEq] at ho
          subst ho
          refine ⟨rfl, ?_⟩
          have e96 : A_.tmps[96]?.getD undef = .slice B s.length r := getD_of (hI.val_ (i := 0) rfl rfl (by decide) (hdep ⟨0, .data⟩ (by simp) rfl))
          have e98 : A_.tmps[98]?.getD undef = .agg #[.int .i64 x.m.c, .int .i64 x.m.h, .int .i64 x.m.t, .int .i64 x.m.i, .int .i64 x.m.p] := getD_of (hI.val_ (i := 2) rfl rfl (by decide) (hdep ⟨2, .data⟩ (by simp) rfl))
          clear hI hdep
          exact .call rfl 16 #[.slice B s.length r, .agg #[.int .i64 x.m.c, .int .i64 x.m.h, .int .i64 x.m.t, .int .i64 x.m.i, .int .i64 x.m.p]] (by simp [go_sem, Act.eval, e96, e98]) (remove_sp x.m w3 (HE.out.keep hh) HO.out (by omega) HRX.out.1 HRX.out.2)
        · simp only [List.getElem?_toArray, List.getElem?_cons_succ, List.getElem?_cons_zero, Option.some.injEq] at ho
          subst ho
          refine ⟨rfl, ?_⟩
          have e9 : A_.tmps[9]?.getD undef = .pointer (some ⟨v3.heap.size, 0, none⟩) := by rw [hI.low 9 (by decide)]; rfl
          clear hI hdep
          exact .run rfl (.pointer (some ⟨v3.heap.size, 0, none⟩)) w3 (by simp [execOp, go_sem, Act.eval, e9]) (Below.refl _ _) rfl
        · simp only [List.getElem?_toArray, List.getElem?_cons_succ, List.getElem?_cons_zero, Option.some.injEq] at ho
          subst ho
          refine ⟨rfl, ?_⟩
          have e100 : A_.tmps[100]?.getD undef = .pointer (some ⟨v3.heap.size, 0, none⟩) := getD_of (hI.val_ (i := 4) rfl rfl (by decide) (hdep ⟨4, .data⟩ (by simp) rfl))
          clear hI hdep
          obtain ⟨p0, p1, p2, p3, p4, p5, p6, p7, p8⟩ := (H8.out.keep hh).cells
          obtain ⟨q0, q1, q2, q3, q4, q5, q6, q7, q8⟩ := (H9.out.keep hh).cells
          exact .run rfl (.agg #[.int .i64 y.m.c, .int .i64 y.m.h, .int .i64 y.m.t, .int .i64 y.m.i, .int .i64 y.m.p]) w3 (by simp [execOp, go_sem, Act.eval, *]) (Below.refl _ _) rfl
        · simp only [List.getElem?_toArray, List.getElem?_cons_succ, List.getElem?_cons_zero, Option.some.injEq] at ho
          subst ho
          refine ⟨rfl, ?_⟩
          obtain ⟨_, e99, B99, c99, rfl, h99⟩ := hI.get_ (i := 3) (j := 99) rfl rfl (by decide) (hdep ⟨3, .data⟩ (by simp) rfl)
          have e101 : A_.tmps[101]?.getD undef = .agg #[.int .i64 y.m.c, .int .i64 y.m.h, .int .i64 y.m.t, .int .i64 y.m.i, .int .i64 y.m.p] := getD_of (hI.val_ (i := 5) rfl rfl (by decide) (hdep ⟨5, .data⟩ (by simp) rfl))
          clear hI hdep
          exact .call rfl 16 #[.slice B99 qx c99, .agg #[.int .i64 y.m.c, .int .i64 y.m.h, .int .i64 y.m.t, .int .i64 y.m.i, .int .i64 y.m.p]] (by simp [go_sem, Act.eval, e99, e101]) (remove_sp y.m w3 h99.1 HOX.out (by have := HRL.out; omega) HRXY.out.1 HRXY.out.2.2)
        · simp only [List.getElem?_toArray, List.getElem?_cons_succ, List.getElem?_cons_zero, Option.some.injEq] at ho
          subst ho
          refine ⟨rfl, ?_⟩
          have e7 : A_.tmps[7]?.getD undef = .slice B s.length r := by rw [hI.low 7 (by decide)]; rfl
          clear hI hdep
          exact .run rfl (.slice B s.length r) w3 (by simp [execOp, go_sem, Act.eval, e7]) (Below.refl _ _) rfl
        · simp only [List.getElem?_toArray, List.getElem?_cons_succ, List.getElem?_cons_zero, Option.some.injEq] at ho
          subst ho
          refine ⟨rfl, ?_⟩
          have e9 : A_.tmps[9]?.getD undef = .pointer (some ⟨v3.heap.size, 0, none⟩) := by rw [hI.low 9 (by decide)]; rfl
          clear hI hdep
          exact .run rfl (.pointer (some ⟨v3.heap.size, 0, none⟩)) w3 (by simp [execOp, go_sem, Act.eval, e9]) (Below.refl _ _) rfl
        · simp only [List.getElem?_toArray, List.getElem?_cons_succ, List.getElem?_cons_zero, Option.some.injEq] at ho
          subst ho
          refine ⟨rfl, ?_⟩
          have e104 : A_.tmps[104]?.getD undef = .pointer (some ⟨v3.heap.size, 0, none⟩) := getD_of (hI.val_ (i := 8) rfl rfl (by decide) (hdep ⟨8, .data⟩ (by simp) rfl))
          clear hI hdep
          obtain ⟨p0, p1, p2, p3, p4, p5, p6, p7, p8⟩ := (H8.out.keep hh).cells
          obtain ⟨q0, q1, q2, q3, q4, q5, q6, q7, q8⟩ := (H9.out.keep hh).cells
          exact .run rfl (.agg #[.int .i64 y.m.c, .int .i64 y.m.h, .int .i64 y.m.t, .int .i64 y.m.i, .int .i64 y.m.p]) w3 (by simp [execOp, go_sem, Act.eval, *]) (Below.refl _ _) rfl
        · simp only [List.getElem?_toArray, List.getElem?_cons_succ, List.getElem?_cons_zero, Option.some.injEq] at ho
          subst ho
          refine ⟨rfl, ?_⟩
          have e103 : A_.tmps[103]?.getD undef = .slice B s.length r := getD_of (hI.val_ (i := 7) rfl rfl (by decide) (hdep ⟨7, .data⟩ (by simp) rfl))
          have e105 : A_.tmps[105]?.getD undef = .agg #[.int .i64 y.m.c, .int .i64 y.m.h, .int .i64 y.m.t, .int .i64 y.m.i, .int .i64 y.m.p] := getD_of (hI.val_ (i := 9) rfl rfl (by decide) (hdep ⟨9, .data⟩ (by simp) rfl))
          clear hI hdep
          exact .call rfl 16 #[.slice B s.length r, .agg #[.int .i64 y.m.c, .int .i64 y.m.h, .int .i64 y.m.t, .int .i64 y.m.i, .int .i64 y.m.p]] (by simp [go_sem, Act.eval, e103, e105]) (remove_sp y.m w3 (HE.out.keep hh) HO.out (by omega) HRY.out.1 HRY.out.2)
        · simp only [List.getElem?_toArray, List.getElem?_cons_succ, List.getElem?_cons_zero, Option.some.injEq] at ho
          subst ho
          refine ⟨rfl, ?_⟩
          have e8 : A_.tmps[8]?.getD undef = .pointer (some ⟨v2.heap.size, 0, none⟩) := by rw [hI.low 8 (by decide)]; rfl
          clear hI hdep
          exact .run rfl (.pointer (some ⟨v2.heap.size, 0, none⟩)) w3 (by simp [execOp, go_sem, Act.eval, e8]) (Below.refl _ _) rfl
        · simp only [List.getElem?_toArray, List.getElem?_cons_succ, List.getElem?_cons_zero, Option.some.injEq] at ho
          subst ho
          refine ⟨rfl, ?_⟩
          have e107 : A_.tmps[107]?.getD undef = .pointer (some ⟨v2.heap.size, 0, none⟩) := getD_of (hI.val_ (i := 11) rfl rfl (by decide) (hdep ⟨11, .data⟩ (by simp) rfl))
          clear hI hdep
          obtain ⟨p0, p1, p2, p3, p4, p5, p6, p7, p8⟩ := (H8.out.keep hh).cells
          obtain ⟨q0, q1, q2, q3, q4, q5, q6, q7, q8⟩ := (H9.out.keep hh).cells
          exact .run rfl (.agg #[.int .i64 x.m.c, .int .i64 x.m.h, .int .i64 x.m.t, .int .i64 x.m.i, .int .i64 x.m.p]) w3 (by simp [execOp, go_sem, Act.eval, *]) (Below.refl _ _) rfl
        · simp only [List.getElem?_toArray, List.getElem?_cons_succ, List.getElem?_cons_zero, Option.some.injEq] at ho
          subst ho
          refine ⟨rfl, ?_⟩
          obtain ⟨_, e106, B106, c106, rfl, h106⟩ := hI.get_ (i := 10) (j := 106) rfl rfl (by decide) (hdep ⟨10, .data⟩ (by simp) rfl)
          have e108 : A_.tmps[108]?.getD undef = .agg #[.int .i64 x.m.c, .int .i64 x.m.h, .int .i64 x.m.t, .int .i64 x.m.i, .int .i64 x.m.p] := getD_of (hI.val_ (i := 12) rfl rfl (by decide) (hdep ⟨12, .data⟩ (by simp) rfl))
          clear hI hdep
          exact .call rfl 16 #[.slice B106 qy c106, .agg #[.int .i64 x.m.c, .int .i64 x.m.h, .int .i64 x.m.t, .int .i64 x.m.i, .int .i64 x.m.p]] (by simp [go_sem, Act.eval, e106, e108]) (remove_sp x.m w3 h106.1 HOY.out (by have := HRL.out; omega) HRXY.out.2.1 HRXY.out.2.2)
        · simp only [List.getElem?_toArray, List.getElem?_cons_succ, List.getElem?_cons_zero, Option.some.injEq] at ho
          subst ho
          refine ⟨rfl, ?_⟩
          obtain ⟨_, e102, B102, c102, rfl, h102⟩ := hI.get_ (i := 6) (j := 102) rfl rfl (by decide) (hdep ⟨6, .data⟩ (by simp) rfl)
          obtain ⟨_, e109, B109, c109, rfl, h109⟩ := hI.get_ (i := 13) (j := 109) rfl rfl (by decide) (hdep ⟨13, .data⟩ (by simp) rfl)
          clear hI hdep
          exact .call rfl 15 #[.slice B102 qxy c102, .slice B109 qxy c109] (by simp [go_sem, Act.eval, e102, e109]) ((sameEn_true w3 h102.1 h109.1 (by have := HRL.out; omega)).mono fun _ _ ⟨h1_, h2_⟩ => ⟨⟨_, h1_, rfl⟩, h2_⟩)
        · simp only [List.getElem?_toArray, List.getElem?_cons_succ, List.getElem?_cons_zero, Option.some.injEq] at ho
          subst ho
          refine ⟨rfl, ?_⟩
          have e110 : A_.tmps[110]?.getD undef = .bool true := getD_of (hI.val_ (i := 14) rfl rfl (by decide) (hdep ⟨14, .data⟩ (by simp) rfl))
          clear hI hdep
          exact .run rfl (.bool true) w3 (by simp [execOp, go_sem, Act.eval, e110]) (Below.refl _ _) rfl
        · simp only [List.getElem?_toArray, List.getElem?_cons_succ, List.getElem?_cons_zero, Option.some.injEq] at ho
          subst ho
          refine ⟨rfl, ?_⟩
          have q111 : A_.tmps[111]? = some (.bool true) := hI.val_ (i := 15) rfl rfl (by decide) (hdep ⟨15, .guard⟩ (by simp) rfl)
          clear hI hdep
          exact .call ((wanted_some rfl rfl q111).trans rfl) 24 #[] (by simp [go_sem]) ((lives_any w3).mono fun _ _ ⟨h1_, h2_⟩ => ⟨⟨_, h1_, rfl⟩, h2_⟩)
        · simp only [List.getElem?_toArray, List.getElem?_cons_succ, List.getElem?_cons_zero, Option.some.injEq] at ho
          subst ho
          refine ⟨rfl, ?_⟩
          have e111 : A_.tmps[111]?.getD undef = .bool true := getD_of (hI.val_ (i := 15) rfl rfl (by decide) (hdep ⟨15, .data⟩ (by simp) rfl))
          have e112 : A_.tmps[112]?.getD undef = .bool true := getD_of (hI.val_ (i := 16) rfl rfl (by decide) (hdep ⟨16, .data⟩ (by simp) rfl))
          clear hI hdep
          exact .run rfl (.bool true) w3 (by simp [execOp, go_sem, Act.eval, e111, e112]) (Below.refl _ _) rfl
        · simp only [List.getElem?_toArray, List.getElem?_cons_succ, List.getElem?_cons_zero, Option.some.injEq] at ho
          subst ho
          refine ⟨rfl, ?_⟩
          have e113 : A_.tmps[113]?.getD undef = .bool true := getD_of (hI.val_ (i := 17) rfl rfl (by decide) (hdep ⟨17, .data⟩ (by simp) rfl))
          clear hI hdep
          exact .run rfl (.bool true) w3 (by simp [execOp, go_sem, Act.eval, e113]) (Below.refl _ _) rfl
      case fin =>
      intro A_ w3 hs hd hlow hS hok
      obtain ⟨_, hy99, B99, c99, rfl, h99⟩ := hok 3 99 _ (by decide) rfl rfl
      obtain ⟨_, hy102, B102, c102, rfl, h102⟩ := hok 6 102 _ (by decide) rfl rfl
      obtain ⟨_, hy106, B106, c106, rfl, h106⟩ := hok 10 106 _ (by decide) rfl rfl
      obtain ⟨_, hy109, B109, c109, rfl, h109⟩ := hok 13 109 _ (by decide) rfl rfl
      obtain rfl : A_ = ⟨#[.slice a0 len0 cap0, .int .i64 a1, .int .i64 a2, undef, undef, undef, .bool true, .slice B s.length r, .pointer (some ⟨v2.heap.size, 0, none⟩), .pointer (some ⟨v3.heap.size, 0, none⟩), .slice B10 q10 c10, .int .i64 4, .slice B12 q12 c12, .int .i64 f, undef, undef, undef, undef, undef, undef, .slice a0 len0 cap0, .slice B s.length r, .int .i64 a1, enV x, .int .i64 a2, enV y, .pointer (some ⟨v2.heap.size, 0, none⟩), .agg #[.int .i64 x.m.c, .int .i64 x.m.h, .int .i64 x.m.t, .int .i64 x.m.i, .int .i64 x.m.p], .pointer (some ⟨v3.heap.size, 0, none⟩), .agg #[.int .i64 y.m.c, .int .i64 y.m.h, .int .i64 y.m.t, .int .i64 y.m.i, .int .i64 y.m.p], .bool false, undef, Value.tuple #[.slice B10 q10 c10, .int .i64 4], .slice B s.length r, .agg #[.int .i64 x.m.c, .int .i64 x.m.h, .int .i64 x.m.t, .int .i64 x.m.i, .int .i64 x.m.p, .int .i64 x.o, .int .i64 x.k, .int .i64 x.a, .int .i64 x.b], Value.tuple #[.slice B10 q10 c10, .int .i64 4], .slice B10 q10 c10, .int .i64 4, Value.tuple #[.slice B12 q12 c12, .int .i64 f], .slice B s.length r, .agg #[.int .i64 y.m.c, .int .i64 y.m.h, .int .i64 y.m.t, .int .i64 y.m.i, .int .i64 y.m.p, .int .i64 y.o, .int .i64 y.k, .int .i64 y.a, .int .i64 y.b], Value.tuple #[.slice B12 q12 c12, .int .i64 f], .slice B12 q12 c12, .int .i64 f, .int .i64 4, .bool false, .bool false, undef, undef, .bool false, undef, undef, undef, undef, undef, undef, undef, undef, undef, undef, undef, undef, undef, undef, undef, undef, undef, undef, undef, undef, undef, undef, undef, undef, .int .i64 4, .bool false, undef, undef, undef, undef, undef, undef, undef, undef, undef, undef, undef, undef, undef, undef, undef, undef, undef, undef, undef, undef, .slice B s.length r, .pointer (some ⟨v2.heap.size, 0, none⟩), .agg #[.int .i64 x.m.c, .int .i64 x.m.h, .int .i64 x.m.t, .int .i64 x.m.i, .int .i64 x.m.p], .slice B99 qx c99, .pointer (some ⟨v3.heap.size, 0, none⟩), .agg #[.int .i64 y.m.c, .int .i64 y.m.h, .int .i64 y.m.t, .int .i64 y.m.i, .int .i64 y.m.p], .slice B102 qxy c102, .slice B s.length r, .pointer (some ⟨v3.heap.size, 0, none⟩), .agg #[.int .i64 y.m.c, .int .i64 y.m.h, .int .i64 y.m.t, .int .i64 y.m.i, .int .i64 y.m.p], .slice B106 qy c106, .pointer (some ⟨v2.heap.size, 0, none⟩), .agg #[.int .i64 x.m.c, .int .i64 x.m.h, .int .i64 x.m.t, .int .i64 x.m.i, .int .i64 x.m.p], .slice B109 qxy c109, .bool true, .bool true, .bool true, .bool true], []⟩ := act_ext hd hs (fun j hj => match j, hj with | 0, _ => (hlow 0 (by decide)).trans rfl | 1, _ => (hlow 1 (by decide)).trans rfl | 2, _ => (hlow 2 (by decide)).trans rfl | 3, _ => (hlow 3 (by decide)).trans rfl | 4, _ => (hlow 4 (by decide)).trans rfl | 5, _ => (hlow 5 (by decide)).trans rfl | 6, _ => RgX.val_at (hok 18 6 _ (by decide) rfl rfl) | 7, _ => (hlow 7 (by decide)).trans rfl | 8, _ => (hlow 8 (by decide)).trans rfl | 9, _ => (hlow 9 (by decide)).trans rfl | 10, _ => (hlow 10 (by decide)).trans rfl | 11, _ => (hlow 11 (by decide)).trans rfl | 12, _ => (hlow 12 (by decide)).trans rfl | 13, _ => (hlow 13 (by decide)).trans rfl | 14, _ => (hlow 14 (by decide)).trans rfl | 15, _ => (hlow 15 (by decide)).trans rfl | 16, _ => (hlow 16 (by decide)).trans rfl | 17, _ => (hlow 17 (by decide)).trans rfl | 18, _ => (hlow 18 (by decide)).trans rfl | 19, _ => (hlow 19 (by decide)).trans rfl | 20, _ => (hlow 20 (by decide)).trans rfl | 21, _ => (hlow 21 (by decide)).trans rfl | 22, _ => (hlow 22 (by decide)).trans rfl | 23, _ => (hlow 23 (by decide)).trans rfl | 24, _ => (hlow 24 (by decide)).trans rfl | 25, _ => (hlow 25 (by decide)).trans rfl | 26, _ => (hlow 26 (by decide)).trans rfl | 27, _ => (hlow 27 (by decide)).trans rfl | 28, _ => (hlow 28 (by decide)).trans rfl | 29, _ => (hlow 29 (by decide)).trans rfl | 30, _ => (hlow 30 (by decide)).trans rfl | 31, _ => (hlow 31 (by decide)).trans rfl | 32, _ => (hlow 32 (by decide)).trans rfl | 33, _ => (hlow 33 (by decide)).trans rfl | 34, _ => (hlow 34 (by decide)).trans rfl | 35, _ => (hlow 35 (by decide)).trans rfl | 36, _ => (hlow 36 (by decide)).trans rfl | 37, _ => (hlow 37 (by decide)).trans rfl | 38, _ => (hlow 38 (by decide)).trans rfl | 39, _ => (hlow 39 (by decide)).trans rfl | 40, _ => (hlow 40 (by decide)).trans rfl | 41, _ => (hlow 41 (by decide)).trans rfl | 42, _ => (hlow 42 (by decide)).trans rfl | 43, _ => (hlow 43 (by decide)).trans rfl | 44, _ => (hlow 44 (by decide)).trans rfl | 45, _ => (hlow 45 (by decide)).trans rfl | 46, _ => (hlow 46 (by decide)).trans rfl | 47, _ => (hlow 47 (by decide)).trans rfl | 48, _ => (hlow 48 (by decide)).trans rfl | 49, _ => (hlow 49 (by decide)).trans rfl | 50, _ => (hlow 50 (by decide)).trans rfl | 51, _ => (hlow 51 (by decide)).trans rfl | 52, _ => (hlow 52 (by decide)).trans rfl | 53, _ => (hlow 53 (by decide)).trans rfl | 54, _ => (hlow 54 (by decide)).trans rfl | 55, _ => (hlow 55 (by decide)).trans rfl | 56, _ => (hlow 56 (by decide)).trans rfl | 57, _ => (hlow 57 (by decide)).trans rfl | 58, _ => (hlow 58 (by decide)).trans rfl | 59, _ => (hlow 59 (by decide)).trans rfl | 60, _ => (hlow 60 (by decide)).trans rfl | 61, _ => (hlow 61 (by decide)).trans rfl | 62, _ => (hlow 62 (by decide)).trans rfl | 63, _ => (hlow 63 (by decide)).trans rfl | 64, _ => (hlow 64 (by decide)).trans rfl | 65, _ => (hlow 65 (by decide)).trans rfl | 66, _ => (hlow 66 (by decide)).trans rfl | 67, _ => (hlow 67 (by decide)).trans rfl | 68, _ => (hlow 68 (by decide)).trans rfl | 69, _ => (hlow 69 (by decide)).trans rfl | 70, _ => (hlow 70 (by decide)).trans rfl | 71, _ => (hlow 71 (by decide)).trans rfl | 72, _ => (hlow 72 (by decide)).trans rfl | 73, _ => (hlow 73 (by decide)).trans rfl | 74, _ => (hlow 74 (by decide)).trans rfl | 75, _ => (hlow 75 (by decide)).trans rfl | 76, _ => (hlow 76 (by decide)).trans rfl | 77, _ => (hlow 77 (by decide)).trans rfl | 78, _ => (hlow 78 (by decide)).trans rfl | 79, _ => (hlow 79 (by decide)).trans rfl | 80, _ => (hlow 80 (by decide)).trans rfl | 81, _ => (hlow 81 (by decide)).trans rfl | 82, _ => (hlow 82 (by decide)).trans rfl | 83, _ => (hlow 83 (by decide)).trans rfl | 84, _ => (hlow 84 (by decide)).trans rfl | 85, _ => (hlow 85 (by decide)).trans rfl | 86, _ => (hlow 86 (by decide)).trans rfl | 87, _ => (hlow 87 (by decide)).trans rfl | 88, _ => (hlow 88 (by decide)).trans rfl | 89, _ => (hlow 89 (by decide)).trans rfl | 90, _ => (hlow 90 (by decide)).trans rfl | 91, _ => (hlow 91 (by decide)).trans rfl | 92, _ => (hlow 92 (by decide)).trans rfl | 93, _ => (hlow 93 (by decide)).trans rfl | 94, _ => (hlow 94 (by decide)).trans rfl | 95, _ => (hlow 95 (by decide)).trans rfl | 96, _ => RgX.val_at (hok 0 96 _ (by decide) rfl rfl) | 97, _ => RgX.val_at (hok 1 97 _ (by decide) rfl rfl) | 98, _ => RgX.val_at (hok 2 98 _ (by decide) rfl rfl) | 99, _ => hy99 | 100, _ => RgX.val_at (hok 4 100 _ (by decide) rfl rfl) | 101, _ => RgX.val_at (hok 5 101 _ (by decide) rfl rfl) | 102, _ => hy102 | 103, _ => RgX.val_at (hok 7 103 _ (by decide) rfl rfl) | 104, _ => RgX.val_at (hok 8 104 _ (by decide) rfl rfl) | 105, _ => RgX.val_at (hok 9 105 _ (by decide) rfl rfl) | 106, _ => hy106 | 107, _ => RgX.val_at (hok 11 107 _ (by decide) rfl rfl) | 108, _ => RgX.val_at (hok 12 108 _ (by decide) rfl rfl) | 109, _ => hy109 | 110, _ => RgX.val_at (hok 14 110 _ (by decide) rfl rfl) | 111, _ => RgX.val_at (hok 15 111 _ (by decide) rfl rfl) | 112, _ => RgX.val_at (hok 16 112 _ (by decide) rfl rfl) | 113, _ => RgX.val_at (hok 17 113 _ (by decide) rfl rfl) | n + 114, h => absurd h (by show ¬ n + 114 < 114; omega))
      clear hs hd hlow hok hy99 hy102 hy106 hy109
      go_wp2_with fail
      go_ret
      exact ⟨rfl, HB.out.trans (hS.mono HB.out.size)⟩
    · have hf : NW.has s x.m = false := by simpa using hx
      rw [hf] at HA
      simp only [Bool.false_eq_true, if_false] at HA
      have HF := Lib.hid hf
      have HOPX := Lib.hid (NW.srt_put HO.out hf)
      have HHRX : Hid (NW.has ry x.m = false) := Lib.hid (by rw [← HRY.out.1, NW.has_rem_other HXY.out]; exact hf)
      have HPR : Hid (NW.put ry x = NW.rem (NW.put s x) y.m) := Lib.hid (by rw [← HRY.out.1]; exact NW.put_rem HO.out hf HXY.out)
      have hpl := NW.put_len s x
      have hpl2 := NW.put_len ry x
      rw [HRY.out.2] at hpl2
      have HHP : Hid (NW.has (NW.put s x) y.m = NW.has s y.m) := Lib.hid (by rw [NW.has_put]; simp [HXY.out])
      obtain ⟨px, hpx⟩ : ∃ t, NW.put s x = t := ⟨_, rfl⟩
      obtain ⟨pr, hpr⟩ : ∃ t, NW.put ry x = t := ⟨_, rfl⟩
      rw [hpx] at HA HOPX HPR hpl HHP
      rw [hpr] at HPR hpl2
      have HPX := Lib.hid hpx
      have HPRE := Lib.hid hpr
      have HPL := Lib.hid (And.intro hpl hpl2)
      clear hx hf hpx hpr hpl hpl2
      by_cases hy : NW.has s y.m = true
      · rw [hy] at HAY
        simp only [if_true] at HAY
        clear hy
        go_upto_region 8 with (first
          | (go_at_call 11; (with_reducible refine (HA.out _ HE.out).mono ?_); rintro e v4 ⟨⟨B10, q10, c10, rfl, h_, _⟩, hb⟩; replace HE := Lib.hid (HE.out.keep hb); replace H8 := Lib.hid (H8.out.keep hb); replace H9 := Lib.hid (H9.out.keep hb); replace HB := Lib.hid (HB.out.trans (hb.mono HB.out.size)); clear hb; have HX10 := Lib.hid h_; clear h_; obtain ⟨p0, p1, p2, p3, p4, p5, p6, p7, p8⟩ := H8.out.cells; obtain ⟨q0, q1, q2, q3, q4, q5, q6, q7, q8⟩ := H9.out.cells)
          | (go_at_call 11; (with_reducible refine (HAY.out _ HE.out).mono ?_); rintro e v5 ⟨⟨B12, q12, c12, rfl, h_, _⟩, hb⟩; replace HE := Lib.hid (HE.out.keep hb); replace H8 := Lib.hid (H8.out.keep hb); replace H9 := Lib.hid (H9.out.keep hb); replace HX10 := Lib.hid (HX10.out.keep hb); replace HB := Lib.hid (HB.out.trans (hb.mono HB.out.size)); clear hb; have HX12 := Lib.hid h_; clear h_))
        obtain rfl : q10 = px.length := HX10.out.len.symm
        clear p0 p1 p2 p3 p4 p5 p6 p7 p8 q0 q1 q2 q3 q4 q5 q6 q7 q8
        go_upto_region 14 with (fail)
        refine RgX.regionB 11 (fun i => (if i = 6 then 76 else if i = 7 then 83 else if i = 8 then 84 else if i = 9 then 18 else if i = 10 then 19 else 77 + i)) (fun ix_ => match ix_ with | 0 => .v (.slice B s.length r) | 1 => .v (.pointer (some ⟨v3.heap.size, 0, none⟩)) | 2 => .v (.agg #[.int .i64 y.m.c, .int .i64 y.m.h, .int .i64 y.m.t, .int .i64 y.m.i, .int .i64 y.m.p]) | 3 => .ens 0 ry qy | 4 => .v (.agg #[.int .i64 x.m.c, .int .i64 x.m.h, .int .i64 x.m.t, .int .i64 x.m.i, .int .i64 x.m.p, .int .i64 x.o, .int .i64 x.k, .int .i64 x.a, .int .i64 x.b]) | 5 => .enst pr (qy + 1) 0 | 6 => .enst pr (qy + 1) 0 | 7 => .ens 0 pr (qy + 1) | 8 => .v (.int .i64 0) | 9 => .ens 0 pr (qy + 1) | 10 => .v (.int .i64 0) | _ => .any) (by kernel_rfl) rfl (by kernel_rfl)  (fun i hi => by show (if i = 6 then 76 else if i = 7 then 83 else if i = 8 then 84 else if i = 9 then 18 else if i = 10 then 19 else 77 + i) < 114; (repeat' split) <;> omega) (fun i j hi hj => by show (if i = 6 then 76 else if i = 7 then 83 else if i = 8 then 84 else if i = 9 then 18 else if i = 10 then 19 else 77 + i) = (if j = 6 then 76 else if j = 7 then 83 else if j = 8 then 84 else if j = 9 then 18 else if j = 10 then 19 else 77 + j) → i = j; (repeat' split) <;> omega) ?step ?fin
        case step =>
          intro L_ A_ w3 ix op_ hI ho hdep
          have hi : ix < 11 := (Array.getElem?_eq_some_iff.1 ho).1
          have hcase : ix = 0 ∨ ix = 1 ∨ ix = 2 ∨ ix = 3 ∨ ix = 4 ∨ ix = 5 ∨ ix = 6 ∨ ix = 7 ∨ ix = 8 ∨ ix = 9 ∨ ix = 10 := by omega
          have hh := hI.held
          clear hi
          rcases hcase with rfl | rfl | rfl | rfl | rfl | rfl | rfl | rfl | rfl | rfl | rfl
          · simp only [List.getElem?_toArray, List.getElem?_cons_zero, Option.some.injEq] at ho
            subst ho
            refine ⟨rfl, ?_⟩
            have e7 : A_.tmps[7]?.getD undef = .slice B s.length r := by rw [hI.low 7 (by decide)]; rfl
            clear hI hdep
            exact .run rfl (.slice B s.length r) w3 (by simp [execOp, go_sem, Act.eval, e7]) (Below.refl _ _) rfl
          · simp only [List.getElem?_toArray, List.getElem?_cons_succ, List.getElem?_cons_zero, Option.some.injEq] at ho
            subst ho
            refine ⟨rfl, ?_⟩
            have e9 : A_.tmps[9]?.getD undef = .pointer (some ⟨v3.heap.size, 0, none⟩) := by rw [hI.low 9 (by decide)]; rfl
            clear hI hdep
            exact .run rfl (.pointer (some ⟨v3.heap.size, 0, none⟩)) w3 (by simp [execOp, go_sem, Act.eval, e9]) (Below.refl _ _) rfl
          · simp only [List.getElem?_toArray, List.getElem?_cons_succ, List.getElem?_cons_zero, Option.some.injEq] at ho
            subst ho
            refine ⟨rfl, ?_⟩
            have e78 : A_.tmps[78]?.getD undef = .pointer (some ⟨v3.heap.size, 0, none⟩) := getD_of (hI.val_ (i := 1) rfl rfl (by decide) (hdep ⟨1, .data⟩ (by simp) rfl))
            clear hI hdep
            obtain ⟨p0, p1, p2, p3, p4, p5, p6, p7, p8⟩ := (H8.out.keep hh).cells
            obtain ⟨q0, q1, q2, q3, q4, q5, q6, q7, q8⟩ := (H9.out.keep hh).cells
            exact .run rfl (.agg #[.int .i64 y.m.c, .int .i64 y.m.h, .int .i64 y.m.t, .int .i64 y.m.i, .int .i64 y.m.p]) w3 (by simp [execOp, go_sem, Act.eval, *]) (Below.refl _ _) rfl
          · simp only [List.getElem?_toArray, List.getElem?_cons_succ, List.getElem?_cons_zero, Option.some.injEq] at ho
            subst ho
            refine ⟨rfl, ?_⟩
            have e77 : A_.tmps[77]?.getD undef = .slice B s.length r := getD_of (hI.val_ (i := 0) rfl rfl (by decide) (hdep ⟨0, .data⟩ (by simp) rfl))
            have e79 : A_.tmps[79]?.getD undef = .agg #[.int .i64 y.m.c, .int .i64 y.m.h, .int .i64 y.m.t, .int .i64 y.m.i, .int .i64 y.m.p] := getD_of (hI.val_ (i := 2) rfl rfl (by decide) (hdep ⟨2, .data⟩ (by simp) rfl))
            clear hI hdep
            exact .call rfl 16 #[.slice B s.length r, .agg #[.int .i64 y.m.c, .int .i64 y.m.h, .int .i64 y.m.t, .int .i64 y.m.i, .int .i64 y.m.p]] (by simp [go_sem, Act.eval, e77, e79]) (remove_sp y.m w3 (HE.out.keep hh) HO.out (by omega) HRY.out.1 HRY.out.2)
          · simp only [List.getElem?_toArray, List.getElem?_cons_succ, List.getElem?_cons_zero, Option.some.injEq] at ho
            subst ho
            refine ⟨rfl, ?_⟩
            have e8 : A_.tmps[8]?.getD undef = .pointer (some ⟨v2.heap.size, 0, none⟩) := by rw [hI.low 8 (by decide)]; rfl
            clear hI hdep
            obtain ⟨p0, p1, p2, p3, p4, p5, p6, p7, p8⟩ := (H8.out.keep hh).cells
            obtain ⟨q0, q1, q2, q3, q4, q5, q6, q7, q8⟩ := (H9.out.keep hh).cells
            exact .run rfl (.agg #[.int .i64 x.m.c, .int .i64 x.m.h, .int .i64 x.m.t, .int .i64 x.m.i, .int .i64 x.m.p, .int .i64 x.o, .int .i64 x.k, .int .i64 x.a, .int .i64 x.b]) w3 (by simp [execOp, go_sem, Act.eval, *]) (Below.refl _ _) rfl
          · simp only [List.getElem?_toArray, List.getElem?_cons_succ, List.getElem?_cons_zero, Option.some.injEq] at ho
            subst ho
            refine ⟨rfl, ?_⟩
            obtain ⟨_, e80, B80, c80, rfl, h80⟩ := hI.get_ (i := 3) (j := 80) rfl rfl (by decide) (hdep ⟨3, .data⟩ (by simp) rfl)
            have e81 : A_.tmps[81]?.getD undef = .agg #[.int .i64 x.m.c, .int .i64 x.m.h, .int .i64 x.m.t, .int .i64 x.m.i, .int .i64 x.m.p, .int .i64 x.o, .int .i64 x.k, .int .i64 x.a, .int .i64 x.b] := getD_of (hI.val_ (i := 4) rfl rfl (by decide) (hdep ⟨4, .data⟩ (by simp) rfl))
            clear hI hdep
            exact .call rfl 11 #[.slice B80 qy c80, .agg #[.int .i64 x.m.c, .int .i64 x.m.h, .int .i64 x.m.t, .int .i64 x.m.i, .int .i64 x.m.p, .int .i64 x.o, .int .i64 x.k, .int .i64 x.a, .int .i64 x.b]] (by simp [go_sem, Act.eval, e80, e81]) (addT x w3 h80.1 HOY.out (by have := HRL.out; omega) HHRX.out HPRE.out HPL.out.2)
          · simp only [List.getElem?_toArray, List.getElem?_cons_succ, List.getElem?_cons_zero, Option.some.injEq] at ho
            subst ho
            refine ⟨rfl, ?_⟩
            obtain ⟨y82, e82, h82⟩ := hI.get_ (i := 5) (j := 82) rfl rfl (by decide) (hdep ⟨5, .data⟩ (by simp) rfl)
            clear hI hdep
            exact .run rfl y82 w3 (by simp [execOp, go_sem, Act.eval, e82]) (Below.refl _ _) h82
          · simp only [List.getElem?_toArray, List.getElem?_cons_succ, List.getElem?_cons_zero, Option.some.injEq] at ho
            subst ho
            refine ⟨rfl, ?_⟩
            obtain ⟨_, e76, B76, c76, rfl, h76⟩ := hI.get_ (i := 6) (j := 76) rfl rfl (by decide) (hdep ⟨6, .data⟩ (by simp) rfl)
            clear hI hdep
            exact .run rfl (.slice B76 (qy + 1) c76) w3 (by simp [execOp, go_sem, Act.eval, e76]) (Below.refl _ _) ⟨B76, c76, rfl, h76, fun _ _ => Nat.zero_le _⟩
          · simp only [List.getElem?_toArray, List.getElem?_cons_succ, List.getElem?_cons_zero, Option.some.injEq] at ho
            subst ho
            refine ⟨rfl, ?_⟩
            obtain ⟨_, e76, B76, c76, rfl, h76⟩ := hI.get_ (i := 6) (j := 76) rfl rfl (by decide) (hdep ⟨6, .data⟩ (by simp) rfl)
            clear hI hdep
            exact .run rfl (.int .i64 0) w3 (by simp [execOp, go_sem, Act.eval, e76]) (Below.refl _ _) rfl
          · simp only [List.getElem?_toArray, List.getElem?_cons_succ, List.getElem?_cons_zero, Option.some.injEq] at ho
            subst ho
            refine ⟨rfl, ?_⟩
            obtain ⟨y83, e83, h83⟩ := hI.get_ (i := 7) (j := 83) rfl rfl (by decide) (hdep ⟨7, .data⟩ (by simp) rfl)
            clear hI hdep
            exact .run rfl y83 w3 (by simp [execOp, go_sem, Act.eval, e83]) (Below.refl _ _) h83
          · simp only [List.getElem?_toArray, List.getElem?_cons_succ, List.getElem?_cons_zero, Option.some.injEq] at ho
            subst ho
            refine ⟨rfl, ?_⟩
            have e84 : A_.tmps[84]?.getD undef = .int .i64 0 := getD_of (hI.val_ (i := 8) rfl rfl (by decide) (hdep ⟨8, .data⟩ (by simp) rfl))
            clear hI hdep
            exact .run rfl (.int .i64 0) w3 (by simp [execOp, go_sem, Act.eval, e84]) (Below.refl _ _) rfl
        case fin =>
        intro A_ w3 hs hd hlow hS hok
        obtain ⟨_, hy18, B18, c18, rfl, h18⟩ := hok 9 18 _ (by decide) rfl rfl
        obtain ⟨_, hy76, B76, c76, rfl, h76⟩ := hok 6 76 _ (by decide) rfl rfl
        obtain ⟨_, hy80, B80, c80, rfl, h80⟩ := hok 3 80 _ (by decide) rfl rfl
        obtain ⟨_, hy82, B82, c82, rfl, h82⟩ := hok 5 82 _ (by decide) rfl rfl
        obtain ⟨_, hy83, B83, c83, rfl, h83⟩ := hok 7 83 _ (by decide) rfl rfl
        obtain rfl : A_ = ⟨#[.slice a0 len0 cap0, .int .i64 a1, .int .i64 a2, undef, undef, undef, .bool false, .slice B s.length r, .pointer (some ⟨v2.heap.size, 0, none⟩), .pointer (some ⟨v3.heap.size, 0, none⟩), .slice B10 px.length c10, .int .i64 0, .slice B12 q12 c12, .int .i64 4, undef, undef, undef, undef, .slice B18 (qy + 1) c18, .int .i64 0, .slice a0 len0 cap0, .slice B s.length r, .int .i64 a1, enV x, .int .i64 a2, enV y, .pointer (some ⟨v2.heap.size, 0, none⟩), .agg #[.int .i64 x.m.c, .int .i64 x.m.h, .int .i64 x.m.t, .int .i64 x.m.i, .int .i64 x.m.p], .pointer (some ⟨v3.heap.size, 0, none⟩), .agg #[.int .i64 y.m.c, .int .i64 y.m.h, .int .i64 y.m.t, .int .i64 y.m.i, .int .i64 y.m.p], .bool false, undef, Value.tuple #[.slice B10 px.length c10, .int .i64 0], .slice B s.length r, .agg #[.int .i64 x.m.c, .int .i64 x.m.h, .int .i64 x.m.t, .int .i64 x.m.i, .int .i64 x.m.p, .int .i64 x.o, .int .i64 x.k, .int .i64 x.a, .int .i64 x.b], Value.tuple #[.slice B10 px.length c10, .int .i64 0], .slice B10 px.length c10, .int .i64 0, Value.tuple #[.slice B12 q12 c12, .int .i64 4], .slice B s.length r, .agg #[.int .i64 y.m.c, .int .i64 y.m.h, .int .i64 y.m.t, .int .i64 y.m.i, .int .i64 y.m.p, .int .i64 y.o, .int .i64 y.k, .int .i64 y.a, .int .i64 y.b], Value.tuple #[.slice B12 q12 c12, .int .i64 4], .slice B12 q12 c12, .int .i64 4, .int .i64 0, .bool true, .bool true, .int .i64 4, .bool false, .bool false, undef, undef, undef, undef, undef, undef, undef, undef, undef, undef, undef, undef, undef, undef, undef, undef, undef, undef, undef, undef, undef, undef, undef, undef, .int .i64 0, .bool true, Value.tuple #[.slice B76 (qy + 1) c76, .int .i64 0], .slice B s.length r, .pointer (some ⟨v3.heap.size, 0, none⟩), .agg #[.int .i64 y.m.c, .int .i64 y.m.h, .int .i64 y.m.t, .int .i64 y.m.i, .int .i64 y.m.p], .slice B80 qy c80, .agg #[.int .i64 x.m.c, .int .i64 x.m.h, .int .i64 x.m.t, .int .i64 x.m.i, .int .i64 x.m.p, .int .i64 x.o, .int .i64 x.k, .int .i64 x.a, .int .i64 x.b], Value.tuple #[.slice B82 (qy + 1) c82, .int .i64 0], .slice B83 (qy + 1) c83, .int .i64 0, undef, undef, undef, undef, undef, undef, undef, undef, undef, undef, undef, undef, undef, undef, undef, undef, undef, undef, undef, undef, undef, undef, undef, undef, undef, undef, undef, undef, undef], []⟩ := act_ext hd hs (fun j hj => match j, hj with | 0, _ => (hlow 0 (by decide)).trans rfl | 1, _ => (hlow 1 (by decide)).trans rfl | 2, _ => (hlow 2 (by decide)).trans rfl | 3, _ => (hlow 3 (by decide)).trans rfl | 4, _ => (hlow 4 (by decide)).trans rfl | 5, _ => (hlow 5 (by decide)).trans rfl | 6, _ => (hlow 6 (by decide)).trans rfl | 7, _ => (hlow 7 (by decide)).trans rfl | 8, _ => (hlow 8 (by decide)).trans rfl | 9, _ => (hlow 9 (by decide)).trans rfl | 10, _ => (hlow 10 (by decide)).trans rfl | 11, _ => (hlow 11 (by decide)).trans rfl | 12, _ => (hlow 12 (by decide)).trans rfl | 13, _ => (hlow 13 (by decide)).trans rfl | 14, _ => (hlow 14 (by decide)).trans rfl | 15, _ => (hlow 15 (by decide)).trans rfl | 16, _ => (hlow 16 (by decide)).trans rfl | 17, _ => (hlow 17 (by decide)).trans rfl | 18, _ => hy18 | 19, _ => RgX.val_at (hok 10 19 _ (by decide) rfl rfl) | 20, _ => (hlow 20 (by decide)).trans rfl | 21, _ => (hlow 21 (by decide)).trans rfl | 22, _ => (hlow 22 (by decide)).trans rfl | 23, _ => (hlow 23 (by decide)).trans rfl | 24, _ => (hlow 24 (by decide)).trans rfl | 25, _ => (hlow 25 (by decide)).trans rfl | 26, _ => (hlow 26 (by decide)).trans rfl | 27, _ => (hlow 27 (by decide)).trans rfl | 28, _ => (hlow 28 (by decide)).trans rfl | 29, _ => (hlow 29 (by decide)).trans rfl | 30, _ => (hlow 30 (by decide)).trans rfl | 31, _ => (hlow 31 (by decide)).trans rfl | 32, _ => (hlow 32 (by decide)).trans rfl | 33, _ => (hlow 33 (by decide)).trans rfl | 34, _ => (hlow 34 (by decide)).trans rfl | 35, _ => (hlow 35 (by decide)).trans rfl | 36, _ => (hlow 36 (by decide)).trans rfl | 37, _ => (hlow 37 (by decide)).trans rfl | 38, _ => (hlow 38 (by decide)).trans rfl | 39, _ => (hlow 39 (by decide)).trans rfl | 40, _ => (hlow 40 (by decide)).trans rfl | 41, _ => (hlow 41 (by decide)).trans rfl | 42, _ => (hlow 42 (by decide)).trans rfl | 43, _ => (hlow 43 (by decide)).trans rfl | 44, _ => (hlow 44 (by decide)).trans rfl | 45, _ => (hlow 45 (by decide)).trans rfl | 46, _ => (hlow 46 (by decide)).trans rfl | 47, _ => (hlow 47 (by decide)).trans rfl | 48, _ => (hlow 48 (by decide)).trans rfl | 49, _ => (hlow 49 (by decide)).trans rfl | 50, _ => (hlow 50 (by decide)).trans rfl | 51, _ => (hlow 51 (by decide)).trans rfl | 52, _ => (hlow 52 (by decide)).trans rfl | 53, _ => (hlow 53 (by decide)).trans rfl | 54, _ => (hlow 54 (by decide)).trans rfl | 55, _ => (hlow 55 (by decide)).trans rfl | 56, _ => (hlow 56 (by decide)).trans rfl | 57, _ => (hlow 57 (by decide)).trans rfl | 58, _ => (hlow 58 (by decide)).trans rfl | 59, _ => (hlow 59 (by decide)).trans rfl | 60, _ => (hlow 60 (by decide)).trans rfl | 61, _ => (hlow 61 (by decide)).trans rfl | 62, _ => (hlow 62 (by decide)).trans rfl | 63, _ => (hlow 63 (by decide)).trans rfl | 64, _ => (hlow 64 (by decide)).trans rfl | 65, _ => (hlow 65 (by decide)).trans rfl | 66, _ => (hlow 66 (by decide)).trans rfl | 67, _ => (hlow 67 (by decide)).trans rfl | 68, _ => (hlow 68 (by decide)).trans rfl | 69, _ => (hlow 69 (by decide)).trans rfl | 70, _ => (hlow 70 (by decide)).trans rfl | 71, _ => (hlow 71 (by decide)).trans rfl | 72, _ => (hlow 72 (by decide)).trans rfl | 73, _ => (hlow 73 (by decide)).trans rfl | 74, _ => (hlow 74 (by decide)).trans rfl | 75, _ => (hlow 75 (by decide)).trans rfl | 76, _ => hy76 | 77, _ => RgX.val_at (hok 0 77 _ (by decide) rfl rfl) | 78, _ => RgX.val_at (hok 1 78 _ (by decide) rfl rfl) | 79, _ => RgX.val_at (hok 2 79 _ (by decide) rfl rfl) | 80, _ => hy80 | 81, _ => RgX.val_at (hok 4 81 _ (by decide) rfl rfl) | 82, _ => hy82 | 83, _ => hy83 | 84, _ => RgX.val_at (hok 8 84 _ (by decide) rfl rfl) | 85, _ => (hlow 85 (by decide)).trans rfl | 86, _ => (hlow 86 (by decide)).trans rfl | 87, _ => (hlow 87 (by decide)).trans rfl | 88, _ => (hlow 88 (by decide)).trans rfl | 89, _ => (hlow 89 (by decide)).trans rfl | 90, _ => (hlow 90 (by decide)).trans rfl | 91, _ => (hlow 91 (by decide)).trans rfl | 92, _ => (hlow 92 (by decide)).trans rfl | 93, _ => (hlow 93 (by decide)).trans rfl | 94, _ => (hlow 94 (by decide)).trans rfl | 95, _ => (hlow 95 (by decide)).trans rfl | 96, _ => (hlow 96 (by decide)).trans rfl | 97, _ => (hlow 97 (by decide)).trans rfl | 98, _ => (hlow 98 (by decide)).trans rfl | 99, _ => (hlow 99 (by decide)).trans rfl | 100, _ => (hlow 100 (by decide)).trans rfl | 101, _ => (hlow 101 (by decide)).trans rfl | 102, _ => (hlow 102 (by decide)).trans rfl | 103, _ => (hlow 103 (by decide)).trans rfl | 104, _ => (hlow 104 (by decide)).trans rfl | 105, _ => (hlow 105 (by decide)).trans rfl | 106, _ => (hlow 106 (by decide)).trans rfl | 107, _ => (hlow 107 (by decide)).trans rfl | 108, _ => (hlow 108 (by decide)).trans rfl | 109, _ => (hlow 109 (by decide)).trans rfl | 110, _ => (hlow 110 (by decide)).trans rfl | 111, _ => (hlow 111 (by decide)).trans rfl | 112, _ => (hlow 112 (by decide)).trans rfl | 113, _ => (hlow 113 (by decide)).trans rfl | n + 114, h => absurd h (by show ¬ n + 114 < 114; omega))
        clear hs hd hlow hok hy18 hy76 hy80 hy82 hy83
        obtain ⟨v9, h9⟩ : ∃ V, V = w3 := ⟨_, rfl⟩
        rw [← h9] at hS h18 ⊢
        have hb := hS
        have HZ := Lib.hid h18.1
        replace HE := Lib.hid (HE.out.keep hb)
        replace H8 := Lib.hid (H8.out.keep hb)
        replace H9 := Lib.hid (H9.out.keep hb)
        replace HX10 := Lib.hid (HX10.out.keep hb)
        replace HB := Lib.hid (HB.out.trans (hb.mono HB.out.size))
        clear hb hS h9 h18 h76 h80 h82 h83
        obtain ⟨p0, p1, p2, p3, p4, p5, p6, p7, p8⟩ := H8.out.cells
        obtain ⟨q0, q1, q2, q3, q4, q5, q6, q7, q8⟩ := H9.out.cells
        go_upto_region 17 with (first
          | (go_at_call 16; (with_reducible refine (remove_sp (r := pr) (q := qy + 1) y.m _ HX10.out HOPX.out (by have := HPL.out; omega) HPR.out.symm HPL.out.2).mono ?_); rintro e v10 ⟨⟨_, rfl, B1, c1, rfl, h_, _⟩, hb⟩; replace HE := Lib.hid (HE.out.keep hb); replace H8 := Lib.hid (H8.out.keep hb); replace H9 := Lib.hid (H9.out.keep hb); replace HZ := Lib.hid (HZ.out.keep hb); replace HB := Lib.hid (HB.out.trans (hb.mono HB.out.size)); clear hb; have HR1 := Lib.hid h_; clear h_; obtain ⟨p0, p1, p2, p3, p4, p5, p6, p7, p8⟩ := H8.out.cells; obtain ⟨q0, q1, q2, q3, q4, q5, q6, q7, q8⟩ := H9.out.cells)
          | (go_at_call 15; (with_reducible refine (sameEn_true _ HZ.out HR1.out (by have := HRL.out; omega)).mono ?_); rintro e v11 ⟨rfl, hb⟩; replace HE := Lib.hid (HE.out.keep hb); replace H8 := Lib.hid (H8.out.keep hb); replace H9 := Lib.hid (H9.out.keep hb); replace HB := Lib.hid (HB.out.trans (hb.mono HB.out.size)); clear hb))
        clear HR1 p0 p1 p2 p3 p4 p5 p6 p7 p8 q0 q1 q2 q3 q4 q5 q6 q7 q8
        refine RgX.regionB 19 (fun i => (if i = 18 then 6 else 96 + i)) (fun ix_ => match ix_ with | 0 => .v (.slice B s.length r) | 1 => .v (.pointer (some ⟨v2.heap.size, 0, none⟩)) | 2 => .v (.agg #[.int .i64 x.m.c, .int .i64 x.m.h, .int .i64 x.m.t, .int .i64 x.m.i, .int .i64 x.m.p]) | 3 => .ens 0 rx qx | 4 => .v (.pointer (some ⟨v3.heap.size, 0, none⟩)) | 5 => .v (.agg #[.int .i64 y.m.c, .int .i64 y.m.h, .int .i64 y.m.t, .int .i64 y.m.i, .int .i64 y.m.p]) | 6 => .ens 0 rxy qxy | 7 => .v (.slice B s.length r) | 8 => .v (.pointer (some ⟨v3.heap.size, 0, none⟩)) | 9 => .v (.agg #[.int .i64 y.m.c, .int .i64 y.m.h, .int .i64 y.m.t, .int .i64 y.m.i, .int .i64 y.m.p]) | 10 => .ens 0 ry qy | 11 => .v (.pointer (some ⟨v2.heap.size, 0, none⟩)) | 12 => .v (.agg #[.int .i64 x.m.c, .int .i64 x.m.h, .int .i64 x.m.t, .int .i64 x.m.i, .int .i64 x.m.p]) | 13 => .ens 0 rxy qxy | 14 => .v (.bool true) | 15 => .v (.bool true) | 16 => .v (.bool true) | 17 => .v (.bool true) | 18 => .v (.bool true) | _ => .any) (by kernel_rfl) rfl (by kernel_rfl)  (fun i hi => by show (if i = 18 then 6 else 96 + i) < 114; (repeat' split) <;> omega) (fun i j hi hj => by show (if i = 18 then 6 else 96 + i) = (if j = 18 then 6 else 96 + j) → i = j; (repeat' split) <;> omega) ?step ?fin
        case step =>
          intro L_ A_ w3 ix op_ hI ho hdep
          have hi : ix < 19 := (Array.getElem?_eq_some_iff.1 ho).1
          have hcase : ix = 0 ∨ ix = 1 ∨ ix = 2 ∨ ix = 3 ∨ ix = 4 ∨ ix = 5 ∨ ix = 6 ∨ ix = 7 ∨ ix = 8 ∨ ix = 9 ∨ ix = 10 ∨ ix = 11 ∨ ix = 12 ∨ ix = 13 ∨ ix = 14 ∨ ix = 15 ∨ ix = 16 ∨ ix = 17 ∨ ix = 18 := by omega
          have hh := hI.held
          clear hi
          rcases hcase with rfl | rfl | rfl | rfl | rfl | rfl | rfl | rfl | rfl | rfl | rfl | rfl | rfl | rfl | rfl | rfl | rfl | rfl | rfl
          · simp only [List.getElem?_toArray, List.getElem?_cons_zero, Option.some.injEq] at ho
            subst ho
            refine ⟨rfl, ?_⟩
            have e7 : A_.tmps[7]?.getD undef = .slice B s.length r := by rw [hI.low 7 (by decide)]; rfl
            clear hI hdep
            exact .run rfl (.slice B s.length r) w3 (by simp [execOp, go_sem, Act.eval, e7]) (Below.refl _ _) rfl
          · simp only [List.getElem?_toArray, List.getElem?_cons_succ, List.getElem?_cons_zero, Option.some.injEq] at ho
            subst ho
            refine ⟨rfl, ?_⟩
            have e8 : A_.tmps[8]?.getD undef = .pointer (some ⟨v2.heap.size, 0, none⟩) := by rw [hI.low 8 (by decide)]; rfl
            clear hI hdep
            exact .run rfl (.pointer (some ⟨v2.heap.size, 0, none⟩)) w3 (by simp [execOp, go_sem, Act.eval, e8]) (Below.refl _ _) rfl
          · simp only [List.getElem?_toArray, List.getElem?_cons_succ, List.getElem?_cons_zero, Option.some.injEq] at ho
            subst ho
            refine ⟨rfl, ?_⟩
            have e97 : A_.tmps[97]?.getD undef = .pointer (some ⟨v2.heap.size, 0, none⟩) := getD_of (hI.val_ (i := 1) rfl rfl (by decide) (hdep ⟨1, .data⟩ (by simp) rfl))
            clear hI hdep
            obtain ⟨p0, p1, p2, p3, p4, p5, p6, p7, p8⟩ := (H8.out.keep hh).cells
            obtain ⟨q0, q1, q2, q3, q4, q5, q6, q7, q8⟩ := (H9.out.keep hh).cells
            exact .run rfl (.agg #[.int .i64 x.m.c, .int .i64 x.m.h, .int .i64 x.m.t, .int .i64 x.m.i, .int .i64 x.m.p]) w3 (by simp [execOp, go_sem, Act.eval, *]) (Below.refl _ _) rfl
          · simp only [List.getElem?_toArray, List.getElem?_cons_succ, List.getElem?_cons_zero, Option.some.injEq] at ho
            subst ho
            refine ⟨rfl, ?_⟩
            have e96 : A_.tmps[96]?.getD undef = .slice B s.length r := getD_of (hI.val_ (i := 0) rfl rfl (by decide) (hdep ⟨0, .data⟩ (by simp) rfl))
            have e98 : A_.tmps[98]?.getD undef = .agg #[.int .i64 x.m.c, .int .i64 x.m.h, .int .i64 x.m.t, .int .i64 x.m.i, .int .i64 x.m.p] := getD_of (hI.val_ (i := 2) rfl rfl (by decide) (hdep ⟨2, .data⟩ (by simp) rfl))
            clear hI hdep
            exact .call rfl 16 #[.slice B s.length r, .agg #[.int .i64 x.m.c, .int .i64 x.m.h, .int .i64 x.m.t, .int .i64 x.m.i, .int .i64 x.m.p]] (by simp [go_sem, Act.eval, e96, e98]) (remove_sp x.m w3 (HE.out.keep hh) HO.out (by omega) HRX.out.1 HRX.out.2)
          · simp only [List.getElem?_toArray, List.getElem?_cons_succ, List.getElem?_cons_zero, Option.some.injEq] at ho
            subst ho
            refine ⟨rfl, ?_⟩
            have e9 : A_.tmps[9]?.getD undef = .pointer (some ⟨v3.heap.size, 0, none⟩) := by rw [hI.low 9 (by decide)]; rfl
            clear hI hdep
            exact .run rfl (.pointer (some ⟨v3.heap.size, 0, none⟩)) w3 (by simp [execOp, go_sem, Act.eval, e9]) (Below.refl _ _) rfl
          · simp only [List.getElem?_toArray, List.getElem?_cons_succ, List.getElem?_cons_zero, Option.some.injEq] at ho
            subst ho
            refine ⟨rfl, ?_⟩
            have e100 : A_.tmps[100]?.getD undef = .pointer (some ⟨v3.heap.size, 0, none⟩) := getD_of (hI.val_ (i := 4) rfl rfl (by decide) (hdep ⟨4, .data⟩ (by simp) rfl))
            clear hI hdep
            obtain ⟨p0, p1, p2, p3, p4, p5, p6, p7, p8⟩ := (H8.out.keep hh).cells
            obtain ⟨q0, q1, q2, q3, q4, q5, q6, q7, q8⟩ := (H9.out.keep hh).cells
            exact .run rfl (.agg #[.int .i64 y.m.c, .int .i64 y.m.h, .int .i64 y.m.t, .int .i64 y.m.i, .int .i64 y.m.p]) w3 (by simp [execOp, go_sem, Act.eval, *]) (Below.refl _ _) rfl
          · simp only [List.getElem?_toArray, List.getElem?_cons_succ, List.getElem?_cons_zero, Option.some.injEq] at ho
            subst ho
            refine ⟨rfl, ?_⟩
            obtain ⟨_, e99, B99, c99, rfl, h99⟩ := hI.get_ (i := 3) (j := 99) rfl rfl (by decide) (hdep ⟨3, .data⟩ (by simp) rfl)
            have e101 : A_.tmps[101]?.getD undef = .agg #[.int .i64 y.m.c, .int .i64 y.m.h, .int .i64 y.m.t, .int .i64 y.m.i, .int .i64 y.m.p] := getD_of (hI.val_ (i := 5) rfl rfl (by decide) (hdep ⟨5, .data⟩ (by simp) rfl))
            clear hI hdep
            exact .call rfl 16 #[.slice B99 qx c99, .agg #[.int .i64 y.m.c, .int .i64 y.m.h, .int .i64 y.m.t, .int .i64 y.m.i, .int .i64 y.m.p]] (by simp [go_sem, Act.eval, e99, e101]) (remove_sp y.m w3 h99.1 HOX.out (by have := HRL.out; omega) HRXY.out.1 HRXY.out.2.2)
          · simp only [List.getElem?_toArray, List.getElem?_cons_succ, List.getElem?_cons_zero, Option.some.injEq] at ho
            subst ho
            refine ⟨rfl, ?_⟩
            have e7 : A_.tmps[7]?.getD undef = .slice B s.length r := by rw [hI.low 7 (by decide)]; rfl
            clear hI hdep
            exact .run rfl (.slice B s.length r) w3 (by simp [execOp, go_sem, Act.eval, e7]) (Below.refl _ _) rfl
          · simp only [List.getElem?_toArray, List.getElem?_cons_succ, List.getElem?_cons_zero, Option.some.injEq] at ho
            subst ho
            refine ⟨rfl, ?_⟩
            have e9 : A_.tmps[9]?.getD undef = .pointer (some ⟨v3.heap.size, 0, none⟩) := by rw [hI.low 9 (by decide)]; rfl
            clear hI hdep
            exact .run rfl (.pointer (some ⟨v3.heap.size, 0, none⟩)) w3 (by simp [execOp, go_sem, Act.eval, e9]) (Below.refl _ _) rfl
          · simp only [List.getElem?_toArray, List.getElem?_cons_succ, List.getElem?_cons_zero, Option.some.injEq] at ho
            subst ho
            refine ⟨rfl, ?_⟩
            have e104 : A_.tmps[104]?.getD undef = .pointer (some ⟨v3.heap.size, 0, none⟩) := getD_of (hI.val_ (i := 8) rfl rfl (by decide) (hdep ⟨8, .data⟩ (by simp) rfl))
            clear hI hdep
            obtain ⟨p0, p1, p2, p3, p4, p5, p6, p7, p8⟩ := (H8.out.keep hh).cells
            obtain ⟨q0, q1, q2, q3, q4, q5, q6, q7, q8⟩ := (H9.out.keep hh).cells
            exact .run rfl (.agg #[.int .i64 y.m.c, .int .i64 y.m.h, .int .i64 y.m.t, .int .i64 y.m.i, .int .i64 y.m.p]) w3 (by simp [execOp, go_sem, Act.eval, *]) (Below.refl _ _) rfl
          · simp only [List.getElem?_toArray, List.getElem?_cons_succ, List.getElem?_cons_zero, Option.some.injEq] at ho
            subst ho
            refine ⟨rfl, ?_⟩
            have e103 : A_.tmps[103]?.getD undef = .slice B s.length r := getD_of (hI.val_ (i := 7) rfl rfl (by decide) (hdep ⟨7, .data⟩ (by simp) rfl))
            have e105 : A_.tmps[105]?.getD undef = .agg #[.int .i64 y.m.c, .int .i64 y.m.h, .int .i64 y.m.t, .int .i64 y.m.i, .int .i64 y.m.p] := getD_of (hI.val_ (i := 9) rfl rfl (by decide) (hdep ⟨9, .data⟩ (by simp) rfl))
            clear hI hdep
            exact .call rfl 16 #[.slice B s.length r, .agg #[.int .i64 y.m.c, .int .i64 y.m.h, .int .i64 y.m.t, .int .i64 y.m.i, .int .i64 y.m.p]] (by simp [go_sem, Act.eval, e103, e105]) (remove_sp y.m w3 (HE.out.keep hh) HO.out (by omega) HRY.out.1 HRY.out.2)
          · simp only [List.getElem?_toArray, List.getElem?_cons_succ, List.getElem?_cons_zero, Option.some.injEq] at ho
            subst ho
            refine ⟨rfl, ?_⟩
            have e8 : A_.tmps[8]?.getD undef = .pointer (some ⟨v2.heap.size, 0, none⟩) := by rw [hI.low 8 (by decide)]; rfl
            clear hI hdep
            exact .run rfl (.pointer (some ⟨v2.heap.size, 0, none⟩)) w3 (by simp [execOp, go_sem, Act.eval, e8]) (Below.refl _ _) rfl
          · simp only [List.getElem?_toArray, List.getElem?_cons_succ, List.getElem?_cons_zero, Option.some.injEq] at ho
            subst ho
            refine ⟨rfl, ?_⟩
            have e107 : A_.tmps[107]?.getD undef = .pointer (some ⟨v2.heap.size, 0, none⟩) := getD_of (hI.val_ (i := 11) rfl rfl (by decide) (hdep ⟨11, .data⟩ (by simp) rfl))
            clear hI hdep
            obtain ⟨p0, p1, p2, p3, p4, p5, p6, p7, p8⟩ := (H8.out.keep hh).cells
            obtain ⟨q0, q1, q2, q3, q4, q5, q6, q7, q8⟩ := (H9.out.keep hh).cells
            exact .run rfl (.agg #[.int .i64 x.m.c, .int .i64 x.m.h, .int .i64 x.m.t, .int .i64 x.m.i, .int .i64 x.m.p]) w3 (by simp [execOp, go_sem, Act.eval, *]) (Below.refl _ _) rfl
          · simp only [List.getElem?_toArray, List.getElem?_cons_succ, List.getElem?_cons_zero, Option.some.injEq] at ho
            subst ho
            refine ⟨rfl, ?_⟩
            obtain ⟨_, e106, B106, c106, rfl, h106⟩ := hI.get_ (i := 10) (j := 106) rfl rfl (by decide) (hdep ⟨10, .data⟩ (by simp) rfl)
            have e108 : A_.tmps[108]?.getD undef = .agg #[.int .i64 x.m.c, .int .i64 x.m.h, .int .i64 x.m.t, .int .i64 x.m.i, .int .i64 x.m.p] := getD_of (hI.val_ (i := 12) rfl rfl (by decide) (hdep ⟨12, .data⟩ (by simp) rfl))
            clear hI hdep
            exact .call rfl 16 #[.slice B106 qy c106, .agg #[.int .i64 x.m.c, .int .i64 x.m.h, .int .i64 x.m.t, .int .i64 x.m.i, .int .i64 x.m.p]] (by simp [go_sem, Act.eval, e106, e108]) (remove_sp x.m w3 h106.1 HOY.out (by have := HRL.out; omega) HRXY.out.2.1 HRXY.out.2.2)
          · simp only [List.getElem?_toArray, List.getElem?_cons_succ, List.getElem?_cons_zero, Option.some.injEq] at ho
            subst ho
            refine ⟨rfl, ?_⟩
            obtain ⟨_, e102, B102, c102, rfl, h102⟩ := hI.get_ (i := 6) (j := 102) rfl rfl (by decide) (hdep ⟨6, .data⟩ (by simp) rfl)
            obtain ⟨_, e109, B109, c109, rfl, h109⟩ := hI.get_ (i := 13) (j := 109) rfl rfl (by decide) (hdep ⟨13, .data⟩ (by simp) rfl)
            clear hI hdep
            exact .call rfl 15 #[.slice B102 qxy c102, .slice B109 qxy c109] (by simp [go_sem, Act.eval, e102, e109]) ((sameEn_true w3 h102.1 h109.1 (by have := HRL.out; omega)).mono fun _ _ ⟨h1_, h2_⟩ => ⟨⟨_, h1_, rfl⟩, h2_⟩)
          · simp only [List.getElem?_toArray, List.getElem?_cons_succ, List.getElem?_cons_zero, Option.some.injEq] at ho
            subst ho
            refine ⟨rfl, ?_⟩
            have e110 : A_.tmps[110]?.getD undef = .bool true := getD_of (hI.val_ (i := 14) rfl rfl (by decide) (hdep ⟨14, .data⟩ (by simp) rfl))
            clear hI hdep
            exact .run rfl (.bool true) w3 (by simp [execOp, go_sem, Act.eval, e110]) (Below.refl _ _) rfl
          · simp only [List.getElem?_toArray, List.getElem?_cons_succ, List.getElem?_cons_zero, Option.some.injEq] at ho
            subst ho
            refine ⟨rfl, ?_⟩
            have q111 : A_.tmps[111]? = some (.bool true) := hI.val_ (i := 15) rfl rfl (by decide) (hdep ⟨15, .guard⟩ (by simp) rfl)
            clear hI hdep
            exact .call ((wanted_some rfl rfl q111).trans rfl) 24 #[] (by simp [go_sem]) ((lives_any w3).mono fun _ _ ⟨h1_, h2_⟩ => ⟨⟨_, h1_, rfl⟩, h2_⟩)
          · simp only [List.getElem?_toArray, List.getElem?_cons_succ, List.getElem?_cons_zero, Option.some.injEq] at ho
            subst ho
            refine ⟨rfl, ?_⟩
            have e111 : A_.tmps[111]?.getD undef = .bool true := getD_of (hI.val_ (i := 15) rfl rfl (by decide) (hdep ⟨15, .data⟩ (by simp) rfl))
            have e112 : A_.tmps[112]?.getD undef = .bool true := getD_of (hI.val_ (i := 16) rfl rfl (by decide) (hdep ⟨16, .data⟩ (by simp) rfl))
            clear hI hdep
            exact .run rfl (.bool true) w3 (by simp [execOp, go_sem, Act.eval, e111, e112]) (Below.refl _ _) rfl
          · simp only [List.getElem?_toArray, List.getElem?_cons_succ, List.getElem?_cons_zero, Option.some.injEq] at ho
            subst ho
            refine ⟨rfl, ?_⟩
            have e113 : A_.tmps[113]?.getD undef = .bool true := getD_of (hI.val_ (i := 17) rfl rfl (by decide) (hdep ⟨17, .data⟩ (by simp) rfl))
            clear hI hdep
            exact .run rfl (.bool true) w3 (by simp [execOp, go_sem, Act.eval, e113]) (Below.refl _ _) rfl
        case fin =>
        intro A_ w3 hs hd hlow hS hok
        obtain ⟨_, hy99, B99, c99, rfl, h99⟩ := hok 3 99 _ (by decide) rfl rfl
        obtain ⟨_, hy102, B102, c102, rfl, h102⟩ := hok 6 102 _ (by decide) rfl rfl
        obtain ⟨_, hy106, B106, c106, rfl, h106⟩ := hok 10 106 _ (by decide) rfl rfl
        obtain ⟨_, hy109, B109, c109, rfl, h109⟩ := hok 13 109 _ (by decide) rfl rfl
        obtain rfl : A_ = ⟨#[.slice a0 len0 cap0, .int .i64 a1, .int .i64 a2, undef, undef, undef, .bool true, .slice B s.length r, .pointer (some ⟨v2.heap.size, 0, none⟩), .pointer (some ⟨v3.heap.size, 0, none⟩), .slice B10 px.length c10, .int .i64 0, .slice B12 q12 c12, .int .i64 4, undef, undef, undef, undef, .slice B18 (qy + 1) c18, .int .i64 0, .slice a0 len0 cap0, .slice B s.length r, .int .i64 a1, enV x, .int .i64 a2, enV y, .pointer (some ⟨v2.heap.size, 0, none⟩), .agg #[.int .i64 x.m.c, .int .i64 x.m.h, .int .i64 x.m.t, .int .i64 x.m.i, .int .i64 x.m.p], .pointer (some ⟨v3.heap.size, 0, none⟩), .agg #[.int .i64 y.m.c, .int .i64 y.m.h, .int .i64 y.m.t, .int .i64 y.m.i, .int .i64 y.m.p], .bool false, undef, Value.tuple #[.slice B10 px.length c10, .int .i64 0], .slice B s.length r, .agg #[.int .i64 x.m.c, .int .i64 x.m.h, .int .i64 x.m.t, .int .i64 x.m.i, .int .i64 x.m.p, .int .i64 x.o, .int .i64 x.k, .int .i64 x.a, .int .i64 x.b], Value.tuple #[.slice B10 px.length c10, .int .i64 0], .slice B10 px.length c10, .int .i64 0, Value.tuple #[.slice B12 q12 c12, .int .i64 4], .slice B s.length r, .agg #[.int .i64 y.m.c, .int .i64 y.m.h, .int .i64 y.m.t, .int .i64 y.m.i, .int .i64 y.m.p, .int .i64 y.o, .int .i64 y.k, .int .i64 y.a, .int .i64 y.b], Value.tuple #[.slice B12 q12 c12, .int .i64 4], .slice B12 q12 c12, .int .i64 4, .int .i64 0, .bool true, .bool true, .int .i64 4, .bool false, .bool false, undef, undef, undef, undef, undef, undef, undef, undef, undef, undef, undef, undef, undef, undef, undef, undef, undef, undef, undef, undef, undef, undef, undef, undef, .int .i64 0, .bool true, Value.tuple #[.slice B76 (qy + 1) c76, .int .i64 0], .slice B s.length r, .pointer (some ⟨v3.heap.size, 0, none⟩), .agg #[.int .i64 y.m.c, .int .i64 y.m.h, .int .i64 y.m.t, .int .i64 y.m.i, .int .i64 y.m.p], .slice B80 qy c80, .agg #[.int .i64 x.m.c, .int .i64 x.m.h, .int .i64 x.m.t, .int .i64 x.m.i, .int .i64 x.m.p, .int .i64 x.o, .int .i64 x.k, .int .i64 x.a, .int .i64 x.b], Value.tuple #[.slice B82 (qy + 1) c82, .int .i64 0], .slice B83 (qy + 1) c83, .int .i64 0, .int .i64 0, .bool false, .bool false, .slice B18 (qy + 1) c18, .slice B10 px.length c10, .pointer (some ⟨v3.heap.size, 0, none⟩), .agg #[.int .i64 y.m.c, .int .i64 y.m.h, .int .i64 y.m.t, .int .i64 y.m.i, .int .i64 y.m.p], .slice B1 (qy + 1) c1, .bool true, .bool false, .bool false, .slice B s.length r, .pointer (some ⟨v2.heap.size, 0, none⟩), .agg #[.int .i64 x.m.c, .int .i64 x.m.h, .int .i64 x.m.t, .int .i64 x.m.i, .int .i64 x.m.p], .slice B99 qx c99, .pointer (some ⟨v3.heap.size, 0, none⟩), .agg #[.int .i64 y.m.c, .int .i64 y.m.h, .int .i64 y.m.t, .int .i64 y.m.i, .int .i64 y.m.p], .slice B102 qxy c102, .slice B s.length r, .pointer (some ⟨v3.heap.size, 0, none⟩), .agg #[.int .i64 y.m.c, .int .i64 y.m.h, .int .i64 y.m.t, .int .i64 y.m.i, .int .i64 y.m.p], .slice B106 qy c106, .pointer (some ⟨v2.heap.size, 0, none⟩), .agg #[.int .i64 x.m.c, .int .i64 x.m.h, .int .i64 x.m.t, .int .i64 x.m.i, .int .i64 x.m.p], .slice B109 qxy c109, .bool true, .bool true, .bool true, .bool true], []⟩ := act_ext hd hs (fun j hj => match j, hj with | 0, _ => (hlow 0 (by decide)).trans rfl | 1, _ => (hlow 1 (by decide)).trans rfl | 2, _ => (hlow 2 (by decide)).trans rfl | 3, _ => (hlow 3 (by decide)).trans rfl | 4, _ => (hlow 4 (by decide)).trans rfl | 5, _ => (hlow 5 (by decide)).trans rfl | 6, _ => RgX.val_at (hok 18 6 _ (by decide) rfl rfl) | 7, _ => (hlow 7 (by decide)).trans rfl | 8, _ => (hlow 8 (by decide)).trans rfl | 9, _ => (hlow 9 (by decide)).trans rfl | 10, _ => (hlow 10 (by decide)).trans rfl | 11, _ => (hlow 11 (by decide)).trans rfl | 12, _ => (hlow 12 (by decide)).trans rfl | 13, _ => (hlow 13 (by decide)).trans rfl | 14, _ => (hlow 14 (by decide)).trans rfl | 15, _ => (hlow 15 (by decide)).trans rfl | 16, _ => (hlow 16 (by decide)).trans rfl | 17, _ => (hlow 17 (by decide)).trans rfl | 18, _ => (hlow 18 (by decide)).trans rfl | 19, _ => (hlow 19 (by decide)).trans rfl | 20, _ => (hlow 20 (by decide)).trans rfl | 21, _ => (hlow 21 (by decide)).trans rfl | 22, _ => (hlow 22 (by decide)).trans rfl | 23, _ => (hlow 23 (by decide)).trans rfl | 24, _ => (hlow 24 (by decide)).trans rfl | 25, _ => (hlow 25 (by decide)).trans rfl | 26, _ => (hlow 26 (by decide)).trans rfl | 27, _ => (hlow 27 (by decide)).trans rfl | 28, _ => (hlow 28 (by decide)).trans rfl | 29, _ => (hlow 29 (by decide)).trans rfl | 30, _ => (hlow 30 (by decide)).trans rfl | 31, _ => (hlow 31 (by decide)).trans rfl | 32, _ => (hlow 32 (by decide)).trans rfl | 33, _ => (hlow 33 (by decide)).trans rfl | 34, _ => (hlow 34 (by decide)).trans rfl | 35, _ => (hlow 35 (by decide)).trans rfl | 36, _ => (hlow 36 (by decide)).trans rfl | 37, _ => (hlow 37 (by decide)).trans rfl | 38, _ => (hlow 38 (by decide)).trans rfl | 39, _ => (hlow 39 (by decide)).trans rfl | 40, _ => (hlow 40 (by decide)).trans rfl | 41, _ => (hlow 41 (by decide)).trans rfl | 42, _ => (hlow 42 (by decide)).trans rfl | 43, _ => (hlow 43 (by decide)).trans rfl | 44, _ => (hlow 44 (by decide)).trans rfl | 45, _ => (hlow 45 (by decide)).trans rfl | 46, _ => (hlow 46 (by decide)).trans rfl | 47, _ => (hlow 47 (by decide)).trans rfl | 48, _ => (hlow 48 (by decide)).trans rfl | 49, _ => (hlow 49 (by decide)).trans rfl | 50, _ => (hlow 50 (by decide)).trans rfl | 51, _ => (hlow 51 (by decide)).trans rfl | 52, _ => (hlow 52 (by decide)).trans rfl | 53, _ => (hlow 53 (by decide)).trans rfl | 54, _ => (hlow 54 (by decide)).trans rfl | 55, _ => (hlow 55 (by decide)).trans rfl | 56, _ => (hlow 56 (by decide)).trans rfl | 57, _ => (hlow 57 (by decide)).trans rfl | 58, _ => (hlow 58 (by decide)).trans rfl | 59, _ => (hlow 59 (by decide)).trans rfl | 60, _ => (hlow 60 (by decide)).trans rfl | 61, _ => (hlow 61 (by decide)).trans rfl | 62, _ => (hlow 62 (by decide)).trans rfl | 63, _ => (hlow 63 (by decide)).trans rfl | 64, _ => (hlow 64 (by decide)).trans rfl | 65, _ => (hlow 65 (by decide)).trans rfl | 66, _ => (hlow 66 (by decide)).trans rfl | 67, _ => (hlow 67 (by decide)).trans rfl | 68, _ => (hlow 68 (by decide)).trans rfl | 69, _ => (hlow 69 (by decide)).trans rfl | 70, _ => (hlow 70 (by decide)).trans rfl | 71, _ => (hlow 71 (by decide)).trans rfl | 72, _ => (hlow 72 (by decide)).trans rfl | 73, _ => (hlow 73 (by decide)).trans rfl | 74, _ => (hlow 74 (by decide)).trans rfl | 75, _ => (hlow 75 (by decide)).trans rfl | 76, _ => (hlow 76 (by decide)).trans rfl | 77, _ => (hlow 77 (by decide)).trans rfl | 78, _ => (hlow 78 (by decide)).trans rfl | 79, _ => (hlow 79 (by decide)).trans rfl | 80, _ => (hlow 80 (by decide)).trans rfl | 81, _ => (hlow 81 (by decide)).trans rfl | 82, _ => (hlow 82 (by decide)).trans rfl | 83, _ => (hlow 83 (by decide)).trans rfl | 84, _ => (hlow 84 (by decide)).trans rfl | 85, _ => (hlow 85 (by decide)).trans rfl | 86, _ => (hlow 86 (by decide)).trans rfl | 87, _ => (hlow 87 (by decide)).trans rfl | 88, _ => (hlow 88 (by decide)).trans rfl | 89, _ => (hlow 89 (by decide)).trans rfl | 90, _ => (hlow 90 (by decide)).trans rfl | 91, _ => (hlow 91 (by decide)).trans rfl | 92, _ => (hlow 92 (by decide)).trans rfl | 93, _ => (hlow 93 (by decide)).trans rfl | 94, _ => (hlow 94 (by decide)).trans rfl | 95, _ => (hlow 95 (by decide)).trans rfl | 96, _ => RgX.val_at (hok 0 96 _ (by decide) rfl rfl) | 97, _ => RgX.val_at (hok 1 97 _ (by decide) rfl rfl) | 98, _ => RgX.val_at (hok 2 98 _ (by decide) rfl rfl) | 99, _ => hy99 | 100, _ => RgX.val_at (hok 4 100 _ (by decide) rfl rfl) | 101, _ => RgX.val_at (hok 5 101 _ (by decide) rfl rfl) | 102, _ => hy102 | 103, _ => RgX.val_at (hok 7 103 _ (by decide) rfl rfl) | 104, _ => RgX.val_at (hok 8 104 _ (by decide) rfl rfl) | 105, _ => RgX.val_at (hok 9 105 _ (by decide) rfl rfl) | 106, _ => hy106 | 107, _ => RgX.val_at (hok 11 107 _ (by decide) rfl rfl) | 108, _ => RgX.val_at (hok 12 108 _ (by decide) rfl rfl) | 109, _ => hy109 | 110, _ => RgX.val_at (hok 14 110 _ (by decide) rfl rfl) | 111, _ => RgX.val_at (hok 15 111 _ (by decide) rfl rfl) | 112, _ => RgX.val_at (hok 16 112 _ (by decide) rfl rfl) | 113, _ => RgX.val_at (hok 17 113 _ (by decide) rfl rfl) | n + 114, h => absurd h (by show ¬ n + 114 < 114; omega))
        clear hs hd hlow hok hy99 hy102 hy106 hy109
        go_wp2_with fail
        go_ret
        exact ⟨rfl, HB.out.trans (hS.mono HB.out.size)⟩
      · have hfy : NW.has s y.m = false := by simpa using hy
        rw [hfy] at HAY HHP
        simp only [Bool.false_eq_true, if_false] at HAY
        have HFY := Lib.hid hfy
        have HHQ : Hid (NW.has (NW.put s y) x.m = false) := Lib.hid (by rw [NW.has_put, HF.out, decide_eq_false HXY2.out]; rfl)
        have HOPY := Lib.hid (NW.srt_put HO.out hfy)
        have HCM : Hid (NW.put px y = NW.put (NW.put s y) x) := Lib.hid (by rw [← HPX.out]; exact NW.put_comm HO.out HF.out hfy HXY.out)
        have hply := NW.put_len s y
        obtain ⟨py, hpy⟩ : ∃ t, NW.put s y = t := ⟨_, rfl⟩
        rw [hpy] at HAY HHQ HOPY HCM hply
        have HPLY := Lib.hid hply
        clear hy hfy hpy hply
        go_upto_region 8 with (first
          | (go_at_call 11; (with_reducible refine (HA.out _ HE.out).mono ?_); rintro e v4 ⟨⟨B10, q10, c10, rfl, h_, _⟩, hb⟩; replace HE := Lib.hid (HE.out.keep hb); replace H8 := Lib.hid (H8.out.keep hb); replace H9 := Lib.hid (H9.out.keep hb); replace HB := Lib.hid (HB.out.trans (hb.mono HB.out.size)); clear hb; have HX10 := Lib.hid h_; clear h_; obtain ⟨p0, p1, p2, p3, p4, p5, p6, p7, p8⟩ := H8.out.cells; obtain ⟨q0, q1, q2, q3, q4, q5, q6, q7, q8⟩ := H9.out.cells)
          | (go_at_call 11; (with_reducible refine (HAY.out _ HE.out).mono ?_); rintro e v5 ⟨⟨B12, q12, c12, rfl, h_, _⟩, hb⟩; replace HE := Lib.hid (HE.out.keep hb); replace H8 := Lib.hid (H8.out.keep hb); replace H9 := Lib.hid (H9.out.keep hb); replace HX10 := Lib.hid (HX10.out.keep hb); replace HB := Lib.hid (HB.out.trans (hb.mono HB.out.size)); clear hb; have HX12 := Lib.hid h_; clear h_))
        obtain rfl : q10 = px.length := HX10.out.len.symm
        clear p0 p1 p2 p3 p4 p5 p6 p7 p8 q0 q1 q2 q3 q4 q5 q6 q7 q8
        obtain rfl : q12 = py.length := HX12.out.len.symm
        obtain ⟨p0, p1, p2, p3, p4, p5, p6, p7, p8⟩ := H8.out.cells
        obtain ⟨q0, q1, q2, q3, q4, q5, q6, q7, q8⟩ := H9.out.cells
        have HA2 := Lib.hid (fun V (h : Ens V B10 px.length c10 px) => add_any y V h HOPX.out (by have := HPL.out; omega))
        rw [HHP.out, HCM.out] at HA2
        have HA3 := Lib.hid (fun V (h : Ens V B12 py.length c12 py) => add_any x V h HOPY.out (by have := HPLY.out; omega))
        rw [HHQ.out] at HA3
        simp only [Bool.false_eq_true, if_false] at HA2 HA3
        obtain ⟨pz, hpz⟩ : ∃ t, NW.put py x = t := ⟨_, rfl⟩
        have hplz := NW.put_len py x
        rw [hpz] at HA2 HA3 hplz
        have HPLZ := Lib.hid hplz
        clear hpz hplz
        go_upto_region 11 with (first
          | (go_at_call 11; (with_reducible refine (HA2.out _ HX10.out).mono ?_); rintro e v6 ⟨⟨B14, q14, c14, rfl, h_, _⟩, hb⟩; replace HE := Lib.hid (HE.out.keep hb); replace H8 := Lib.hid (H8.out.keep hb); replace H9 := Lib.hid (H9.out.keep hb); replace HX10 := Lib.hid (HX10.out.keep hb); replace HX12 := Lib.hid (HX12.out.keep hb); replace HB := Lib.hid (HB.out.trans (hb.mono HB.out.size)); clear hb; have HX14 := Lib.hid h_; clear h_; obtain ⟨p0, p1, p2, p3, p4, p5, p6, p7, p8⟩ := H8.out.cells; obtain ⟨q0, q1, q2, q3, q4, q5, q6, q7, q8⟩ := H9.out.cells)
          | (go_at_call 11; (with_reducible refine (HA3.out _ HX12.out).mono ?_); rintro e v7 ⟨⟨B16, q16, c16, rfl, h_, _⟩, hb⟩; replace HE := Lib.hid (HE.out.keep hb); replace H8 := Lib.hid (H8.out.keep hb); replace H9 := Lib.hid (H9.out.keep hb); replace HX10 := Lib.hid (HX10.out.keep hb); replace HX14 := Lib.hid (HX14.out.keep hb); replace HB := Lib.hid (HB.out.trans (hb.mono HB.out.size)); clear hb; have HX16 := Lib.hid h_; clear h_))
        obtain rfl : q14 = pz.length := HX14.out.len.symm
        obtain rfl : q16 = pz.length := HX16.out.len.symm
        clear p0 p1 p2 p3 p4 p5 p6 p7 p8 q0 q1 q2 q3 q4 q5 q6 q7 q8
        go_upto_region 13 with ((go_at_call 15; (with_reducible refine (sameEn_true _ HX14.out HX16.out (by have := HPLZ.out; have := HPLY.out; omega)).mono ?_); rintro e v8 ⟨rfl, hb⟩; replace HE := Lib.hid (HE.out.keep hb); replace H8 := Lib.hid (H8.out.keep hb); replace H9 := Lib.hid (H9.out.keep hb); replace HX10 := Lib.hid (HX10.out.keep hb); replace HB := Lib.hid (HB.out.trans (hb.mono HB.out.size)); clear hb))
        clear HX14 HX16
        go_upto_region 14 with (fail)
        refine RgX.regionB 11 (fun i => (if i = 6 then 76 else if i = 7 then 83 else if i = 8 then 84 else if i = 9 then 18 else if i = 10 then 19 else 77 + i)) (fun ix_ => match ix_ with | 0 => .v (.slice B s.length r) | 1 => .v (.pointer (some ⟨v3.heap.size, 0, none⟩)) | 2 => .v (.agg #[.int .i64 y.m.c, .int .i64 y.m.h, .int .i64 y.m.t, .int .i64 y.m.i, .int .i64 y.m.p]) | 3 => .ens 0 ry qy | 4 => .v (.agg #[.int .i64 x.m.c, .int .i64 x.m.h, .int .i64 x.m.t, .int .i64 x.m.i, .int .i64 x.m.p, .int .i64 x.o, .int .i64 x.k, .int .i64 x.a, .int .i64 x.b]) | 5 => .enst pr (qy + 1) 0 | 6 => .enst pr (qy + 1) 0 | 7 => .ens 0 pr (qy + 1) | 8 => .v (.int .i64 0) | 9 => .ens 0 pr (qy + 1) | 10 => .v (.int .i64 0) | _ => .any) (by kernel_rfl) rfl (by kernel_rfl)  (fun i hi => by show (if i = 6 then 76 else if i = 7 then 83 else if i = 8 then 84 else if i = 9 then 18 else if i = 10 then 19 else 77 + i) < 114; (repeat' split) <;> omega) (fun i j hi hj => by show (if i = 6 then 76 else if i = 7 then 83 else if i = 8 then 84 else if i = 9 then 18 else if i = 10 then 19 else 77 + i) = (if j = 6 then 76 else if j = 7 then 83 else if j = 8 then 84 else if j = 9 then 18 else if j = 10 then 19 else 77 + j) → i = j; (repeat' split) <;> omega) ?step ?fin
        case step =>
          intro L_ A_ w3 ix op_ hI ho hdep
          have hi : ix < 11 := (Array.getElem?_eq_some_iff.1 ho).1
          have hcase : ix = 0 ∨ ix = 1 ∨ ix = 2 ∨ ix = 3 ∨ ix = 4 ∨ ix = 5 ∨ ix = 6 ∨ ix = 7 ∨ ix = 8 ∨ ix = 9 ∨ ix = 10 := by omega
          have hh := hI.held
          clear hi
          rcases hcase with rfl | rfl | rfl | rfl | rfl | rfl | rfl | rfl | rfl | rfl | rfl
          · simp only [List.getElem?_toArray, List.getElem?_cons_zero, Option.some.injEq] at ho
            subst ho
            refine ⟨rfl, ?_⟩
            have e7 : A_.tmps[7]?.getD undef = .slice B s.length r := by rw [hI.low 7 (by decide)]; rfl
            clear hI hdep
            exact .run rfl (.slice B s.length r) w3 (by simp [execOp, go_sem, Act.eval, e7]) (Below.refl _ _) rfl
          · simp only [List.getElem?_toArray, List.getElem?_cons_succ, List.getElem?_cons_zero, Option.some.injEq] at ho
            subst ho
            refine ⟨rfl, ?_⟩
            have e9 : A_.tmps[9]?.getD undef = .pointer (some ⟨v3.heap.size, 0, none⟩) := by rw [hI.low 9 (by decide)]; rfl
            clear hI hdep
            exact .run rfl (.pointer (some ⟨v3.heap.size, 0, none⟩)) w3 (by simp [execOp, go_sem, Act.eval, e9]) (Below.refl _ _) rfl
          · simp only [List.getElem?_toArray, List.getElem?_cons_succ, List.getElem?_cons_zero, Option.some.injEq] at ho
            subst ho
            refine ⟨rfl, ?_⟩
            have e78 : A_.tmps[78]?.getD undef = .pointer (some ⟨v3.heap.size, 0, none⟩) := getD_of (hI.val_ (i := 1) rfl rfl (by decide) (hdep ⟨1, .data⟩ (by simp) rfl))
            clear hI hdep
            obtain ⟨p0, p1, p2, p3, p4, p5, p6, p7, p8⟩ := (H8.out.keep hh).cells
            obtain ⟨q0, q1, q2, q3, q4, q5, q6, q7, q8⟩ := (H9.out.keep hh).cells
            exact .run rfl (.agg #[.int .i64 y.m.c, .int .i64 y.m.h, .int .i64 y.m.t, .int .i64 y.m.i, .int .i64 y.m.p]) w3 (by simp [execOp, go_sem, Act.eval, *]) (Below.refl _ _) rfl
          · simp only [List.getElem?_toArray, List.getElem?_cons_succ, List.getElem?_cons_zero, Option.some.injEq] at ho
            subst ho
            refine ⟨rfl, ?_⟩
            have e77 : A_.tmps[77]?.getD undef = .slice B s.length r := getD_of (hI.val_ (i := 0) rfl rfl (by decide) (hdep ⟨0, .data⟩ (by simp) rfl))
            have e79 : A_.tmps[79]?.getD undef = .agg #[.int .i64 y.m.c, .int .i64 y.m.h, .int .i64 y.m.t, .int .i64 y.m.i, .int .i64 y.m.p] := getD_of (hI.val_ (i := 2) rfl rfl (by decide) (hdep ⟨2, .data⟩ (by simp) rfl))
            clear hI hdep
            exact .call rfl 16 #[.slice B s.length r, .agg #[.int .i64 y.m.c, .int .i64 y.m.h, .int .i64 y.m.t, .int .i64 y.m.i, .int .i64 y.m.p]] (by simp [go_sem, Act.eval, e77, e79]) (remove_sp y.m w3 (HE.out.keep hh) HO.out (by omega) HRY.out.1 HRY.out.2)
          · simp only [List.getElem?_toArray, List.getElem?_cons_succ, List.getElem?_cons_zero, Option.some.injEq] at ho
            subst ho
            refine ⟨rfl, ?_⟩
            have e8 : A_.tmps[8]?.getD undef = .pointer (some ⟨v2.heap.size, 0, none⟩) := by rw [hI.low 8 (by decide)]; rfl
            clear hI hdep
            obtain ⟨p0, p1, p2, p3, p4, p5, p6, p7, p8⟩ := (H8.out.keep hh).cells
            obtain ⟨q0, q1, q2, q3, q4, q5, q6, q7, q8⟩ := (H9.out.keep hh).cells
            exact .run rfl (.agg #[.int .i64 x.m.c, .int .i64 x.m.h, .int .i64 x.m.t, .int .i64 x.m.i, .int .i64 x.m.p, .int .i64 x.o, .int .i64 x.k, .int .i64 x.a, .int .i64 x.b]) w3 (by simp [execOp, go_sem, Act.eval, *]) (Below.refl _ _) rfl
          · simp only [List.getElem?_toArray, List.getElem?_cons_succ, List.getElem?_cons_zero, Option.some.injEq] at ho
            subst ho
            refine ⟨rfl, ?_⟩
            obtain ⟨_, e80, B80, c80, rfl, h80⟩ := hI.get_ (i := 3) (j := 80) rfl rfl (by decide) (hdep ⟨3, .data⟩ (by simp) rfl)
            have e81 : A_.tmps[81]?.getD undef = .agg #[.int .i64 x.m.c, .int .i64 x.m.h, .int .i64 x.m.t, .int .i64 x.m.i, .int .i64 x.m.p, .int .i64 x.o, .int .i64 x.k, .int .i64 x.a, .int .i64 x.b] := getD_of (hI.val_ (i := 4) rfl rfl (by decide) (hdep ⟨4, .data⟩ (by simp) rfl))
            clear hI hdep
            exact .call rfl 11 #[.slice B80 qy c80, .agg #[.int .i64 x.m.c, .int .i64 x.m.h, .int .i64 x.m.t, .int .i64 x.m.i, .int .i64 x.m.p, .int .i64 x.o, .int .i64 x.k, .int .i64 x.a, .int .i64 x.b]] (by simp [go_sem, Act.eval, e80, e81]) (addT x w3 h80.1 HOY.out (by have := HRL.out; omega) HHRX.out HPRE.out HPL.out.2)
          · simp only [List.getElem?_toArray, List.getElem?_cons_succ, List.getElem?_cons_zero, Option.some.injEq] at ho
            subst ho
            refine ⟨rfl, ?_⟩
            obtain ⟨y82, e82, h82⟩ := hI.get_ (i := 5) (j := 82) rfl rfl (by decide) (hdep ⟨5, .data⟩ (by simp) rfl)
            clear hI hdep
            exact .run rfl y82 w3 (by simp [execOp, go_sem, Act.eval, e82]) (Below.refl _ _) h82
          · simp only [List.getElem?_toArray, List.getElem?_cons_succ, List.getElem?_cons_zero, Option.some.injEq] at ho
            subst ho
            refine ⟨rfl, ?_⟩
            obtain ⟨_, e76, B76, c76, rfl, h76⟩ := hI.get_ (i := 6) (j := 76) rfl rfl (by decide) (hdep ⟨6, .data⟩ (by simp) rfl)
            clear hI hdep
            exact .run rfl (.slice B76 (qy + 1) c76) w3 (by simp [execOp, go_sem, Act.eval, e76]) (Below.refl _ _) ⟨B76, c76, rfl, h76, fun _ _ => Nat.zero_le _⟩
          · simp only [List.getElem?_toArray, List.getElem?_cons_succ, List.getElem?_cons_zero, Option.some.injEq] at ho
            subst ho
            refine ⟨rfl, ?_⟩
            obtain ⟨_, e76, B76, c76, rfl, h76⟩ := hI.get_ (i := 6) (j := 76) rfl rfl (by decide) (hdep ⟨6, .data⟩ (by simp) rfl)
            clear hI hdep
            exact .run rfl (.int .i64 0) w3 (by simp [execOp, go_sem, Act.eval, e76]) (Below.refl _ _) rfl
          · simp only [List.getElem?_toArray, List.getElem?_cons_succ, List.getElem?_cons_zero, Option.some.injEq] at ho
            subst ho
            refine ⟨rfl, ?_⟩
            obtain ⟨y83, e83, h83⟩ := hI.get_ (i := 7) (j := 83) rfl rfl (by decide) (hdep ⟨7, .data⟩ (by simp) rfl)
            clear hI hdep
            exact .run rfl y83 w3 (by simp [execOp, go_sem, Act.eval, e83]) (Below.refl _ _) h83
          · simp only [List.getElem?_toArray, List.getElem?_cons_succ, List.getElem?_cons_zero, Option.some.injEq] at ho
            subst ho
            refine ⟨rfl, ?_⟩
            have e84 : A_.tmps[84]?.getD undef = .int .i64 0 := getD_of (hI.val_ (i := 8) rfl rfl (by decide) (hdep ⟨8, .data⟩ (by simp) rfl))
            clear hI hdep
            exact .run rfl (.int .i64 0) w3 (by simp [execOp, go_sem, Act.eval, e84]) (Below.refl _ _) rfl
        case fin =>
        intro A_ w3 hs hd hlow hS hok
        obtain ⟨_, hy18, B18, c18, rfl, h18⟩ := hok 9 18 _ (by decide) rfl rfl
        obtain ⟨_, hy76, B76, c76, rfl, h76⟩ := hok 6 76 _ (by decide) rfl rfl
        obtain ⟨_, hy80, B80, c80, rfl, h80⟩ := hok 3 80 _ (by decide) rfl rfl
        obtain ⟨_, hy82, B82, c82, rfl, h82⟩ := hok 5 82 _ (by decide) rfl rfl
        obtain ⟨_, hy83, B83, c83, rfl, h83⟩ := hok 7 83 _ (by decide) rfl rfl
        obtain rfl : A_ = ⟨#[.slice a0 len0 cap0, .int .i64 a1, .int .i64 a2, undef, undef, undef, .bool false, .slice B s.length r, .pointer (some ⟨v2.heap.size, 0, none⟩), .pointer (some ⟨v3.heap.size, 0, none⟩), .slice B10 px.length c10, .int .i64 0, .slice B12 py.length c12, .int .i64 0, .slice B14 pz.length c14, .int .i64 0, .slice B16 pz.length c16, .int .i64 0, .slice B18 (qy + 1) c18, .int .i64 0, .slice a0 len0 cap0, .slice B s.length r, .int .i64 a1, enV x, .int .i64 a2, enV y, .pointer (some ⟨v2.heap.size, 0, none⟩), .agg #[.int .i64 x.m.c, .int .i64 x.m.h, .int .i64 x.m.t, .int .i64 x.m.i, .int .i64 x.m.p], .pointer (some ⟨v3.heap.size, 0, none⟩), .agg #[.int .i64 y.m.c, .int .i64 y.m.h, .int .i64 y.m.t, .int .i64 y.m.i, .int .i64 y.m.p], .bool false, undef, Value.tuple #[.slice B10 px.length c10, .int .i64 0], .slice B s.length r, .agg #[.int .i64 x.m.c, .int .i64 x.m.h, .int .i64 x.m.t, .int .i64 x.m.i, .int .i64 x.m.p, .int .i64 x.o, .int .i64 x.k, .int .i64 x.a, .int .i64 x.b], Value.tuple #[.slice B10 px.length c10, .int .i64 0], .slice B10 px.length c10, .int .i64 0, Value.tuple #[.slice B12 py.length c12, .int .i64 0], .slice B s.length r, .agg #[.int .i64 y.m.c, .int .i64 y.m.h, .int .i64 y.m.t, .int .i64 y.m.i, .int .i64 y.m.p, .int .i64 y.o, .int .i64 y.k, .int .i64 y.a, .int .i64 y.b], Value.tuple #[.slice B12 py.length c12, .int .i64 0], .slice B12 py.length c12, .int .i64 0, .int .i64 0, .bool true, .bool true, .int .i64 0, .bool true, .bool true, Value.tuple #[.slice B14 pz.length c14, .int .i64 0], .slice B10 px.length c10, .agg #[.int .i64 y.m.c, .int .i64 y.m.h, .int .i64 y.m.t, .int .i64 y.m.i, .int .i64 y.m.p, .int .i64 y.o, .int .i64 y.k, .int .i64 y.a, .int .i64 y.b], Value.tuple #[.slice B14 pz.length c14, .int .i64 0], .slice B14 pz.length c14, .int .i64 0, Value.tuple #[.slice B16 pz.length c16, .int .i64 0], .slice B12 py.length c12, .agg #[.int .i64 x.m.c, .int .i64 x.m.h, .int .i64 x.m.t, .int .i64 x.m.i, .int .i64 x.m.p, .int .i64 x.o, .int .i64 x.k, .int .i64 x.a, .int .i64 x.b], Value.tuple #[.slice B16 pz.length c16, .int .i64 0], .slice B16 pz.length c16, .int .i64 0, .int .i64 0, .bool false, .bool false, .int .i64 0, .bool false, .bool false, .bool false, .slice B14 pz.length c14, .slice B16 pz.length c16, .bool true, .bool false, .bool false, .int .i64 0, .bool true, Value.tuple #[.slice B76 (qy + 1) c76, .int .i64 0], .slice B s.length r, .pointer (some ⟨v3.heap.size, 0, none⟩), .agg #[.int .i64 y.m.c, .int .i64 y.m.h, .int .i64 y.m.t, .int .i64 y.m.i, .int .i64 y.m.p], .slice B80 qy c80, .agg #[.int .i64 x.m.c, .int .i64 x.m.h, .int .i64 x.m.t, .int .i64 x.m.i, .int .i64 x.m.p, .int .i64 x.o, .int .i64 x.k, .int .i64 x.a, .int .i64 x.b], Value.tuple #[.slice B82 (qy + 1) c82, .int .i64 0], .slice B83 (qy + 1) c83, .int .i64 0, undef, undef, undef, undef, undef, undef, undef, undef, undef, undef, undef, undef, undef, undef, undef, undef, undef, undef, undef, undef, undef, undef, undef, undef, undef, undef, undef, undef, undef], []⟩ := act_ext hd hs (fun j hj => match j, hj with | 0, _ => (hlow 0 (by decide)).trans rfl | 1, _ => (hlow 1 (by decide)).trans rfl | 2, _ => (hlow 2 (by decide)).trans rfl | 3, _ => (hlow 3 (by decide)).trans rfl | 4, _ => (hlow 4 (by decide)).trans rfl | 5, _ => (hlow 5 (by decide)).trans rfl | 6, _ => (hlow 6 (by decide)).trans rfl | 7, _ => (hlow 7 (by decide)).trans rfl | 8, _ => (hlow 8 (by decide)).trans rfl | 9, _ => (hlow 9 (by decide)).trans rfl | 10, _ => (hlow 10 (by decide)).trans rfl | 11, _ => (hlow 11 (by decide)).trans rfl | 12, _ => (hlow 12 (by decide)).trans rfl | 13, _ => (hlow 13 (by decide)).trans rfl | 14, _ => (hlow 14 (by decide)).trans rfl | 15, _ => (hlow 15 (by decide)).trans rfl | 16, _ => (hlow 16 (by decide)).trans rfl | 17, _ => (hlow 17 (by decide)).trans rfl | 18, _ => hy18 | 19, _ => RgX.val_at (hok 10 19 _ (by decide) rfl rfl) | 20, _ => (hlow 20 (by decide)).trans rfl | 21, _ => (hlow 21 (by decide)).trans rfl | 22, _ => (hlow 22 (by decide)).trans rfl | 23, _ => (hlow 23 (by decide)).trans rfl | 24, _ => (hlow 24 (by decide)).trans rfl | 25, _ => (hlow 25 (by decide)).trans rfl | 26, _ => (hlow 26 (by decide)).trans rfl | 27, _ => (hlow 27 (by decide)).trans rfl | 28, _ => (hlow 28 (by decide)).trans rfl | 29, _ => (hlow 29 (by decide)).trans rfl | 30, _ => (hlow 30 (by decide)).trans rfl | 31, _ => (hlow 31 (by decide)).trans rfl | 32, _ => (hlow 32 (by decide)).trans rfl | 33, _ => (hlow 33 (by decide)).trans rfl | 34, _ => (hlow 34 (by decide)).trans rfl | 35, _ => (hlow 35 (by decide)).trans rfl | 36, _ => (hlow 36 (by decide)).trans rfl | 37, _ => (hlow 37 (by decide)).trans rfl | 38, _ => (hlow 38 (by decide)).trans rfl | 39, _ => (hlow 39 (by decide)).trans rfl | 40, _ => (hlow 40 (by decide)).trans rfl | 41, _ => (hlow 41 (by decide)).trans rfl | 42, _ => (hlow 42 (by decide)).trans rfl | 43, _ => (hlow 43 (by decide)).trans rfl | 44, _ => (hlow 44 (by decide)).trans rfl | 45, _ => (hlow 45 (by decide)).trans rfl | 46, _ => (hlow 46 (by decide)).trans rfl | 47, _ => (hlow 47 (by decide)).trans rfl | 48, _ => (hlow 48 (by decide)).trans rfl | 49, _ => (hlow 49 (by decide)).trans rfl | 50, _ => (hlow 50 (by decide)).trans rfl | 51, _ => (hlow 51 (by decide)).trans rfl | 52, _ => (hlow 52 (by decide)).trans rfl | 53, _ => (hlow 53 (by decide)).trans rfl | 54, _ => (hlow 54 (by decide)).trans rfl | 55, _ => (hlow 55 (by decide)).trans rfl | 56, _ => (hlow 56 (by decide)).trans rfl | 57, _ => (hlow 57 (by decide)).trans rfl | 58, _ => (hlow 58 (by decide)).trans rfl | 59, _ => (hlow 59 (by decide)).trans rfl | 60, _ => (hlow 60 (by decide)).trans rfl | 61, _ => (hlow 61 (by decide)).trans rfl | 62, _ => (hlow 62 (by decide)).trans rfl | 63, _ => (hlow 63 (by decide)).trans rfl | 64, _ => (hlow 64 (by decide)).trans rfl | 65, _ => (hlow 65 (by decide)).trans rfl | 66, _ => (hlow 66 (by decide)).trans rfl | 67, _ => (hlow 67 (by decide)).trans rfl | 68, _ => (hlow 68 (by decide)).trans rfl | 69, _ => (hlow 69 (by decide)).trans rfl | 70, _ => (hlow 70 (by decide)).trans rfl | 71, _ => (hlow 71 (by decide)).trans rfl | 72, _ => (hlow 72 (by decide)).trans rfl | 73, _ => (hlow 73 (by decide)).trans rfl | 74, _ => (hlow 74 (by decide)).trans rfl | 75, _ => (hlow 75 (by decide)).trans rfl | 76, _ => hy76 | 77, _ => RgX.val_at (hok 0 77 _ (by decide) rfl rfl) | 78, _ => RgX.val_at (hok 1 78 _ (by decide) rfl rfl) | 79, _ => RgX.val_at (hok 2 79 _ (by decide) rfl rfl) | 80, _ => hy80 | 81, _ => RgX.val_at (hok 4 81 _ (by decide) rfl rfl) | 82, _ => hy82 | 83, _ => hy83 | 84, _ => RgX.val_at (hok 8 84 _ (by decide) rfl rfl) | 85, _ => (hlow 85 (by decide)).trans rfl | 86, _ => (hlow 86 (by decide)).trans rfl | 87, _ => (hlow 87 (by decide)).trans rfl | 88, _ => (hlow 88 (by decide)).trans rfl | 89, _ => (hlow 89 (by decide)).trans rfl | 90, _ => (hlow 90 (by decide)).trans rfl | 91, _ => (hlow 91 (by decide)).trans rfl | 92, _ => (hlow 92 (by decide)).trans rfl | 93, _ => (hlow 93 (by decide)).trans rfl | 94, _ => (hlow 94 (by decide)).trans rfl | 95, _ => (hlow 95 (by decide)).trans rfl | 96, _ => (hlow 96 (by decide)).trans rfl | 97, _ => (hlow 97 (by decide)).trans rfl | 98, _ => (hlow 98 (by decide)).trans rfl | 99, _ => (hlow 99 (by decide)).trans rfl | 100, _ => (hlow 100 (by decide)).trans rfl | 101, _ => (hlow 101 (by decide)).trans rfl | 102, _ => (hlow 102 (by decide)).trans rfl | 103, _ => (hlow 103 (by decide)).trans rfl | 104, _ => (hlow 104 (by decide)).trans rfl | 105, _ => (hlow 105 (by decide)).trans rfl | 106, _ => (hlow 106 (by decide)).trans rfl | 107, _ => (hlow 107 (by decide)).trans rfl | 108, _ => (hlow 108 (by decide)).trans rfl | 109, _ => (hlow 109 (by decide)).trans rfl | 110, _ => (hlow 110 (by decide)).trans rfl | 111, _ => (hlow 111 (by decide)).trans rfl | 112, _ => (hlow 112 (by decide)).trans rfl | 113, _ => (hlow 113 (by decide)).trans rfl | n + 114, h => absurd h (by show ¬ n + 114 < 114; omega))
        clear hs hd hlow hok hy18 hy76 hy80 hy82 hy83
        obtain ⟨v9, h9⟩ : ∃ V, V = w3 := ⟨_, rfl⟩
        rw [← h9] at hS h18 ⊢
        have hb := hS
        have HZ := Lib.hid h18.1
        replace HE := Lib.hid (HE.out.keep hb)
        replace H8 := Lib.hid (H8.out.keep hb)
        replace H9 := Lib.hid (H9.out.keep hb)
        replace HX10 := Lib.hid (HX10.out.keep hb)
        replace HB := Lib.hid (HB.out.trans (hb.mono HB.out.size))
        clear hb hS h9 h18 h76 h80 h82 h83
        obtain ⟨p0, p1, p2, p3, p4, p5, p6, p7, p8⟩ := H8.out.cells
        obtain ⟨q0, q1, q2, q3, q4, q5, q6, q7, q8⟩ := H9.out.cells
        go_upto_region 17 with (first
          | (go_at_call 16; (with_reducible refine (remove_sp (r := pr) (q := qy + 1) y.m _ HX10.out HOPX.out (by have := HPL.out; omega) HPR.out.symm HPL.out.2).mono ?_); rintro e v10 ⟨⟨_, rfl, B1, c1, rfl, h_, _⟩, hb⟩; replace HE := Lib.hid (HE.out.keep hb); replace H8 := Lib.hid (H8.out.keep hb); replace H9 := Lib.hid (H9.out.keep hb); replace HZ := Lib.hid (HZ.out.keep hb); replace HB := Lib.hid (HB.out.trans (hb.mono HB.out.size)); clear hb; have HR1 := Lib.hid h_; clear h_; obtain ⟨p0, p1, p2, p3, p4, p5, p6, p7, p8⟩ := H8.out.cells; obtain ⟨q0, q1, q2, q3, q4, q5, q6, q7, q8⟩ := H9.out.cells)
          | (go_at_call 15; (with_reducible refine (sameEn_true _ HZ.out HR1.out (by have := HRL.out; omega)).mono ?_); rintro e v11 ⟨rfl, hb⟩; replace HE := Lib.hid (HE.out.keep hb); replace H8 := Lib.hid (H8.out.keep hb); replace H9 := Lib.hid (H9.out.keep hb); replace HB := Lib.hid (HB.out.trans (hb.mono HB.out.size)); clear hb))
        clear HR1 p0 p1 p2 p3 p4 p5 p6 p7 p8 q0 q1 q2 q3 q4 q5 q6 q7 q8
        refine RgX.regionB 19 (fun i => (if i = 18 then 6 else 96 + i)) (fun ix_ => match ix_ with | 0 => .v (.slice B s.length r) | 1 => .v (.pointer (some ⟨v2.heap.size, 0, none⟩)) | 2 => .v (.agg #[.int .i64 x.m.c, .int .i64 x.m.h, .int .i64 x.m.t, .int .i64 x.m.i, .int .i64 x.m.p]) | 3 => .ens 0 rx qx | 4 => .v (.pointer (some ⟨v3.heap.size, 0, none⟩)) | 5 => .v (.agg #[.int .i64 y.m.c, .int .i64 y.m.h, .int .i64 y.m.t, .int .i64 y.m.i, .int .i64 y.m.p]) | 6 => .ens 0 rxy qxy | 7 => .v (.slice B s.length r) | 8 => .v (.pointer (some ⟨v3.heap.size, 0, none⟩)) | 9 => .v (.agg #[.int .i64 y.m.c, .int .i64 y.m.h, .int .i64 y.m.t, .int .i64 y.m.i, .int .i64 y.m.p]) | 10 => .ens 0 ry qy | 11 => .v (.pointer (some ⟨v2.heap.size, 0, none⟩)) | 12 => .v (.agg #[.int .i64 x.m.c, .int .i64 x.m.h, .int .i64 x.m.t, .int .i64 x.m.i, .int .i64 x.m.p]) | 13 => .ens 0 rxy qxy | 14 => .v (.bool true) | 15 => .v (.bool true) | 16 => .v (.bool true) | 17 => .v (.bool true) | 18 => .v (.bool true) | _ => .any) (by kernel_rfl) rfl (by kernel_rfl)  (fun i hi => by show (if i = 18 then 6 else 96 + i) < 114; (repeat' split) <;> omega) (fun i j hi hj => by show (if i = 18 then 6 else 96 + i) = (if j = 18 then 6 else 96 + j) → i = j; (repeat' split) <;> omega) ?step ?fin
        case step =>
          intro L_ A_ w3 ix op_ hI ho hdep
          have hi : ix < 19 := (Array.getElem?_eq_some_iff.1 ho).1
          have hcase : ix = 0 ∨ ix = 1 ∨ ix = 2 ∨ ix = 3 ∨ ix = 4 ∨ ix = 5 ∨ ix = 6 ∨ ix = 7 ∨ ix = 8 ∨ ix = 9 ∨ ix = 10 ∨ ix = 11 ∨ ix = 12 ∨ ix = 13 ∨ ix = 14 ∨ ix = 15 ∨ ix = 16 ∨ ix = 17 ∨ ix = 18 := by omega
          have hh := hI.held
          clear hi
          rcases hcase with rfl | rfl | rfl | rfl | rfl | rfl | rfl | rfl | rfl | rfl | rfl | rfl | rfl | rfl | rfl | rfl | rfl | rfl | rfl
          · simp only [List.getElem?_toArray, List.getElem?_cons_zero, Option.some.injEq] at ho
            subst ho
            refine ⟨rfl, ?_⟩
            have e7 : A_.tmps[7]?.getD undef = .slice B s.length r := by rw [hI.low 7 (by decide)]; rfl
            clear hI hdep
            exact .run rfl (.slice B s.length r) w3 (by simp [execOp, go_sem, Act.eval, e7]) (Below.refl _ _) rfl
          · simp only [List.getElem?_toArray, List.getElem?_cons_succ, List.getElem?_cons_zero, Option.some.injEq] at ho
            subst ho
            refine ⟨rfl, ?_⟩
            have e8 : A_.tmps[8]?.getD undef = .pointer (some ⟨v2.heap.size, 0, none⟩) := by rw [hI.low 8 (by decide)]; rfl
            clear hI hdep
            exact .run rfl (.pointer (some ⟨v2.heap.size, 0, none⟩)) w3 (by simp [execOp, go_sem, Act.eval, e8]) (Below.refl _ _) rfl
          · simp only [List.getElem?_toArray, List.getElem?_cons_succ, List.getElem?_cons_zero, Option.some.injEq] at ho
            subst ho
            refine ⟨rfl, ?_⟩
            have e97 : A_.tmps[97]?.getD undef = .pointer (some ⟨v2.heap.size, 0, none⟩) := getD_of (hI.val_ (i := 1) rfl rfl (by decide) (hdep ⟨1, .data⟩ (by simp) rfl))
            clear hI hdep
            obtain ⟨p0, p1, p2, p3, p4, p5, p6, p7, p8⟩ := (H8.out.keep hh).cells
            obtain ⟨q0, q1, q2, q3, q4, q5, q6, q7, q8⟩ := (H9.out.keep hh).cells
            exact .run rfl (.agg #[.int .i64 x.m.c, .int .i64 x.m.h, .int .i64 x.m.t, .int .i64 x.m.i, .int .i64 x.m.p]) w3 (by simp [execOp, go_sem, Act.eval, *]) (Below.refl _ _) rfl
          · simp only [List.getElem?_toArray, List.getElem?_cons_succ, List.getElem?_cons_zero, Option.some.injEq] at ho
            subst ho
            refine ⟨rfl, ?_⟩
            have e96 : A_.tmps[96]?.getD undef = .slice B s.length r := getD_of (hI.val_ (i := 0) rfl rfl (by decide) (hdep ⟨0, .data⟩ (by simp) rfl))
            have e98 : A_.tmps[98]?.getD undef = .agg #[.int .i64 x.m.c, .int .i64 x.m.h, .int .i64 x.m.t, .int .i64 x.m.i, .int .i64 x.m.p] := getD_of (hI.val_ (i := 2) rfl rfl (by decide) (hdep ⟨2, .data⟩ (by simp) rfl))
            clear hI hdep
            exact .call rfl 16 #[.slice B s.length r, .agg #[.int .i64 x.m.c, .int .i64 x.m.h, .int .i64 x.m.t, .int .i64 x.m.i, .int .i64 x.m.p]] (by simp [go_sem, Act.eval, e96, e98]) (remove_sp x.m w3 (HE.out.keep hh) HO.out (by omega) HRX.out.1 HRX.out.2)
          · simp only [List.getElem?_toArray, List.getElem?_cons_succ, List.getElem?_cons_zero, Option.some.injEq] at ho
            subst ho
            refine ⟨rfl, ?_⟩
            have e9 : A_.tmps[9]?.getD undef = .pointer (some ⟨v3.heap.size, 0, none⟩) := by rw [hI.low 9 (by decide)]; rfl
            clear hI hdep
            exact .run rfl (.pointer (some ⟨v3.heap.size, 0, none⟩)) w3 (by simp [execOp, go_sem, Act.eval, e9]) (Below.refl _ _) rfl
          · simp only [List.getElem?_toArray, List.getElem?_cons_succ, List.getElem?_cons_zero, Option.some.injEq] at ho
            subst ho
            refine ⟨rfl, ?_⟩
            have e100 : A_.tmps[100]?.getD undef = .pointer (some ⟨v3.heap.size, 0, none⟩) := getD_of (hI.val_ (i := 4) rfl rfl (by decide) (hdep ⟨4, .data⟩ (by simp) rfl))
            clear hI hdep
            obtain ⟨p0, p1, p2, p3, p4, p5, p6, p7, p8⟩ := (H8.out.keep hh).cells
            obtain ⟨q0, q1, q2, q3, q4, q5, q6, q7, q8⟩ := (H9.out.keep hh).cells
            exact .run rfl (.agg #[.int .i64 y.m.c, .int .i64 y.m.h, .int .i64 y.m.t, .int .i64 y.m.i, .int .i64 y.m.p]) w3 (by simp [execOp, go_sem, Act.eval, *]) (Below.refl _ _) rfl
          · simp only [List.getElem?_toArray, List.getElem?_cons_succ, List.getElem?_cons_zero, Option.some.injEq] at ho
            subst ho
            refine ⟨rfl, ?_⟩
            obtain ⟨_, e99, B99, c99, rfl, h99⟩ := hI.get_ (i := 3) (j := 99) rfl rfl (by decide) (hdep ⟨3, .data⟩ (by simp) rfl)
            have e101 : A_.tmps[101]?.getD undef = .agg #[.int .i64 y.m.c, .int .i64 y.m.h, .int .i64 y.m.t, .int .i64 y.m.i, .int .i64 y.m.p] := getD_of (hI.val_ (i := 5) rfl rfl (by decide) (hdep ⟨5, .data⟩ (by simp) rfl))
            clear hI hdep
            exact .call rfl 16 #[.slice B99 qx c99, .agg #[.int .i64 y.m.c, .int .i64 y.m.h, .int .i64 y.m.t, .int .i64 y.m.i, .int .i64 y.m.p]] (by simp [go_sem, Act.eval, e99, e101]) (remove_sp y.m w3 h99.1 HOX.out (by have := HRL.out; omega) HRXY.out.1 HRXY.out.2.2)
          · simp only [List.getElem?_toArray, List.getElem?_cons_succ, List.getElem?_cons_zero, Option.some.injEq] at ho
            subst ho
            refine ⟨rfl, ?_⟩
            have e7 : A_.tmps[7]?.getD undef = .slice B s.length r := by rw [hI.low 7 (by decide)]; rfl
            clear hI hdep
            exact .run rfl (.slice B s.length r) w3 (by simp [execOp, go_sem, Act.eval, e7]) (Below.refl _ _) rfl
          · simp only [List.getElem?_toArray, List.getElem?_cons_succ, List.getElem?_cons_zero, Option.some.injEq] at ho
            subst ho
            refine ⟨rfl, ?_⟩
            have e9 : A_.tmps[9]?.getD undef = .pointer (some ⟨v3.heap.size, 0, none⟩) := by rw [hI.low 9 (by decide)]; rfl
            clear hI hdep
            exact .run rfl (.pointer (some ⟨v3.heap.size, 0, none⟩)) w3 (by simp [execOp, go_sem, Act.eval, e9]) (Below.refl _ _) rfl
          · simp only [List.getElem?_toArray, List.getElem?_cons_succ, List.getElem?_cons_zero, Option.some.injEq] at ho
            subst ho
            refine ⟨rfl, ?_⟩
            have e104 : A_.tmps[104]?.getD undef = .pointer (some ⟨v3.heap.size, 0, none⟩) := getD_of (hI.val_ (i := 8) rfl rfl (by decide) (hdep ⟨8, .data⟩ (by simp) rfl))
            clear hI hdep
            obtain ⟨p0, p1, p2, p3, p4, p5, p6, p7, p8⟩ := (H8.out.keep hh).cells
            obtain ⟨q0, q1, q2, q3, q4, q5, q6, q7, q8⟩ := (H9.out.keep hh).cells
            exact .run rfl (.agg #[.int .i64 y.m.c, .int .i64 y.m.h, .int .i64 y.m.t, .int .i64 y.m.i, .int .i64 y.m.p]) w3 (by simp [execOp, go_sem, Act.eval, *]) (Below.refl _ _) rfl
          · simp only [List.getElem?_toArray, List.getElem?_cons_succ, List.getElem?_cons_zero, Option.some.injEq] at ho
            subst ho
            refine ⟨rfl, ?_⟩
            have e103 : A_.tmps[103]?.getD undef = .slice B s.length r := getD_of (hI.val_ (i := 7) rfl rfl (by decide) (hdep ⟨7, .data⟩ (by simp) rfl))
            have e105 : A_.tmps[105]?.getD undef = .agg #[.int .i64 y.m.c, .int .i64 y.m.h, .int .i64 y.m.t, .int .i64 y.m.i, .int .i64 y.m.p] := getD_of (hI.val_ (i := 9) rfl rfl (by decide) (hdep ⟨9, .data⟩ (by simp) rfl))
            clear hI hdep
            exact .call rfl 16 #[.slice B s.length r, .agg #[.int .i64 y.m.c, .int .i64 y.m.h, .int .i64 y.m.t, .int .i64 y.m.i, .int .i64 y.m.p]] (by simp [go_sem, Act.eval, e103, e105]) (remove_sp y.m w3 (HE.out.keep hh) HO.out (by omega) HRY.out.1 HRY.out.2)
          · simp only [List.getElem?_toArray, List.getElem?_cons_succ, List.getElem?_cons_zero, Option.some.injEq] at ho
            subst ho
            refine ⟨rfl, ?_⟩
            have e8 : A_.tmps[8]?.getD undef = .pointer (some ⟨v2.heap.size, 0, none⟩) := by rw [hI.low 8 (by decide)]; rfl
            clear hI hdep
            exact .run rfl (.pointer (some ⟨v2.heap.size, 0, none⟩)) w3 (by simp [execOp, go_sem, Act.eval, e8]) (Below.refl _ _) rfl
          · simp only [List.getElem?_toArray, List.getElem?_cons_succ, List.getElem?_cons_zero, Option.some.injEq] at ho
            subst ho
            refine ⟨rfl, ?_⟩
            have e107 : A_.tmps[107]?.getD undef = .pointer (some ⟨v2.heap.size, 0, none⟩) := getD_of (hI.val_ (i := 11) rfl rfl (by decide) (hdep ⟨11, .data⟩ (by simp) rfl))
            clear hI hdep
            obtain ⟨p0, p1, p2, p3, p4, p5, p6, p7, p8⟩ := (H8.out.keep hh).cells
            obtain ⟨q0, q1, q2, q3, q4, q5, q6, q7, q8⟩ := (H9.out.keep hh).cells
            exact .run rfl (.agg #[.int .i64 x.m.c, .int .i64 x.m.h, .int .i64 x.m.t, .int .i64 x.m.i, .int .i64 x.m.p]) w3 (by simp [execOp, go_sem, Act.eval, *]) (Below.refl _ _) rfl
          · simp only [List.getElem?_toArray, List.getElem?_cons_succ, List.getElem?_cons_zero, Option.some.injEq] at ho
            subst ho
            refine ⟨rfl, ?_⟩
            obtain ⟨_, e106, B106, c106, rfl, h106⟩ := hI.get_ (i := 10) (j := 106) rfl rfl (by decide) (hdep ⟨10, .data⟩ (by simp) rfl)
            have e108 : A_.tmps[108]?.getD undef = .agg #[.int .i64 x.m.c, .int .i64 x.m.h, .int .i64 x.m.t, .int .i64 x.m.i, .int .i64 x.m.p] := getD_of (hI.val_ (i := 12) rfl rfl (by decide) (hdep ⟨12, .data⟩ (by simp) rfl))
            clear hI hdep
            exact .call rfl 16 #[.slice B106 qy c106, .agg #[.int .i64 x.m.c, .int .i64 x.m.h, .int .i64 x.m.t, .int .i64 x.m.i, .int .i64 x.m.p]] (by simp [go_sem, Act.eval, e106, e108]) (remove_sp x.m w3 h106.1 HOY.out (by have := HRL.out; omega) HRXY.out.2.1 HRXY.out.2.2)
          · simp only [List.getElem?_toArray, List.getElem?_cons_succ, List.getElem?_cons_zero, Option.some.injEq] at ho
            subst ho
            refine ⟨rfl, ?_⟩
            obtain ⟨_, e102, B102, c102, rfl, h102⟩ := hI.get_ (i := 6) (j := 102) rfl rfl (by decide) (hdep ⟨6, .data⟩ (by simp) rfl)
            obtain ⟨_, e109, B109, c109, rfl, h109⟩ := hI.get_ (i := 13) (j := 109) rfl rfl (by decide) (hdep ⟨13, .data⟩ (by simp) rfl)
            clear hI hdep
            exact .call rfl 15 #[.slice B102 qxy c102, .slice B109 qxy c109] (by simp [go_sem, Act.eval, e102, e109]) ((sameEn_true w3 h102.1 h109.1 (by have := HRL.out; omega)).mono fun _ _ ⟨h1_, h2_⟩ => ⟨⟨_, h1_, rfl⟩, h2_⟩)
          · simp only [List.getElem?_toArray, List.getElem?_cons_succ, List.getElem?_cons_zero, Option.some.injEq] at ho
            subst ho
            refine ⟨rfl, ?_⟩
            have e110 : A_.tmps[110]?.getD undef = .bool true := getD_of (hI.val_ (i := 14) rfl rfl (by decide) (hdep ⟨14, .data⟩ (by simp) rfl))
            clear hI hdep
            exact .run rfl (.bool true) w3 (by simp [execOp, go_sem, Act.eval, e110]) (Below.refl _ _) rfl
          · simp only [List.getElem?_toArray, List.getElem?_cons_succ, List.getElem?_cons_zero, Option.some.injEq] at ho
            subst ho
            refine ⟨rfl, ?_⟩
            have q111 : A_.tmps[111]? = some (.bool true) := hI.val_ (i := 15) rfl rfl (by decide) (hdep ⟨15, .guard⟩ (by simp) rfl)
            clear hI hdep
            exact .call ((wanted_some rfl rfl q111).trans rfl) 24 #[] (by simp [go_sem]) ((lives_any w3).mono fun _ _ ⟨h1_, h2_⟩ => ⟨⟨_, h1_, rfl⟩, h2_⟩)
          · simp only [List.getElem?_toArray, List.getElem?_cons_succ, List.getElem?_cons_zero, Option.some.injEq] at ho
            subst ho
            refine ⟨rfl, ?_⟩
            have e111 : A_.tmps[111]?.getD undef = .bool true := getD_of (hI.val_ (i := 15) rfl rfl (by decide) (hdep ⟨15, .data⟩ (by simp) rfl))
            have e112 : A_.tmps[112]?.getD undef = .bool true := getD_of (hI.val_ (i := 16) rfl rfl (by decide) (hdep ⟨16, .data⟩ (by simp) rfl))
            clear hI hdep
            exact .run rfl (.bool true) w3 (by simp [execOp, go_sem, Act.eval, e111, e112]) (Below.refl _ _) rfl
          · simp only [List.getElem?_toArray, List.getElem?_cons_succ, List.getElem?_cons_zero, Option.some.injEq] at ho
            subst ho
            refine ⟨rfl, ?_⟩
            have e113 : A_.tmps[113]?.getD undef = .bool true := getD_of (hI.val_ (i := 17) rfl rfl (by decide) (hdep ⟨17, .data⟩ (by simp) rfl))
            clear hI hdep
            exact .run rfl (.bool true) w3 (by simp [execOp, go_sem, Act.eval, e113]) (Below.refl _ _) rfl
        case fin =>
        intro A_ w3 hs hd hlow hS hok
        obtain ⟨_, hy99, B99, c99, rfl, h99⟩ := hok 3 99 _ (by decide) rfl rfl
        obtain ⟨_, hy102, B102, c102, rfl, h102⟩ := hok 6 102 _ (by decide) rfl rfl
        obtain ⟨_, hy106, B106, c106, rfl, h106⟩ := hok 10 106 _ (by decide) rfl rfl
        obtain ⟨_, hy109, B109, c109, rfl, h109⟩ := hok 13 109 _ (by decide) rfl rfl
        obtain rfl : A_ = ⟨#[.slice a0 len0 cap0, .int .i64 a1, .int .i64 a2, undef, undef, undef, .bool true, .slice B s.length r, .pointer (some ⟨v2.heap.size, 0, none⟩), .pointer (some ⟨v3.heap.size, 0, none⟩), .slice B10 px.length c10, .int .i64 0, .slice B12 py.length c12, .int .i64 0, .slice B14 pz.length c14, .int .i64 0, .slice B16 pz.length c16, .int .i64 0, .slice B18 (qy + 1) c18, .int .i64 0, .slice a0 len0 cap0, .slice B s.length r, .int .i64 a1, enV x, .int .i64 a2, enV y, .pointer (some ⟨v2.heap.size, 0, none⟩), .agg #[.int .i64 x.m.c, .int .i64 x.m.h, .int .i64 x.m.t, .int .i64 x.m.i, .int .i64 x.m.p], .pointer (some ⟨v3.heap.size, 0, none⟩), .agg #[.int .i64 y.m.c, .int .i64 y.m.h, .int .i64 y.m.t, .int .i64 y.m.i, .int .i64 y.m.p], .bool false, undef, Value.tuple #[.slice B10 px.length c10, .int .i64 0], .slice B s.length r, .agg #[.int .i64 x.m.c, .int .i64 x.m.h, .int .i64 x.m.t, .int .i64 x.m.i, .int .i64 x.m.p, .int .i64 x.o, .int .i64 x.k, .int .i64 x.a, .int .i64 x.b], Value.tuple #[.slice B10 px.length c10, .int .i64 0], .slice B10 px.length c10, .int .i64 0, Value.tuple #[.slice B12 py.length c12, .int .i64 0], .slice B s.length r, .agg #[.int .i64 y.m.c, .int .i64 y.m.h, .int .i64 y.m.t, .int .i64 y.m.i, .int .i64 y.m.p, .int .i64 y.o, .int .i64 y.k, .int .i64 y.a, .int .i64 y.b], Value.tuple #[.slice B12 py.length c12, .int .i64 0], .slice B12 py.length c12, .int .i64 0, .int .i64 0, .bool true, .bool true, .int .i64 0, .bool true, .bool true, Value.tuple #[.slice B14 pz.length c14, .int .i64 0], .slice B10 px.length c10, .agg #[.int .i64 y.m.c, .int .i64 y.m.h, .int .i64 y.m.t, .int .i64 y.m.i, .int .i64 y.m.p, .int .i64 y.o, .int .i64 y.k, .int .i64 y.a, .int .i64 y.b], Value.tuple #[.slice B14 pz.length c14, .int .i64 0], .slice B14 pz.length c14, .int .i64 0, Value.tuple #[.slice B16 pz.length c16, .int .i64 0], .slice B12 py.length c12, .agg #[.int .i64 x.m.c, .int .i64 x.m.h, .int .i64 x.m.t, .int .i64 x.m.i, .int .i64 x.m.p, .int .i64 x.o, .int .i64 x.k, .int .i64 x.a, .int .i64 x.b], Value.tuple #[.slice B16 pz.length c16, .int .i64 0], .slice B16 pz.length c16, .int .i64 0, .int .i64 0, .bool false, .bool false, .int .i64 0, .bool false, .bool false, .bool false, .slice B14 pz.length c14, .slice B16 pz.length c16, .bool true, .bool false, .bool false, .int .i64 0, .bool true, Value.tuple #[.slice B76 (qy + 1) c76, .int .i64 0], .slice B s.length r, .pointer (some ⟨v3.heap.size, 0, none⟩), .agg #[.int .i64 y.m.c, .int .i64 y.m.h, .int .i64 y.m.t, .int .i64 y.m.i, .int .i64 y.m.p], .slice B80 qy c80, .agg #[.int .i64 x.m.c, .int .i64 x.m.h, .int .i64 x.m.t, .int .i64 x.m.i, .int .i64 x.m.p, .int .i64 x.o, .int .i64 x.k, .int .i64 x.a, .int .i64 x.b], Value.tuple #[.slice B82 (qy + 1) c82, .int .i64 0], .slice B83 (qy + 1) c83, .int .i64 0, .int .i64 0, .bool false, .bool false, .slice B18 (qy + 1) c18, .slice B10 px.length c10, .pointer (some ⟨v3.heap.size, 0, none⟩), .agg #[.int .i64 y.m.c, .int .i64 y.m.h, .int .i64 y.m.t, .int .i64 y.m.i, .int .i64 y.m.p], .slice B1 (qy + 1) c1, .bool true, .bool false, .bool false, .slice B s.length r, .pointer (some ⟨v2.heap.size, 0, none⟩), .agg #[.int .i64 x.m.c, .int .i64 x.m.h, .int .i64 x.m.t, .int .i64 x.m.i, .int .i64 x.m.p], .slice B99 qx c99, .pointer (some ⟨v3.heap.size, 0, none⟩), .agg #[.int .i64 y.m.c, .int .i64 y.m.h, .int .i64 y.m.t, .int .i64 y.m.i, .int .i64 y.m.p], .slice B102 qxy c102, .slice B s.length r, .pointer (some ⟨v3.heap.size, 0, none⟩), .agg #[.int .i64 y.m.c, .int .i64 y.m.h, .int .i64 y.m.t, .int .i64 y.m.i, .int .i64 y.m.p], .slice B106 qy c106, .pointer (some ⟨v2.heap.size, 0, none⟩), .agg #[.int .i64 x.m.c, .int .i64 x.m.h, .int .i64 x.m.t, .int .i64 x.m.i, .int .i64 x.m.p], .slice B109 qxy c109, .bool true, .bool true, .bool true, .bool true], []⟩ := act_ext hd hs (fun j hj => match j, hj with | 0, _ => (hlow 0 (by decide)).trans rfl | 1, _ => (hlow 1 (by decide)).trans rfl | 2, _ => (hlow 2 (by decide)).trans rfl | 3, _ => (hlow 3 (by decide)).trans rfl | 4, _ => (hlow 4 (by decide)).trans rfl | 5, _ => (hlow 5 (by decide)).trans rfl | 6, _ => RgX.val_at (hok 18 6 _ (by decide) rfl rfl) | 7, _ => (hlow 7 (by decide)).trans rfl | 8, _ => (hlow 8 (by decide)).trans rfl | 9, _ => (hlow 9 (by decide)).trans rfl | 10, _ => (hlow 10 (by decide)).trans rfl | 11, _ => (hlow 11 (by decide)).trans rfl | 12, _ => (hlow 12 (by decide)).trans rfl | 13, _ => (hlow 13 (by decide)).trans rfl | 14, _ => (hlow 14 (by decide)).trans rfl | 15, _ => (hlow 15 (by decide)).trans rfl | 16, _ => (hlow 16 (by decide)).trans rfl | 17, _ => (hlow 17 (by decide)).trans rfl | 18, _ => (hlow 18 (by decide)).trans rfl | 19, _ => (hlow 19 (by decide)).trans rfl | 20, _ => (hlow 20 (by decide)).trans rfl | 21, _ => (hlow 21 (by decide)).trans rfl | 22, _ => (hlow 22 (by decide)).trans rfl | 23, _ => (hlow 23 (by decide)).trans rfl | 24, _ => (hlow 24 (by decide)).trans rfl | 25, _ => (hlow 25 (by decide)).trans rfl | 26, _ => (hlow 26 (by decide)).trans rfl | 27, _ => (hlow 27 (by decide)).trans rfl | 28, _ => (hlow 28 (by decide)).trans rfl | 29, _ => (hlow 29 (by decide)).trans rfl | 30, _ => (hlow 30 (by decide)).trans rfl | 31, _ => (hlow 31 (by decide)).trans rfl | 32, _ => (hlow 32 (by decide)).trans rfl | 33, _ => (hlow 33 (by decide)).trans rfl | 34, _ => (hlow 34 (by decide)).trans rfl | 35, _ => (hlow 35 (by decide)).trans rfl | 36, _ => (hlow 36 (by decide)).trans rfl | 37, _ => (hlow 37 (by decide)).trans rfl | 38, _ => (hlow 38 (by decide)).trans rfl | 39, _ => (hlow 39 (by decide)).trans rfl | 40, _ => (hlow 40 (by decide)).trans rfl | 41, _ => (hlow 41 (by decide)).trans rfl | 42, _ => (hlow 42 (by decide)).trans rfl | 43, _ => (hlow 43 (by decide)).trans rfl | 44, _ => (hlow 44 (by decide)).trans rfl | 45, _ => (hlow 45 (by decide)).trans rfl | 46, _ => (hlow 46 (by decide)).trans rfl | 47, _ => (hlow 47 (by decide)).trans rfl | 48, _ => (hlow 48 (by decide)).trans rfl | 49, _ => (hlow 49 (by decide)).trans rfl | 50, _ => (hlow 50 (by decide)).trans rfl | 51, _ => (hlow 51 (by decide)).trans rfl | 52, _ => (hlow 52 (by decide)).trans rfl | 53, _ => (hlow 53 (by decide)).trans rfl | 54, _ => (hlow 54 (by decide)).trans rfl | 55, _ => (hlow 55 (by decide)).trans rfl | 56, _ => (hlow 56 (by decide)).trans rfl | 57, _ => (hlow 57 (by decide)).trans rfl | 58, _ => (hlow 58 (by decide)).trans rfl | 59, _ => (hlow 59 (by decide)).trans rfl | 60, _ => (hlow 60 (by decide)).trans rfl | 61, _ => (hlow 61 (by decide)).trans rfl | 62, _ => (hlow 62 (by decide)).trans rfl | 63, _ => (hlow 63 (by decide)).trans rfl | 64, _ => (hlow 64 (by decide)).trans rfl | 65, _ => (hlow 65 (by decide)).trans rfl | 66, _ => (hlow 66 (by decide)).trans rfl | 67, _ => (hlow 67 (by decide)).trans rfl | 68, _ => (hlow 68 (by decide)).trans rfl | 69, _ => (hlow 69 (by decide)).trans rfl | 70, _ => (hlow 70 (by decide)).trans rfl | 71, _ => (hlow 71 (by decide)).trans rfl | 72, _ => (hlow 72 (by decide)).trans rfl | 73, _ => (hlow 73 (by decide)).trans rfl | 74, _ => (hlow 74 (by decide)).trans rfl | 75, _ => (hlow 75 (by decide)).trans rfl | 76, _ => (hlow 76 (by decide)).trans rfl | 77, _ => (hlow 77 (by decide)).trans rfl | 78, _ => (hlow 78 (by decide)).trans rfl | 79, _ => (hlow 79 (by decide)).trans rfl | 80, _ => (hlow 80 (by decide)).trans rfl | 81, _ => (hlow 81 (by decide)).trans rfl | 82, _ => (hlow 82 (by decide)).trans rfl | 83, _ => (hlow 83 (by decide)).trans rfl | 84, _ => (hlow 84 (by decide)).trans rfl | 85, _ => (hlow 85 (by decide)).trans rfl | 86, _ => (hlow 86 (by decide)).trans rfl | 87, _ => (hlow 87 (by decide)).trans rfl | 88, _ => (hlow 88 (by decide)).trans rfl | 89, _ => (hlow 89 (by decide)).trans rfl | 90, _ => (hlow 90 (by decide)).trans rfl | 91, _ => (hlow 91 (by decide)).trans rfl | 92, _ => (hlow 92 (by decide)).trans rfl | 93, _ => (hlow 93 (by decide)).trans rfl | 94, _ => (hlow 94 (by decide)).trans rfl | 95, _ => (hlow 95 (by decide)).trans rfl | 96, _ => RgX.val_at (hok 0 96 _ (by decide) rfl rfl) | 97, _ => RgX.val_at (hok 1 97 _ (by decide) rfl rfl) | 98, _ => RgX.val_at (hok 2 98 _ (by decide) rfl rfl) | 99, _ => hy99 | 100, _ => RgX.val_at (hok 4 100 _ (by decide) rfl rfl) | 101, _ => RgX.val_at (hok 5 101 _ (by decide) rfl rfl) | 102, _ => hy102 | 103, _ => RgX.val_at (hok 7 103 _ (by decide) rfl rfl) | 104, _ => RgX.val_at (hok 8 104 _ (by decide) rfl rfl) | 105, _ => RgX.val_at (hok 9 105 _ (by decide) rfl rfl) | 106, _ => hy106 | 107, _ => RgX.val_at (hok 11 107 _ (by decide) rfl rfl) | 108, _ => RgX.val_at (hok 12 108 _ (by decide) rfl rfl) | 109, _ => hy109 | 110, _ => RgX.val_at (hok 14 110 _ (by decide) rfl rfl) | 111, _ => RgX.val_at (hok 15 111 _ (by decide) rfl rfl) | 112, _ => RgX.val_at (hok 16 112 _ (by decide) rfl rfl) | 113, _ => RgX.val_at (hok 17 113 _ (by decide) rfl rfl) | n + 114, h => absurd h (by show ¬ n + 114 < 114; omega))
        clear hs hd hlow hok hy99 hy102 hy106 hy109
        go_wp2_with fail
        go_ret
        exact ⟨rfl, HB.out.trans (hS.mono HB.out.size)⟩
end Go.Proofs.Ytepbppckhfiplaa.LawNetworkCommutes
