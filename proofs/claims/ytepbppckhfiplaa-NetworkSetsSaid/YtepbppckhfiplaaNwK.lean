/-
  The program's Add. Conditions: the set is sorted; the length.
-/
import Derived.Test.YtepbppckhfiplaaNwI
import Derived.Test.YtepbppckhfiplaaNwJ
namespace Go.Proofs.Ytepbppckhfiplaa
open Go Go.RowKit Go.Proofs
attribute [local go_sem] Oper.semAt_some

namespace RgX.Sp
/-- A row of three slices: one, that of one envelope, another. -/
def three (s1 s3 : Value) (a : NW.En) : Sp := ⟨fun w x => ∃ g g2, x = .slice (some ⟨g, 0, none⟩) 3 3 ∧ w.heap[g]? = some (.cells #[s1, .slice (some ⟨g2, 0, none⟩) 1 1, s3] 29 (0, 0)) ∧ EnB w g2 a, fun ⟨g, g2, e, h, k⟩ hb => ⟨g, g2, e, (hb.block g (Array.getElem?_eq_some_iff.1 h).1).trans h, k.keep hb⟩⟩
end RgX.Sp
theorem concat_put {g g2 n k c1 c3 lo : Nat} {A1 A3 : Option Addr} {l : List NW.En} {a : NW.En} (w : World) (hr : w.heap[g]? = some (.cells #[.slice A1 k c1, .slice (some ⟨g2, 0, none⟩) 1 1, .slice A3 (n - k) c3] 29 (0, 0))) (h2 : EnB w g2 a) (h1 : RgX.Src w A1 k c1 (RS.flat enE (l.take k))) (h3 : RgX.Src w A3 (n - k) c3 (RS.flat enE (l.drop k)))
    (hl : l.length = n) (hk : k ≤ n) (hlo : NW.lo l a.m = k) (bn : n ≤ 100000) (hlw : lo ≤ w.heap.size) :
    Calls Try.prog 28 #[.slice (some ⟨g, 0, none⟩) 3 3] w fun e w' => (∃ v, e = .returned v ∧ (RgX.Sp.ens lo (NW.put l a) (n + 1)).p w' v) ∧ Below w.heap.size w w' := by
  refine (concat_any (xs2 := enE.f a) w hr h1 (.inr ⟨_, rfl, World.news_of_block h2⟩) h3 (by rw [RS.flat_len, List.length_take, hl]; show min k n * 9 = k * 9; congr 1; omega) rfl (by rw [RS.flat_len, List.length_drop, hl]; rfl) (RS.flat_ones _) (enE.one a) (RS.flat_ones _) (by omega) (by omega) (by omega) (by omega)).mono ?_
  rintro e w' ⟨B, c', rfl, ho, hb⟩
  have he : k + 1 + (n - k) = n + 1 := by omega
  rw [he] at ho ⊢
  refine ⟨⟨_, rfl, B, c', rfl, ?_, fun b e => Nat.le_trans hlw (own_low ho b e)⟩, hb⟩
  rw [NW.put_at hlo]
  refine RS.Sl.of_own (E := enE) (t := 28) (base := w.heap.size) ?_ (by simp; omega)
  rw [RS.flat_append, RS.flat_append, RS.flat_one_, ← List.append_assoc]
  exact ho
set_option maxHeartbeats 4000000 in
set_option maxRecDepth 100000 in
theorem add_some (g n c : Nat) {l : List NW.En} (a : NW.En) (w : World) (h1 : Ens w (some ⟨g, 0, none⟩) n c l) (hs : NW.Srt l) (bn : n ≤ 1000) (hf : NW.has l a.m = false) :
    Calls Try.prog 11 #[.slice (some ⟨g, 0, none⟩) n c, enV a] w fun e w' => (∃ B c', e = .returned (.tuple #[.slice B (n + 1) c', .int .i64 0]) ∧ Ens w' B (n + 1) c' (NW.put l a) ∧ ∀ b, B = some b → w.heap.size ≤ b.block) ∧ Below w.heap.size w w' := by
  obtain ⟨U, hU⟩ : ∃ U, w.alloc (.cells #[.int .i64 a.m.c, .int .i64 a.m.h, .int .i64 a.m.t, .int .i64 a.m.i, .int .i64 a.m.p, .int .i64 a.o, .int .i64 a.k, .int .i64 a.a, .int .i64 a.b] 28) = U := ⟨_, rfl⟩
  have hb : Below w.heap.size w U := hU ▸ one_box w _
  have k1 : EnB U w.heap.size a := by rw [← hU]; exact new_at rfl
  have hkn := NW.lo_le l a.m
  rw [h1.len] at hkn
  have HE := Lib.hid (fun (V : World) (hV : Below U.heap.size U V) => (h1.keep hb).keep hV)
  have HL := Lib.hid h1.len
  have HC := Lib.hid h1.le
  have HP := Lib.hid (position_any a.m U (h1.keep hb) hs (by omega))
  rw [hf] at HP
  obtain ⟨k, hk⟩ : ∃ k, NW.lo l a.m = k := ⟨_, rfl⟩
  rw [hk] at HP hkn
  have HLO := Lib.hid hk
  clear hk
  obtain ⟨A8, hA8⟩ : ∃ A, (if c = k then (some ⟨g, 0, none⟩ : Option Addr) else some ⟨g, k * 9, none⟩) = A := ⟨_, rfl⟩
  have HK := Lib.hid k1
  have HB := Lib.hid hb
  obtain ⟨x0, x1, x2, x3, x4, x5, x6, x7, x8⟩ := k1.cells
  clear k1 hb hf hs h1
  go_enter Try.func11, Try.ntmps11
  go_upto_region 4 with (go_at_call 27; (with_reducible refine HP.out.mono ?_); rintro e w1 ⟨rfl, hb1⟩; have HV := Lib.hid hb1; clear hb1)
  clear hU x0 x1 x2 x3 x4 x5 x6 x7 x8
  refine RgX.region 12 (fun i => (if i = 10 then 4 else if i = 11 then 5 else 16 + i)) (fun ix_ => match ix_ with | 0 => .v (.slice (some ⟨g, 0, none⟩) n c) | 1 => .v (.int .i64 (k : Int)) | 2 => .v (.slice (some ⟨g, 0, none⟩) k c) | 3 => .v (.agg #[.int .i64 a.m.c, .int .i64 a.m.h, .int .i64 a.m.t, .int .i64 a.m.i, .int .i64 a.m.p, .int .i64 a.o, .int .i64 a.k, .int .i64 a.a, .int .i64 a.b]) | 4 => .row #[.int .i64 a.m.c, .int .i64 a.m.h, .int .i64 a.m.t, .int .i64 a.m.i, .int .i64 a.m.p, .int .i64 a.o, .int .i64 a.k, .int .i64 a.a, .int .i64 a.b] 28 1 | 5 => .v (.slice (some ⟨g, 0, none⟩) n c) | 6 => .v (.int .i64 (k : Int)) | 7 => .v (.slice A8 (n - k) (c - k)) | 8 => .three (.slice (some ⟨g, 0, none⟩) k c) (.slice A8 (n - k) (c - k)) a | 9 => .ens U.heap.size (NW.put l a) (n + 1) | 10 => .ens U.heap.size (NW.put l a) (n + 1) | 11 => .v (.int .i64 0) | _ => .any) (by kernel_rfl) rfl (by kernel_rfl)  (fun i hi => by show (if i = 10 then 4 else if i = 11 then 5 else 16 + i) < 26; (repeat' split) <;> omega) (fun i j hi hj => by show (if i = 10 then 4 else if i = 11 then 5 else 16 + i) = (if j = 10 then 4 else if j = 11 then 5 else 16 + j) → i = j; (repeat' split) <;> omega) ?step ?fin
  case step =>
    intro L_ A_ w3 ix op_ hI ho hdep
    have hi : ix < 12 := (Array.getElem?_eq_some_iff.1 ho).1
    have hcase : ix = 0 ∨ ix = 1 ∨ ix = 2 ∨ ix = 3 ∨ ix = 4 ∨ ix = 5 ∨ ix = 6 ∨ ix = 7 ∨ ix = 8 ∨ ix = 9 ∨ ix = 10 ∨ ix = 11 := by omega
    have hh := hI.held
    clear hi
    rcases hcase with rfl | rfl | rfl | rfl | rfl | rfl | rfl | rfl | rfl | rfl | rfl | rfl
    · simp only [List.getElem?_toArray, List.getElem?_cons_zero, Option.some.injEq] at ho
      subst ho
      refine ⟨rfl, ?_⟩
      have e0 : A_.tmps[0]?.getD undef = .slice (some ⟨g, 0, none⟩) n c := by rw [hI.low 0 (by decide)]; rfl
      clear hI hdep
      exact .run rfl (.slice (some ⟨g, 0, none⟩) n c) w3 (by simp [execOp, go_sem, Act.eval, e0]) (Below.refl _ _) rfl
    · simp only [List.getElem?_toArray, List.getElem?_cons_succ, List.getElem?_cons_zero, Option.some.injEq] at ho
      subst ho
      refine ⟨rfl, ?_⟩
      have e6 : A_.tmps[6]?.getD undef = .int .i64 (k : Int) := by rw [hI.low 6 (by decide)]; rfl
      clear hI hdep
      exact .run rfl (.int .i64 (k : Int)) w3 (by simp [execOp, go_sem, Act.eval, e6]) (Below.refl _ _) rfl
    · simp only [List.getElem?_toArray, List.getElem?_cons_succ, List.getElem?_cons_zero, Option.some.injEq] at ho
      subst ho
      refine ⟨rfl, ?_⟩
      have e16 : A_.tmps[16]?.getD undef = .slice (some ⟨g, 0, none⟩) n c := getD_of (hI.val_ (i := 0) rfl rfl (by decide) (hdep ⟨0, .data⟩ (by simp) rfl))
      have e17 : A_.tmps[17]?.getD undef = .int .i64 (k : Int) := getD_of (hI.val_ (i := 1) rfl rfl (by decide) (hdep ⟨1, .data⟩ (by simp) rfl))
      clear hI hdep
      have hkc : (k : Int) ≤ (c : Int) := by have := HC.out; omega
      exact .run rfl (.slice (some ⟨g, 0, none⟩) k c) w3 (by simp [execOp, go_sem, Act.eval, e16, e17, hkc]) (Below.refl _ _) rfl
    · simp only [List.getElem?_toArray, List.getElem?_cons_succ, List.getElem?_cons_zero, Option.some.injEq] at ho
      subst ho
      refine ⟨rfl, ?_⟩
      have e3 : A_.tmps[3]?.getD undef = .pointer (some ⟨w.heap.size, 0, none⟩) := by rw [hI.low 3 (by decide)]; rfl
      clear hI hdep
      obtain ⟨x0, x1, x2, x3, x4, x5, x6, x7, x8⟩ := (HK.out.keep (HV.out.trans (hh.mono HV.out.size))).cells
      exact .run rfl (.agg #[.int .i64 a.m.c, .int .i64 a.m.h, .int .i64 a.m.t, .int .i64 a.m.i, .int .i64 a.m.p, .int .i64 a.o, .int .i64 a.k, .int .i64 a.a, .int .i64 a.b]) w3 (by simp [execOp, go_sem, Act.eval, *]) (Below.refl _ _) rfl
    · simp only [List.getElem?_toArray, List.getElem?_cons_succ, List.getElem?_cons_zero, Option.some.injEq] at ho
      subst ho
      refine ⟨rfl, ?_⟩
      have e19 : A_.tmps[19]?.getD undef = .agg #[.int .i64 a.m.c, .int .i64 a.m.h, .int .i64 a.m.t, .int .i64 a.m.i, .int .i64 a.m.p, .int .i64 a.o, .int .i64 a.k, .int .i64 a.a, .int .i64 a.b] := getD_of (hI.val_ (i := 3) rfl rfl (by decide) (hdep ⟨3, .data⟩ (by simp) rfl))
      clear hI hdep
      exact .run rfl (.slice (some ⟨w3.heap.size, 0, none⟩) 1 1) (w3.alloc (.cells #[.int .i64 a.m.c, .int .i64 a.m.h, .int .i64 a.m.t, .int .i64 a.m.i, .int .i64 a.m.p, .int .i64 a.o, .int .i64 a.k, .int .i64 a.a, .int .i64 a.b] 28)) (by simp [execOp, go_sem, Act.eval, e19]) ((Below.refl _ _).alloc (Nat.le_refl _) _) (RgX.row_new _ _ _ _)
    · simp only [List.getElem?_toArray, List.getElem?_cons_succ, List.getElem?_cons_zero, Option.some.injEq] at ho
      subst ho
      refine ⟨rfl, ?_⟩
      have e0 : A_.tmps[0]?.getD undef = .slice (some ⟨g, 0, none⟩) n c := by rw [hI.low 0 (by decide)]; rfl
      clear hI hdep
      exact .run rfl (.slice (some ⟨g, 0, none⟩) n c) w3 (by simp [execOp, go_sem, Act.eval, e0]) (Below.refl _ _) rfl
    · simp only [List.getElem?_toArray, List.getElem?_cons_succ, List.getElem?_cons_zero, Option.some.injEq] at ho
      subst ho
      refine ⟨rfl, ?_⟩
      have e6 : A_.tmps[6]?.getD undef = .int .i64 (k : Int) := by rw [hI.low 6 (by decide)]; rfl
      clear hI hdep
      exact .run rfl (.int .i64 (k : Int)) w3 (by simp [execOp, go_sem, Act.eval, e6]) (Below.refl _ _) rfl
    · simp only [List.getElem?_toArray, List.getElem?_cons_succ, List.getElem?_cons_zero, Option.some.injEq] at ho
      subst ho
      refine ⟨rfl, ?_⟩
      have e21 : A_.tmps[21]?.getD undef = .slice (some ⟨g, 0, none⟩) n c := getD_of (hI.val_ (i := 5) rfl rfl (by decide) (hdep ⟨5, .data⟩ (by simp) rfl))
      have e22 : A_.tmps[22]?.getD undef = .int .i64 (k : Int) := getD_of (hI.val_ (i := 6) rfl rfl (by decide) (hdep ⟨6, .data⟩ (by simp) rfl))
      clear hI hdep
      have hkc : (k : Int) ≤ (n : Int) := by omega
      have hA9 := hA8
      exact .run rfl (.slice A8 (n - k) (c - k)) w3 (by simp [execOp, go_sem, Act.eval, e21, e22, hkc, hA8]) (Below.refl _ _) rfl
    · simp only [List.getElem?_toArray, List.getElem?_cons_succ, List.getElem?_cons_zero, Option.some.injEq] at ho
      subst ho
      refine ⟨rfl, ?_⟩
      have e18 : A_.tmps[18]?.getD undef = .slice (some ⟨g, 0, none⟩) k c := getD_of (hI.val_ (i := 2) rfl rfl (by decide) (hdep ⟨2, .data⟩ (by simp) rfl))
      obtain ⟨_, e20, g20, rfl, r20⟩ := hI.get_ (i := 4) (j := 20) rfl rfl (by decide) (hdep ⟨4, .data⟩ (by simp) rfl)
      have e23 : A_.tmps[23]?.getD undef = .slice A8 (n - k) (c - k) := getD_of (hI.val_ (i := 7) rfl rfl (by decide) (hdep ⟨7, .data⟩ (by simp) rfl))
      clear hI hdep
      exact .run rfl _ (w3.alloc (.cells #[.slice (some ⟨g, 0, none⟩) k c, .slice (some ⟨g20, 0, none⟩) 1 1, .slice A8 (n - k) (c - k)] 29)) (by simp [execOp, go_sem, Act.eval, e18, e20, e23]) (one_box _ _) ⟨_, g20, rfl, new_at rfl, (show EnB w3 g20 a from r20).keep (one_box _ _)⟩
    · simp only [List.getElem?_toArray, List.getElem?_cons_succ, List.getElem?_cons_zero, Option.some.injEq] at ho
      subst ho
      refine ⟨rfl, ?_⟩
      obtain ⟨_, e24, g24, m24, rfl, r24, q24⟩ := hI.get_ (i := 8) (j := 24) rfl rfl (by decide) (hdep ⟨8, .data⟩ (by simp) rfl)
      clear hI hdep
      exact .call rfl 28 #[.slice (some ⟨g24, 0, none⟩) 3 3] (by simp [go_sem, Act.eval, e24]) (concat_put w3 r24 q24 ((HE.out w3 (HV.out.trans (hh.mono HV.out.size))).front k hkn) (hA8 ▸ (HE.out w3 (HV.out.trans (hh.mono HV.out.size))).back_if k hkn) HL.out hkn HLO.out (by omega) (Nat.le_trans HV.out.size hh.size))
    · simp only [List.getElem?_toArray, List.getElem?_cons_succ, List.getElem?_cons_zero, Option.some.injEq] at ho
      subst ho
      refine ⟨rfl, ?_⟩
      obtain ⟨y25, e25, h25⟩ := hI.get_ (i := 9) (j := 25) rfl rfl (by decide) (hdep ⟨9, .data⟩ (by simp) rfl)
      clear hI hdep
      exact .run rfl y25 w3 (by simp [execOp, go_sem, Act.eval, e25]) (Below.refl _ _) h25
    · simp only [List.getElem?_toArray, List.getElem?_cons_succ, List.getElem?_cons_zero, Option.some.injEq] at ho
      subst ho
      refine ⟨rfl, ?_⟩
      clear hI hdep
      exact .run rfl (.int .i64 0) w3 (by simp [execOp, go_sem]) (Below.refl _ _) rfl
  case fin =>
  intro A_ w3 hs hd hlow hS hok
  obtain ⟨_, hy4, B4, c4, rfl, h4⟩ := hok 10 4 _ (by decide) rfl rfl
  obtain ⟨_, hy20, g20, rfl, r20⟩ := hok 4 20 _ (by decide) rfl rfl
  obtain ⟨_, hy24, g24, m24, rfl, r24, q24⟩ := hok 8 24 _ (by decide) rfl rfl
  obtain ⟨_, hy25, B25, c25, rfl, h25⟩ := hok 9 25 _ (by decide) rfl rfl
  obtain rfl : A_ = ⟨#[.slice (some ⟨g, 0, none⟩) n c, enV a, undef, .pointer (some ⟨w.heap.size, 0, none⟩), .slice B4 (n + 1) c4, .int .i64 0, .int .i64 (k : Int), .bool false, Value.tuple #[.int .i64 (k : Int), .bool false], .slice (some ⟨g, 0, none⟩) n c, .pointer (some ⟨w.heap.size, 0, none⟩), .agg #[.int .i64 a.m.c, .int .i64 a.m.h, .int .i64 a.m.t, .int .i64 a.m.i, .int .i64 a.m.p], Value.tuple #[.int .i64 (k : Int), .bool false], .int .i64 (k : Int), .bool false, .bool false, .slice (some ⟨g, 0, none⟩) n c, .int .i64 (k : Int), .slice (some ⟨g, 0, none⟩) k c, .agg #[.int .i64 a.m.c, .int .i64 a.m.h, .int .i64 a.m.t, .int .i64 a.m.i, .int .i64 a.m.p, .int .i64 a.o, .int .i64 a.k, .int .i64 a.a, .int .i64 a.b], .slice (some ⟨g20, 0, none⟩) 1 1, .slice (some ⟨g, 0, none⟩) n c, .int .i64 (k : Int), .slice A8 (n - k) (c - k), .slice (some ⟨g24, 0, none⟩) 3 3, .slice B25 (n + 1) c25], []⟩ := act_ext hd hs (fun j hj => match j, hj with | 0, _ => (hlow 0 (by decide)).trans rfl | 1, _ => (hlow 1 (by decide)).trans rfl | 2, _ => (hlow 2 (by decide)).trans rfl | 3, _ => (hlow 3 (by decide)).trans rfl | 4, _ => hy4 | 5, _ => RgX.val_at (hok 11 5 _ (by decide) rfl rfl) | 6, _ => (hlow 6 (by decide)).trans rfl | 7, _ => (hlow 7 (by decide)).trans rfl | 8, _ => (hlow 8 (by decide)).trans rfl | 9, _ => (hlow 9 (by decide)).trans rfl | 10, _ => (hlow 10 (by decide)).trans rfl | 11, _ => (hlow 11 (by decide)).trans rfl | 12, _ => (hlow 12 (by decide)).trans rfl | 13, _ => (hlow 13 (by decide)).trans rfl | 14, _ => (hlow 14 (by decide)).trans rfl | 15, _ => (hlow 15 (by decide)).trans rfl | 16, _ => RgX.val_at (hok 0 16 _ (by decide) rfl rfl) | 17, _ => RgX.val_at (hok 1 17 _ (by decide) rfl rfl) | 18, _ => RgX.val_at (hok 2 18 _ (by decide) rfl rfl) | 19, _ => RgX.val_at (hok 3 19 _ (by decide) rfl rfl) | 20, _ => hy20 | 21, _ => RgX.val_at (hok 5 21 _ (by decide) rfl rfl) | 22, _ => RgX.val_at (hok 6 22 _ (by decide) rfl rfl) | 23, _ => RgX.val_at (hok 7 23 _ (by decide) rfl rfl) | 24, _ => hy24 | 25, _ => hy25 | n + 26, h => absurd h (by show ¬ n + 26 < 26; omega))
  clear hs hd hlow hok hy4 hy20 hy24 hy25
  go_wp2_with fail
  refine bodyPost_ret (v := .tuple #[.slice B4 (n + 1) c4, .int .i64 0]) (by simp [results, Try.results11, go_sem]) rfl ?_
  exact ⟨⟨B4, c4, rfl, h4.1, fun b e => Nat.le_trans HB.out.size (h4.2 b e)⟩, (HB.out.trans (HV.out.mono HB.out.size)).trans (hS.mono (Nat.le_trans HB.out.size HV.out.size))⟩
set_option maxHeartbeats 4000000 in
set_option maxRecDepth 100000 in
theorem add_none (a : NW.En) (w : World) :
    Calls Try.prog 11 #[.slice none 0 0, enV a] w fun e w' => (∃ B c', e = .returned (.tuple #[.slice B (0 + 1) c', .int .i64 0]) ∧ Ens w' B (0 + 1) c' (NW.put [] a) ∧ ∀ b, B = some b → w.heap.size ≤ b.block) ∧ Below w.heap.size w w' := by
  obtain ⟨U, hU⟩ : ∃ U, w.alloc (.cells #[.int .i64 a.m.c, .int .i64 a.m.h, .int .i64 a.m.t, .int .i64 a.m.i, .int .i64 a.m.p, .int .i64 a.o, .int .i64 a.k, .int .i64 a.a, .int .i64 a.b] 28) = U := ⟨_, rfl⟩
  have hb : Below w.heap.size w U := hU ▸ one_box w _
  have k1 : EnB U w.heap.size a := by rw [← hU]; exact new_at rfl
  have hf : NW.has [] a.m = false := rfl
  have HP := Lib.hid (position_any a.m U (RS.Sl.nil _ _) List.Pairwise.nil (by omega))
  rw [hf, show NW.lo [] a.m = 0 from rfl] at HP
  have HK := Lib.hid k1
  have HB := Lib.hid hb
  obtain ⟨x0, x1, x2, x3, x4, x5, x6, x7, x8⟩ := k1.cells
  clear k1 hb hf 
  go_enter Try.func11, Try.ntmps11
  go_upto_region 4 with (go_at_call 27; (with_reducible refine HP.out.mono ?_); rintro e w1 ⟨rfl, hb1⟩; have HV := Lib.hid hb1; clear hb1)
  clear hU x0 x1 x2 x3 x4 x5 x6 x7 x8
  refine RgX.region 12 (fun i => (if i = 10 then 4 else if i = 11 then 5 else 16 + i)) (fun ix_ => match ix_ with | 0 => .v (.slice none 0 0) | 1 => .v (.int .i64 0) | 2 => .v (.slice none 0 0) | 3 => .v (.agg #[.int .i64 a.m.c, .int .i64 a.m.h, .int .i64 a.m.t, .int .i64 a.m.i, .int .i64 a.m.p, .int .i64 a.o, .int .i64 a.k, .int .i64 a.a, .int .i64 a.b]) | 4 => .row #[.int .i64 a.m.c, .int .i64 a.m.h, .int .i64 a.m.t, .int .i64 a.m.i, .int .i64 a.m.p, .int .i64 a.o, .int .i64 a.k, .int .i64 a.a, .int .i64 a.b] 28 1 | 5 => .v (.slice none 0 0) | 6 => .v (.int .i64 0) | 7 => .v (.slice none 0 0) | 8 => .three (.slice none 0 0) (.slice none 0 0) a | 9 => .ens U.heap.size (NW.put [] a) (0 + 1) | 10 => .ens U.heap.size (NW.put [] a) (0 + 1) | 11 => .v (.int .i64 0) | _ => .any) (by kernel_rfl) rfl (by kernel_rfl)  (fun i hi => by show (if i = 10 then 4 else if i = 11 then 5 else 16 + i) < 26; (repeat' split) <;> omega) (fun i j hi hj => by show (if i = 10 then 4 else if i = 11 then 5 else 16 + i) = (if j = 10 then 4 else if j = 11 then 5 else 16 + j) → i = j; (repeat' split) <;> omega) ?step ?fin
  case step =>
    intro L_ A_ w3 ix op_ hI ho hdep
    have hi : ix < 12 := (Array.getElem?_eq_some_iff.1 ho).1
    have hcase : ix = 0 ∨ ix = 1 ∨ ix = 2 ∨ ix = 3 ∨ ix = 4 ∨ ix = 5 ∨ ix = 6 ∨ ix = 7 ∨ ix = 8 ∨ ix = 9 ∨ ix = 10 ∨ ix = 11 := by omega
    have hh := hI.held
    clear hi
    rcases hcase with rfl | rfl | rfl | rfl | rfl | rfl | rfl | rfl | rfl | rfl | rfl | rfl
    · simp only [List.getElem?_toArray, List.getElem?_cons_zero, Option.some.injEq] at ho
      subst ho
      refine ⟨rfl, ?_⟩
      have e0 : A_.tmps[0]?.getD undef = .slice none 0 0 := by rw [hI.low 0 (by decide)]; rfl
      clear hI hdep
      exact .run rfl (.slice none 0 0) w3 (by simp [execOp, go_sem, Act.eval, e0]) (Below.refl _ _) rfl
    · simp only [List.getElem?_toArray, List.getElem?_cons_succ, List.getElem?_cons_zero, Option.some.injEq] at ho
      subst ho
      refine ⟨rfl, ?_⟩
      have e6 : A_.tmps[6]?.getD undef = .int .i64 0 := by rw [hI.low 6 (by decide)]; rfl
      clear hI hdep
      exact .run rfl (.int .i64 0) w3 (by simp [execOp, go_sem, Act.eval, e6]) (Below.refl _ _) rfl
    · simp only [List.getElem?_toArray, List.getElem?_cons_succ, List.getElem?_cons_zero, Option.some.injEq] at ho
      subst ho
      refine ⟨rfl, ?_⟩
      have e16 : A_.tmps[16]?.getD undef = .slice none 0 0 := getD_of (hI.val_ (i := 0) rfl rfl (by decide) (hdep ⟨0, .data⟩ (by simp) rfl))
      have e17 : A_.tmps[17]?.getD undef = .int .i64 0 := getD_of (hI.val_ (i := 1) rfl rfl (by decide) (hdep ⟨1, .data⟩ (by simp) rfl))
      clear hI hdep
      exact .run rfl (.slice none 0 0) w3 (by simp [execOp, go_sem, Act.eval, e16, e17]) (Below.refl _ _) rfl
    · simp only [List.getElem?_toArray, List.getElem?_cons_succ, List.getElem?_cons_zero, Option.some.injEq] at ho
      subst ho
      refine ⟨rfl, ?_⟩
      have e3 : A_.tmps[3]?.getD undef = .pointer (some ⟨w.heap.size, 0, none⟩) := by rw [hI.low 3 (by decide)]; rfl
      clear hI hdep
      obtain ⟨x0, x1, x2, x3, x4, x5, x6, x7, x8⟩ := (HK.out.keep (HV.out.trans (hh.mono HV.out.size))).cells
      exact .run rfl (.agg #[.int .i64 a.m.c, .int .i64 a.m.h, .int .i64 a.m.t, .int .i64 a.m.i, .int .i64 a.m.p, .int .i64 a.o, .int .i64 a.k, .int .i64 a.a, .int .i64 a.b]) w3 (by simp [execOp, go_sem, Act.eval, *]) (Below.refl _ _) rfl
    · simp only [List.getElem?_toArray, List.getElem?_cons_succ, List.getElem?_cons_zero, Option.some.injEq] at ho
      subst ho
      refine ⟨rfl, ?_⟩
      have e19 : A_.tmps[19]?.getD undef = .agg #[.int .i64 a.m.c, .int .i64 a.m.h, .int .i64 a.m.t, .int .i64 a.m.i, .int .i64 a.m.p, .int .i64 a.o, .int .i64 a.k, .int .i64 a.a, .int .i64 a.b] := getD_of (hI.val_ (i := 3) rfl rfl (by decide) (hdep ⟨3, .data⟩ (by simp) rfl))
      clear hI hdep
      exact .run rfl (.slice (some ⟨w3.heap.size, 0, none⟩) 1 1) (w3.alloc (.cells #[.int .i64 a.m.c, .int .i64 a.m.h, .int .i64 a.m.t, .int .i64 a.m.i, .int .i64 a.m.p, .int .i64 a.o, .int .i64 a.k, .int .i64 a.a, .int .i64 a.b] 28)) (by simp [execOp, go_sem, Act.eval, e19]) ((Below.refl _ _).alloc (Nat.le_refl _) _) (RgX.row_new _ _ _ _)
    · simp only [List.getElem?_toArray, List.getElem?_cons_succ, List.getElem?_cons_zero, Option.some.injEq] at ho
      subst ho
      refine ⟨rfl, ?_⟩
      have e0 : A_.tmps[0]?.getD undef = .slice none 0 0 := by rw [hI.low 0 (by decide)]; rfl
      clear hI hdep
      exact .run rfl (.slice none 0 0) w3 (by simp [execOp, go_sem, Act.eval, e0]) (Below.refl _ _) rfl
    · simp only [List.getElem?_toArray, List.getElem?_cons_succ, List.getElem?_cons_zero, Option.some.injEq] at ho
      subst ho
      refine ⟨rfl, ?_⟩
      have e6 : A_.tmps[6]?.getD undef = .int .i64 0 := by rw [hI.low 6 (by decide)]; rfl
      clear hI hdep
      exact .run rfl (.int .i64 0) w3 (by simp [execOp, go_sem, Act.eval, e6]) (Below.refl _ _) rfl
    · simp only [List.getElem?_toArray, List.getElem?_cons_succ, List.getElem?_cons_zero, Option.some.injEq] at ho
      subst ho
      refine ⟨rfl, ?_⟩
      have e21 : A_.tmps[21]?.getD undef = .slice none 0 0 := getD_of (hI.val_ (i := 5) rfl rfl (by decide) (hdep ⟨5, .data⟩ (by simp) rfl))
      have e22 : A_.tmps[22]?.getD undef = .int .i64 0 := getD_of (hI.val_ (i := 6) rfl rfl (by decide) (hdep ⟨6, .data⟩ (by simp) rfl))
      clear hI hdep
      exact .run rfl (.slice none 0 0) w3 (by simp [execOp, go_sem, Act.eval, e21, e22]) (Below.refl _ _) rfl
    · simp only [List.getElem?_toArray, List.getElem?_cons_succ, List.getElem?_cons_zero, Option.some.injEq] at ho
      subst ho
      refine ⟨rfl, ?_⟩
      have e18 : A_.tmps[18]?.getD undef = .slice none 0 0 := getD_of (hI.val_ (i := 2) rfl rfl (by decide) (hdep ⟨2, .data⟩ (by simp) rfl))
      obtain ⟨_, e20, g20, rfl, r20⟩ := hI.get_ (i := 4) (j := 20) rfl rfl (by decide) (hdep ⟨4, .data⟩ (by simp) rfl)
      have e23 : A_.tmps[23]?.getD undef = .slice none 0 0 := getD_of (hI.val_ (i := 7) rfl rfl (by decide) (hdep ⟨7, .data⟩ (by simp) rfl))
      clear hI hdep
      exact .run rfl _ (w3.alloc (.cells #[.slice none 0 0, .slice (some ⟨g20, 0, none⟩) 1 1, .slice none 0 0] 29)) (by simp [execOp, go_sem, Act.eval, e18, e20, e23]) (one_box _ _) ⟨_, g20, rfl, new_at rfl, (show EnB w3 g20 a from r20).keep (one_box _ _)⟩
    · simp only [List.getElem?_toArray, List.getElem?_cons_succ, List.getElem?_cons_zero, Option.some.injEq] at ho
      subst ho
      refine ⟨rfl, ?_⟩
      obtain ⟨_, e24, g24, m24, rfl, r24, q24⟩ := hI.get_ (i := 8) (j := 24) rfl rfl (by decide) (hdep ⟨8, .data⟩ (by simp) rfl)
      clear hI hdep
      exact .call rfl 28 #[.slice (some ⟨g24, 0, none⟩) 3 3] (by simp [go_sem, Act.eval, e24]) (concat_put (l := []) (n := 0) (k := 0) w3 r24 q24 (.inl ⟨rfl, rfl, rfl, rfl⟩) (.inl ⟨rfl, rfl, rfl, rfl⟩) rfl (by omega) rfl (by omega) (Nat.le_trans HV.out.size hh.size))
    · simp only [List.getElem?_toArray, List.getElem?_cons_succ, List.getElem?_cons_zero, Option.some.injEq] at ho
      subst ho
      refine ⟨rfl, ?_⟩
      obtain ⟨y25, e25, h25⟩ := hI.get_ (i := 9) (j := 25) rfl rfl (by decide) (hdep ⟨9, .data⟩ (by simp) rfl)
      clear hI hdep
      exact .run rfl y25 w3 (by simp [execOp, go_sem, Act.eval, e25]) (Below.refl _ _) h25
    · simp only [List.getElem?_toArray, List.getElem?_cons_succ, List.getElem?_cons_zero, Option.some.injEq] at ho
      subst ho
      refine ⟨rfl, ?_⟩
      clear hI hdep
      exact .run rfl (.int .i64 0) w3 (by simp [execOp, go_sem]) (Below.refl _ _) rfl
  case fin =>
  intro A_ w3 hs hd hlow hS hok
  obtain ⟨_, hy4, B4, c4, rfl, h4⟩ := hok 10 4 _ (by decide) rfl rfl
  obtain ⟨_, hy20, g20, rfl, r20⟩ := hok 4 20 _ (by decide) rfl rfl
  obtain ⟨_, hy24, g24, m24, rfl, r24, q24⟩ := hok 8 24 _ (by decide) rfl rfl
  obtain ⟨_, hy25, B25, c25, rfl, h25⟩ := hok 9 25 _ (by decide) rfl rfl
  obtain rfl : A_ = ⟨#[.slice none 0 0, enV a, undef, .pointer (some ⟨w.heap.size, 0, none⟩), .slice B4 (0 + 1) c4, .int .i64 0, .int .i64 0, .bool false, Value.tuple #[.int .i64 0, .bool false], .slice none 0 0, .pointer (some ⟨w.heap.size, 0, none⟩), .agg #[.int .i64 a.m.c, .int .i64 a.m.h, .int .i64 a.m.t, .int .i64 a.m.i, .int .i64 a.m.p], Value.tuple #[.int .i64 0, .bool false], .int .i64 0, .bool false, .bool false, .slice none 0 0, .int .i64 0, .slice none 0 0, .agg #[.int .i64 a.m.c, .int .i64 a.m.h, .int .i64 a.m.t, .int .i64 a.m.i, .int .i64 a.m.p, .int .i64 a.o, .int .i64 a.k, .int .i64 a.a, .int .i64 a.b], .slice (some ⟨g20, 0, none⟩) 1 1, .slice none 0 0, .int .i64 0, .slice none 0 0, .slice (some ⟨g24, 0, none⟩) 3 3, .slice B25 (0 + 1) c25], []⟩ := act_ext hd hs (fun j hj => match j, hj with | 0, _ => (hlow 0 (by decide)).trans rfl | 1, _ => (hlow 1 (by decide)).trans rfl | 2, _ => (hlow 2 (by decide)).trans rfl | 3, _ => (hlow 3 (by decide)).trans rfl | 4, _ => hy4 | 5, _ => RgX.val_at (hok 11 5 _ (by decide) rfl rfl) | 6, _ => (hlow 6 (by decide)).trans rfl | 7, _ => (hlow 7 (by decide)).trans rfl | 8, _ => (hlow 8 (by decide)).trans rfl | 9, _ => (hlow 9 (by decide)).trans rfl | 10, _ => (hlow 10 (by decide)).trans rfl | 11, _ => (hlow 11 (by decide)).trans rfl | 12, _ => (hlow 12 (by decide)).trans rfl | 13, _ => (hlow 13 (by decide)).trans rfl | 14, _ => (hlow 14 (by decide)).trans rfl | 15, _ => (hlow 15 (by decide)).trans rfl | 16, _ => RgX.val_at (hok 0 16 _ (by decide) rfl rfl) | 17, _ => RgX.val_at (hok 1 17 _ (by decide) rfl rfl) | 18, _ => RgX.val_at (hok 2 18 _ (by decide) rfl rfl) | 19, _ => RgX.val_at (hok 3 19 _ (by decide) rfl rfl) | 20, _ => hy20 | 21, _ => RgX.val_at (hok 5 21 _ (by decide) rfl rfl) | 22, _ => RgX.val_at (hok 6 22 _ (by decide) rfl rfl) | 23, _ => RgX.val_at (hok 7 23 _ (by decide) rfl rfl) | 24, _ => hy24 | 25, _ => hy25 | n + 26, h => absurd h (by show ¬ n + 26 < 26; omega))
  clear hs hd hlow hok hy4 hy20 hy24 hy25
  go_wp2_with fail
  refine bodyPost_ret (v := .tuple #[.slice B4 (0 + 1) c4, .int .i64 0]) (by simp [results, Try.results11, go_sem]) rfl ?_
  exact ⟨⟨B4, c4, rfl, h4.1, fun b e => Nat.le_trans HB.out.size (h4.2 b e)⟩, (HB.out.trans (HV.out.mono HB.out.size)).trans (hS.mono (Nat.le_trans HB.out.size HV.out.size))⟩
set_option maxHeartbeats 4000000 in
set_option maxRecDepth 100000 in
theorem add_dup {A : Option Addr} {n c : Nat} {l : List NW.En} (a : NW.En) (w : World) (h1 : Ens w A n c l) (hs : NW.Srt l) (bn : n ≤ 1000) (hf : NW.has l a.m = true) :
    Calls Try.prog 11 #[.slice A n c, enV a] w fun e w' => e = .returned (.tuple #[.slice none 0 0, .int .i64 4]) ∧ Below w.heap.size w w' := by
  obtain ⟨U, hU⟩ : ∃ U, w.alloc (.cells #[.int .i64 a.m.c, .int .i64 a.m.h, .int .i64 a.m.t, .int .i64 a.m.i, .int .i64 a.m.p, .int .i64 a.o, .int .i64 a.k, .int .i64 a.a, .int .i64 a.b] 28) = U := ⟨_, rfl⟩
  have hb : Below w.heap.size w U := hU ▸ one_box w _
  have k1 : EnB U w.heap.size a := by rw [← hU]; exact new_at rfl
  have HP := Lib.hid (position_any a.m U (h1.keep hb) hs (by omega))
  rw [hf] at HP
  have HB := Lib.hid hb
  obtain ⟨x0, x1, x2, x3, x4, x5, x6, x7, x8⟩ := k1.cells
  clear k1 hb hf hs h1
  go_enter Try.func11, Try.ntmps11
  go_wp2_with (go_at_call 27; (with_reducible refine HP.out.mono ?_); rintro e w1 ⟨rfl, hb1⟩; have HV := Lib.hid hb1; clear hb1)
  exact bodyPost_ret (v := .tuple #[.slice none 0 0, .int .i64 4]) (by simp [results, Try.results11, go_sem]) rfl ⟨rfl, HB.out.trans (HV.out.mono HB.out.size)⟩
theorem add_any {A : Option Addr} {n c : Nat} {l : List NW.En} (a : NW.En) (w : World) (h1 : Ens w A n c l) (hs : NW.Srt l) (bn : n ≤ 1000) :
    Calls Try.prog 11 #[.slice A n c, enV a] w fun e w' => (∃ B q c', e = .returned (.tuple #[.slice B q c', .int .i64 (if NW.has l a.m then 4 else 0)]) ∧ Ens w' B q c' (if NW.has l a.m then [] else NW.put l a) ∧ ∀ b, B = some b → w.heap.size ≤ b.block) ∧ Below w.heap.size w w' := by
  cases hf : NW.has l a.m with
  | true => exact (add_dup a w h1 hs bn hf).mono fun _ _ ⟨h2, h3⟩ => ⟨⟨none, 0, 0, h2, RS.Sl.nil _ _, fun _ e => by cases e⟩, h3⟩
  | false =>
    have h2 := h1
    obtain ⟨e1, e2, e3, e4⟩ := h1
    rcases e4 with ⟨rfl, rfl⟩ | ⟨g, rfl, _, _⟩
    · obtain rfl : n = 0 := by omega
      obtain rfl : l = [] := List.eq_nil_of_length_eq_zero e1
      exact (add_none a w).mono fun _ _ ⟨⟨B, c', h3, h4⟩, h5⟩ => ⟨⟨B, _, c', h3, h4⟩, h5⟩
    · exact (add_some g n c a w h2 hs bn hf).mono fun _ _ ⟨⟨B, c', h3, h4⟩, h5⟩ => ⟨⟨B, _, c', h3, h4⟩, h5⟩
end Go.Proofs.Ytepbppckhfiplaa
