/-
  The reference's Copy. Conditions: the set is sorted; the length.
-/
import Derived.Test.YtepbppckhfiplaaNwF
import Derived.Test.YtepbppckhfiplaaNwCp
import Derived.Test.YtepbppckhfiplaaRgY
namespace Go.Proofs.Ytepbppckhfiplaa
open Go Go.RowKit Go.Proofs
attribute [local go_sem] Oper.semAt_some

set_option maxHeartbeats 4000000 in
set_option maxRecDepth 100000 in
theorem refCopy_any {A : Option Addr} {n c : Nat} {l : List NW.En} (m : NM.Ms) (p : Int) (w : World) (h1 : Ens w A n c l) (hs : NW.Srt l) (bn : n ≤ 900) :
    Calls Try.prog 20 #[.slice A n c, msV m, .int .i64 p] w fun e w' => (∃ B q c', e = .returned (.tuple #[.slice B q c', msV (NW.copy l m p).2.1, .int .i64 (NW.copy l m p).1]) ∧ Ens w' B q c' (NW.copy l m p).2.2) ∧ Below w.heap.size w w' := by
  obtain ⟨U, hU, hb, k1, k2, hlt⟩ := two_boxes w (.cells #[.int .i64 m.c, .int .i64 m.h, .int .i64 m.t, .int .i64 m.i, .int .i64 m.p] 26) (.cells #[.int .i64 0, .int .i64 0, .int .i64 0, .int .i64 0, .int .i64 0] 26)
  have hz : MsB U (w.heap.size + 1) NM.m0 := k2
  obtain ⟨x0, x1, x2, x3, x4⟩ := row5 k1
  have HB := Lib.hid hb
  have HZ := Lib.hid hz
  have HE := Lib.hid (h1.keep hb)
  have HFI := Lib.hid (refFind_any m U (h1.keep hb) hs (by omega))
  have HS := Lib.hid hs
  clear k1 k2 hb hz h1 hs
  go_enter Try.func20, Try.ntmps20
  by_cases hh : NW.has l m = true
  · obtain ⟨y, hy⟩ := NW.find_ex hh
    rw [hh, hy] at HFI
    obtain ⟨y1, hy1⟩ : ∃ z, NW.withP y p = z := ⟨_, rfl⟩
    have HW := Lib.hid hy1
    have HCO := Lib.hid (NW.copy_some hy p)
    rw [hy1] at HCO
    obtain ⟨T, hT⟩ : ∃ T, NW.copy l m p = T := ⟨_, rfl⟩
    rw [hT] at HCO ⊢
    clear hy hh hy1 hT
    go_upto_region 2 with (go_at_call 14; (with_reducible refine HFI.out.mono ?_); rintro e w1 ⟨rfl, hb1⟩; have HB1 := Lib.hid hb1; clear hb1)
    obtain ⟨Y, hY⟩ : ∃ Y, w1.alloc (.cells #[.int .i64 y.m.c, .int .i64 y.m.h, .int .i64 y.m.t, .int .i64 y.m.i, .int .i64 y.m.p, .int .i64 y.o, .int .i64 y.k, .int .i64 y.a, .int .i64 y.b] 28) = Y := ⟨_, rfl⟩
    rw [hY]
    have hkY : EnB Y w1.heap.size y := by rw [← hY]; exact new_at rfl
    have hsY : U.heap.size ≤ w1.heap.size := HB1.out.size
    have HBY := Lib.hid (show Below U.heap.size U Y from hY ▸ HB1.out.alloc HB1.out.size _)
    have hlY : w1.heap.size < Y.heap.size := hkY.lt
    clear hU hY x0 x1 x2 x3 x4
    go_upto_region 5 with (refine store_copy rfl _ _ rfl w1.heap.size y p hkY rfl rfl ?_; intro w2 hs1 hs2 hs4)
    have hs5 : EnB w2 w1.heap.size y1 := by rw [← HW.out]; exact hs1
    have HB2 := Lib.hid (show Below U.heap.size U w2 from HBY.out.trans (hs4.mono hsY))
    have s2 := HB2.out.size
    have HA := Lib.hid (refAt_any y1.m w2 (HE.out.keep HB2.out) (by omega))
    have HK2 := Lib.hid hs5
    obtain ⟨q0, q1, q2, q3, q4, q5, q6, q7, q8⟩ := hs5.cells
    clear hs1 hs2 hs4 hkY hs5
    by_cases hd : NW.has l y1.m = true
    · obtain ⟨k, hk⟩ : ∃ k : Nat, NW.idx l y1.m = (k : Int) := ⟨NW.idxN l y1.m, by unfold NW.idx; rw [if_pos hd]⟩
      rw [hk] at HA
      have HD := Lib.hid hd
      clear hk hd
      have dk : decide ((k : Int) ≥ 0) = true := decide_eq_true (by omega)
      go_upto_region 6 with (go_at_call 29; (with_reducible refine HA.out.mono ?_); rintro e w3 ⟨rfl, hb3⟩; have HB3 := Lib.hid hb3; clear hb3)
      have hz3 : MsB w3 (w.heap.size + 1) NM.m0 := (HZ.out.keep HB2.out).keep HB3.out
      clear q0 q1 q2 q3 q4 q5 q6 q7 q8
      go_wp2_with (refine store_ms rfl _ _ rfl (w.heap.size + 1) _ NM.m0 hz3 rfl rfl ?_; intro w4 hm1 hm2 hm4)
      obtain ⟨r0, r1, r2, r3, r4⟩ := hm1.cells
      refine bodyPost_ret (v := .tuple #[.slice none 0 0, msV NM.m0, .int .i64 4]) (by simp [results, Try.results20, go_sem, r0, r1, r2, r3, r4]) rfl ?_
      have hT := HCO.out
      rw [if_pos HD.out] at hT
      rw [hT]
      exact ⟨⟨none, 0, 0, rfl, RS.Sl.nil _ _⟩, ((HB.out.trans (HB2.out.mono HB.out.size)).trans (HB3.out.mono (Nat.le_trans HB.out.size s2))).trans (hm4.mono (by omega))⟩
    · have hd2 : NW.has l y1.m = false := by simpa using hd
      rw [NW.idx_no hd2] at HA
      have HD := Lib.hid hd
      clear hd hd2
      go_upto_region 7 with (go_at_call 29; (with_reducible refine HA.out.mono ?_); rintro e w3 ⟨rfl, hb3⟩; have HB3 := Lib.hid hb3; clear hb3)
      have hz3 := Lib.hid ((HZ.out.keep HB2.out).keep HB3.out)
      have hk3 := Lib.hid (HK2.out.keep HB3.out)
      have HB4 := Lib.hid (HB2.out.trans (HB3.out.mono s2))
      obtain ⟨v4, hv4⟩ : ∃ V, V = w3 := ⟨_, rfl⟩
      rw [← hv4] at hz3 hk3 HB4 ⊢
      clear q0 q1 q2 q3 q4 q5 q6 q7 q8 hv4 HB3
      have hz3m := Lib.hid (fun (V : World) (hV : Below v4.heap.size v4 V) => hz3.out.keep hV)
      have s4 := HB4.out.size
      refine RgX.tailS 6 (fun i => (if i = 5 then 6 else 29 + i)) (fun ix_ => match ix_ with | 0 => .v (.slice A n c) | 1 => .v (.agg #[.int .i64 y1.m.c, .int .i64 y1.m.h, .int .i64 y1.m.t, .int .i64 y1.m.i, .int .i64 y1.m.p, .int .i64 y1.o, .int .i64 y1.k, .int .i64 y1.a, .int .i64 y1.b]) | 2 => .ens U.heap.size (NW.put l y1) (n + 1) | 3 => .v (.pointer (some ⟨w1.heap.size, 0, none⟩)) | 4 => .v (.agg #[.int .i64 y1.m.c, .int .i64 y1.m.h, .int .i64 y1.m.t, .int .i64 y1.m.i, .int .i64 y1.m.p]) | 5 => .ens U.heap.size (NW.put l y1) (n + 1) | _ => .any) _ _ (by kernel_rfl) rfl rfl rfl (by kernel_rfl) (by kernel_rfl) (by kernel_rfl) (fun i hi => by show (if i = 5 then 6 else 29 + i) < 34; (repeat' split) <;> omega) (fun i j hi hj => by show (if i = 5 then 6 else 29 + i) = (if j = 5 then 6 else 29 + j) → i = j; (repeat' split) <;> omega) ?step ?fin
      case step =>
        intro L_ A_ w3 ix op_ hi hI ho hdep
        have hcase : ix = 0 ∨ ix = 1 ∨ ix = 2 ∨ ix = 3 ∨ ix = 4 ∨ ix = 5 := by omega
        have hh := hI.held
        clear hi
        rcases hcase with rfl | rfl | rfl | rfl | rfl | rfl
        · simp only [List.getElem?_toArray, List.getElem?_cons_zero, Option.some.injEq] at ho
          subst ho
          refine ⟨rfl, ?_⟩
          have e0 : A_.tmps[0]?.getD undef = .slice A n c := by rw [hI.low 0 (by decide)]; rfl
          clear hI hdep
          exact .run rfl (.slice A n c) w3 (by simp [execOp, go_sem, Act.eval, e0]) (Below.refl _ _) rfl
        · simp only [List.getElem?_toArray, List.getElem?_cons_succ, List.getElem?_cons_zero, Option.some.injEq] at ho
          subst ho
          refine ⟨rfl, ?_⟩
          have e9 : A_.tmps[9]?.getD undef = .pointer (some ⟨w1.heap.size, 0, none⟩) := by rw [hI.low 9 (by decide)]; rfl
          clear hI hdep
          obtain ⟨x0, x1, x2, x3, x4, x5, x6, x7, x8⟩ := (hk3.out.keep hh).cells
          exact .run rfl (.agg #[.int .i64 y1.m.c, .int .i64 y1.m.h, .int .i64 y1.m.t, .int .i64 y1.m.i, .int .i64 y1.m.p, .int .i64 y1.o, .int .i64 y1.k, .int .i64 y1.a, .int .i64 y1.b]) w3 (by simp [execOp, go_sem, Act.eval, *]) (Below.refl _ _) rfl
        · simp only [List.getElem?_toArray, List.getElem?_cons_succ, List.getElem?_cons_zero, Option.some.injEq] at ho
          subst ho
          refine ⟨rfl, ?_⟩
          have e29 : A_.tmps[29]?.getD undef = .slice A n c := getD_of (hI.val_ (i := 0) rfl rfl (by decide) (hdep ⟨0, .data⟩ (by simp) rfl))
          have e30 : A_.tmps[30]?.getD undef = .agg #[.int .i64 y1.m.c, .int .i64 y1.m.h, .int .i64 y1.m.t, .int .i64 y1.m.i, .int .i64 y1.m.p, .int .i64 y1.o, .int .i64 y1.k, .int .i64 y1.a, .int .i64 y1.b] := getD_of (hI.val_ (i := 1) rfl rfl (by decide) (hdep ⟨1, .data⟩ (by simp) rfl))
          clear hI hdep
          exact .call rfl 30 #[.slice A n c, .agg #[.int .i64 y1.m.c, .int .i64 y1.m.h, .int .i64 y1.m.t, .int .i64 y1.m.i, .int .i64 y1.m.p, .int .i64 y1.o, .int .i64 y1.k, .int .i64 y1.a, .int .i64 y1.b]] (by simp [go_sem, Act.eval, e29, e30]) ((put_any y1 w3 ((HE.out.keep HB4.out).keep hh) (by omega)).mono fun _ _ ⟨⟨v_, h1_, B_, c_, h2_, h3_, h4_⟩, h5_⟩ => ⟨⟨v_, h1_, B_, c_, h2_, h3_, fun b e => Nat.le_trans (Nat.le_trans s4 hh.size) (h4_ b e)⟩, h5_⟩)
        · simp only [List.getElem?_toArray, List.getElem?_cons_succ, List.getElem?_cons_zero, Option.some.injEq] at ho
          subst ho
          refine ⟨rfl, ?_⟩
          have e9 : A_.tmps[9]?.getD undef = .pointer (some ⟨w1.heap.size, 0, none⟩) := by rw [hI.low 9 (by decide)]; rfl
          clear hI hdep
          exact .run rfl (.pointer (some ⟨w1.heap.size, 0, none⟩)) w3 (by simp [execOp, go_sem, Act.eval, e9]) (Below.refl _ _) rfl
        · simp only [List.getElem?_toArray, List.getElem?_cons_succ, List.getElem?_cons_zero, Option.some.injEq] at ho
          subst ho
          refine ⟨rfl, ?_⟩
          have e32 : A_.tmps[32]?.getD undef = .pointer (some ⟨w1.heap.size, 0, none⟩) := getD_of (hI.val_ (i := 3) rfl rfl (by decide) (hdep ⟨3, .data⟩ (by simp) rfl))
          clear hI hdep
          obtain ⟨x0, x1, x2, x3, x4, x5, x6, x7, x8⟩ := (hk3.out.keep hh).cells
          exact .run rfl (.agg #[.int .i64 y1.m.c, .int .i64 y1.m.h, .int .i64 y1.m.t, .int .i64 y1.m.i, .int .i64 y1.m.p]) w3 (by simp [execOp, go_sem, Act.eval, *]) (Below.refl _ _) rfl
        · simp only [List.getElem?_toArray, List.getElem?_cons_succ, List.getElem?_cons_zero, Option.some.injEq] at ho
          subst ho
          refine ⟨rfl, ?_⟩
          obtain ⟨y31, e31, h31⟩ := hI.get_ (i := 2) (j := 31) rfl rfl (by decide) (hdep ⟨2, .data⟩ (by simp) rfl)
          clear hI hdep
          exact .run rfl y31 w3 (by simp [execOp, go_sem, Act.eval, e31]) (Below.refl _ _) h31
      case fin =>
      intro A_ w3 hs hd hlow hS hok
      obtain ⟨_, hy6, B6, c6, rfl, h6⟩ := hok 5 6 _ (by decide) rfl rfl
      obtain ⟨_, hy31, B31, c31, rfl, h31⟩ := hok 2 31 _ (by decide) rfl rfl
      obtain rfl : A_ = ⟨#[.slice A n c, msV m, .int .i64 p, undef, .pointer (some ⟨w.heap.size, 0, none⟩), undef, .slice B6 (n + 1) c6, .pointer (some ⟨w.heap.size + 1, 0, none⟩), .int .i64 0, .pointer (some ⟨w1.heap.size, 0, none⟩), .bool true, Value.tuple #[enV y, .bool true], .slice A n c, .agg #[.int .i64 m.c, .int .i64 m.h, .int .i64 m.t, .int .i64 m.i, .int .i64 m.p], Value.tuple #[enV y, .bool true], enV y, .bool true, .bool true, .bool false, undef, .int .i64 p, .pointer (some ⟨w1.heap.size, 0, none⟩), .pointer (some ⟨w1.heap.size, 4, none⟩), .slice A n c, .pointer (some ⟨w1.heap.size, 0, none⟩), .agg #[.int .i64 y1.m.c, .int .i64 y1.m.h, .int .i64 y1.m.t, .int .i64 y1.m.i, .int .i64 y1.m.p], .int .i64 (-1), .bool false, undef, .slice A n c, .agg #[.int .i64 y1.m.c, .int .i64 y1.m.h, .int .i64 y1.m.t, .int .i64 y1.m.i, .int .i64 y1.m.p, .int .i64 y1.o, .int .i64 y1.k, .int .i64 y1.a, .int .i64 y1.b], .slice B31 (n + 1) c31, .pointer (some ⟨w1.heap.size, 0, none⟩), .agg #[.int .i64 y1.m.c, .int .i64 y1.m.h, .int .i64 y1.m.t, .int .i64 y1.m.i, .int .i64 y1.m.p]], []⟩ := act_ext hd hs (fun j hj => match j, hj with | 0, _ => (hlow 0 (by decide)).trans rfl | 1, _ => (hlow 1 (by decide)).trans rfl | 2, _ => (hlow 2 (by decide)).trans rfl | 3, _ => (hlow 3 (by decide)).trans rfl | 4, _ => (hlow 4 (by decide)).trans rfl | 5, _ => (hlow 5 (by decide)).trans rfl | 6, _ => hy6 | 7, _ => (hlow 7 (by decide)).trans rfl | 8, _ => (hlow 8 (by decide)).trans rfl | 9, _ => (hlow 9 (by decide)).trans rfl | 10, _ => (hlow 10 (by decide)).trans rfl | 11, _ => (hlow 11 (by decide)).trans rfl | 12, _ => (hlow 12 (by decide)).trans rfl | 13, _ => (hlow 13 (by decide)).trans rfl | 14, _ => (hlow 14 (by decide)).trans rfl | 15, _ => (hlow 15 (by decide)).trans rfl | 16, _ => (hlow 16 (by decide)).trans rfl | 17, _ => (hlow 17 (by decide)).trans rfl | 18, _ => (hlow 18 (by decide)).trans rfl | 19, _ => (hlow 19 (by decide)).trans rfl | 20, _ => (hlow 20 (by decide)).trans rfl | 21, _ => (hlow 21 (by decide)).trans rfl | 22, _ => (hlow 22 (by decide)).trans rfl | 23, _ => (hlow 23 (by decide)).trans rfl | 24, _ => (hlow 24 (by decide)).trans rfl | 25, _ => (hlow 25 (by decide)).trans rfl | 26, _ => (hlow 26 (by decide)).trans rfl | 27, _ => (hlow 27 (by decide)).trans rfl | 28, _ => (hlow 28 (by decide)).trans rfl | 29, _ => RgX.val_at (hok 0 29 _ (by decide) rfl rfl) | 30, _ => RgX.val_at (hok 1 30 _ (by decide) rfl rfl) | 31, _ => hy31 | 32, _ => RgX.val_at (hok 3 32 _ (by decide) rfl rfl) | 33, _ => RgX.val_at (hok 4 33 _ (by decide) rfl rfl) | n + 34, h => absurd h (by show ¬ n + 34 < 34; omega))
      clear hs hd hlow hok hy6 hy31
      have hm0 : MsB w3 (w.heap.size + 1) NM.m0 := hz3m.out w3 hS
      have HS3 := Lib.hid hS
      have s3 := hS.size
      have H6 := Lib.hid h6
      clear hS h6
      go_wp2_with (refine store_ms rfl _ _ rfl (w.heap.size + 1) _ y1.m hm0 rfl rfl ?_; intro w5 hm1 hm2 hm4)
      obtain ⟨r0, r1, r2, r3, r4⟩ := hm1.cells
      refine bodyPost_ret (v := .tuple #[.slice B6 (n + 1) c6, msV y1.m, .int .i64 0]) (by simp [results, Try.results20, go_sem, r0, r1, r2, r3, r4]) rfl ?_
      have hT := HCO.out
      rw [if_neg HD.out] at hT
      rw [hT]
      exact ⟨⟨B6, n + 1, c6, rfl, H6.out.1.keepLow hm4 H6.out.2 (by omega) hm2⟩, ((HB.out.trans (HB4.out.mono HB.out.size)).trans (HS3.out.mono (Nat.le_trans HB.out.size s4))).trans (hm4.mono (by omega))⟩
  · have hf : NW.has l m = false := by simpa using hh
    rw [hf, NW.find_none hf] at HFI
    have HCO := Lib.hid (NW.copy_none (NW.find_none hf) p)
    rw [HCO.out]
    clear hh hf
    go_upto_region 2 with (go_at_call 14; (with_reducible refine HFI.out.mono ?_); rintro e w1 ⟨rfl, hb1⟩; have HB1 := Lib.hid hb1; clear hb1)
    clear hU x0 x1 x2 x3 x4
    obtain ⟨Y, hY⟩ : ∃ Y, w1.alloc (.cells #[.int .i64 NW.z0.m.c, .int .i64 NW.z0.m.h, .int .i64 NW.z0.m.t, .int .i64 NW.z0.m.i, .int .i64 NW.z0.m.p, .int .i64 NW.z0.o, .int .i64 NW.z0.k, .int .i64 NW.z0.a, .int .i64 NW.z0.b] 28) = Y := ⟨_, rfl⟩
    rw [hY]
    have HBY := Lib.hid (show Below U.heap.size U Y from hY ▸ HB1.out.alloc HB1.out.size _)
    clear hY
    go_wp2_with (refine store_ms rfl _ _ rfl (w.heap.size + 1) _ NM.m0 (HZ.out.keep HBY.out) rfl rfl ?_; intro w4 hm1 hm2 hm4)
    obtain ⟨r0, r1, r2, r3, r4⟩ := hm1.cells
    refine bodyPost_ret (v := .tuple #[.slice none 0 0, msV NM.m0, .int .i64 3]) (by simp [results, Try.results20, go_sem, *]) rfl ?_
    exact ⟨⟨none, 0, 0, rfl, RS.Sl.nil _ _⟩, (HB.out.trans (HBY.out.mono HB.out.size)).trans (hm4.mono (by omega))⟩
end Go.Proofs.Ytepbppckhfiplaa
