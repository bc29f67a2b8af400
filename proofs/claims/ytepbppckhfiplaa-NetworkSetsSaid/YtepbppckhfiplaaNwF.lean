/-
  The reference's Find and Add. Conditions: the set is sorted; the length.
-/
import Derived.Test.YtepbppckhfiplaaNwA
import Derived.Test.YtepbppckhfiplaaNwP
namespace Go.Proofs.Ytepbppckhfiplaa
open Go Go.RowKit Go.Proofs
attribute [local go_sem] Oper.semAt_some

set_option maxHeartbeats 4000000 in
set_option maxRecDepth 100000 in
theorem refFind_any {A : Option Addr} {n c : Nat} {l : List NW.En} (m : NM.Ms) (w : World) (h1 : Ens w A n c l) (hs : NW.Srt l) (bn : n ≤ 1000) :
    Calls Try.prog 14 #[.slice A n c, msV m] w fun e w' => e = .returned (.tuple #[enV ((NW.find l m).getD NW.z0), .bool (NW.has l m)]) ∧ Below w.heap.size w w' := by
  obtain ⟨U, hU, hb, k1, k2, hlt⟩ := two_boxes w (.cells #[.int .i64 m.c, .int .i64 m.h, .int .i64 m.t, .int .i64 m.i, .int .i64 m.p] 26) (.cells #[.int .i64 0, .int .i64 0, .int .i64 0, .int .i64 0, .int .i64 0, .int .i64 0, .int .i64 0, .int .i64 0, .int .i64 0] 28)
  have hz : EnB U (w.heap.size + 1) NW.z0 := k2
  obtain ⟨x0, x1, x2, x3, x4⟩ := row5 k1
  have HB := Lib.hid hb
  have HZ := Lib.hid hz
  have HE := Lib.hid (h1.keep hb)
  have HA := Lib.hid (refAt_any m U (h1.keep hb) (by omega))
  have HS := Lib.hid hs
  have HN := Lib.hid h1.len
  clear k1 k2 hb hz h1 hs
  go_enter Try.func14, Try.ntmps14
  by_cases hh : NW.has l m = true
  · obtain ⟨k, x, hk, hx, hf⟩ := NW.idx_find HS.out hh
    rw [hk] at HA
    rw [hh, hf]
    have hkn : k < n := by have := (List.getElem?_eq_some_iff.1 hx).1; have := HN.out; omega
    have HXX := Lib.hid hx
    clear hk hx hf hh HS
    have dk : decide ((k : Int) < 0) = false := decide_eq_false (by omega)
    go_wp2_with (first
      | (go_at_call 29; (with_reducible refine HA.out.mono ?_); rintro e w1 ⟨rfl, hb1⟩; have HB1 := Lib.hid hb1; clear hb1; obtain ⟨g, hg, hgl, p0, p1, p2, p3, p4, p5, p6, p7, p8⟩ := en_at (HE.out.keep HB1.out) HXX.out; subst hg)
      | (refine store_en rfl _ _ rfl (w.heap.size + 1) _ x (HZ.out.keep HB1.out) rfl rfl ?_; intro w2 hs1 hs2 hs4))
    obtain ⟨q0, q1, q2, q3, q4, q5, q6, q7, q8⟩ := hs1.cells
    refine bodyPost_ret (v := .tuple #[enV x, .bool true]) (by simp [results, Try.results14, go_sem, *]) rfl ⟨rfl, (HB.out.trans (HB1.out.mono HB.out.size)).trans (hs4.mono (by omega))⟩
  · have hf : NW.has l m = false := by simpa using hh
    rw [NW.idx_no hf] at HA
    rw [hf, NW.find_none hf]
    clear hh hf HS
    go_wp2_with (first
      | (go_at_call 29; (with_reducible refine HA.out.mono ?_); rintro e w1 ⟨rfl, hb1⟩; have HB1 := Lib.hid hb1; clear hb1)
      | (refine store_en rfl _ _ rfl (w.heap.size + 1) _ NW.z0 (HZ.out.keep HB1.out) rfl rfl ?_; intro w2 hs1 hs2 hs4))
    obtain ⟨q0, q1, q2, q3, q4, q5, q6, q7, q8⟩ := hs1.cells
    refine bodyPost_ret (v := .tuple #[enV NW.z0, .bool false]) (by simp [results, Try.results14, go_sem, *]) rfl ⟨rfl, (HB.out.trans (HB1.out.mono HB.out.size)).trans (hs4.mono (by omega))⟩
set_option maxHeartbeats 4000000 in
set_option maxRecDepth 100000 in
theorem refAdd_any {A : Option Addr} {n c : Nat} {l : List NW.En} (a : NW.En) (w : World) (h1 : Ens w A n c l) (bn : n ≤ 1000) :
    Calls Try.prog 12 #[.slice A n c, enV a] w fun e w' => (∃ B q c', e = .returned (.tuple #[.slice B q c', .int .i64 (if NW.has l a.m then 4 else 0)]) ∧ Ens w' B q c' (if NW.has l a.m then [] else NW.put l a)) ∧ Below w.heap.size w w' := by
  obtain ⟨U, hU⟩ : ∃ U, w.alloc (.cells #[.int .i64 a.m.c, .int .i64 a.m.h, .int .i64 a.m.t, .int .i64 a.m.i, .int .i64 a.m.p, .int .i64 a.o, .int .i64 a.k, .int .i64 a.a, .int .i64 a.b] 28) = U := ⟨_, rfl⟩
  have hb : Below w.heap.size w U := hU ▸ one_box w _
  have k1 : EnB U w.heap.size a := by rw [← hU]; exact new_at rfl
  obtain ⟨x0, x1, x2, x3, x4, x5, x6, x7, x8⟩ := k1.cells
  have HK := Lib.hid k1
  have HB := Lib.hid hb
  have HE := Lib.hid (h1.keep hb)
  have HA := Lib.hid (refAt_any a.m U (h1.keep hb) (by omega))
  clear k1 hb h1
  go_enter Try.func12, Try.ntmps12
  by_cases hh : NW.has l a.m = true
  · obtain ⟨k, hk⟩ : ∃ k : Nat, NW.idx l a.m = (k : Int) := ⟨NW.idxN l a.m, by unfold NW.idx; rw [if_pos hh]⟩
    rw [hk] at HA
    rw [if_pos hh, if_pos hh]
    clear hk hh
    have dk : decide ((k : Int) ≥ 0) = true := decide_eq_true (by omega)
    go_wp2_with (go_at_call 29; (with_reducible refine HA.out.mono ?_); rintro e w1 ⟨rfl, hb1⟩; have HB1 := Lib.hid hb1; clear hb1)
    refine bodyPost_ret (v := .tuple #[.slice none 0 0, .int .i64 4]) (by simp [results, Try.results12, go_sem]) rfl ?_
    exact ⟨⟨none, 0, 0, rfl, RS.Sl.nil _ _⟩, HB.out.trans (HB1.out.mono HB.out.size)⟩
  · have hf : NW.has l a.m = false := by simpa using hh
    rw [NW.idx_no hf] at HA
    rw [hf]
    clear hh hf
    go_wp2_with (first
      | (go_at_call 29; (with_reducible refine HA.out.mono ?_); rintro e w1 ⟨rfl, hb1⟩; have HB1 := Lib.hid hb1; clear hb1; obtain ⟨q0, q1, q2, q3, q4, q5, q6, q7, q8⟩ := (HK.out.keep HB1.out).cells)
      | (go_at_call 30; refine (put_any a _ (HE.out.keep HB1.out) (by omega)).mono ?_; rintro e w2 ⟨⟨v, rfl, hv⟩, hb2⟩; obtain ⟨B, c', rfl, hv, _⟩ := hv; have HV := Lib.hid hv; have HB2 := Lib.hid hb2; clear hv hb2))
    refine bodyPost_ret (v := .tuple #[.slice B (n + 1) c', .int .i64 0]) (by simp [results, Try.results12, go_sem]) rfl ?_
    exact ⟨⟨B, n + 1, c', rfl, HV.out⟩, (HB.out.trans (HB1.out.mono HB.out.size)).trans (HB2.out.mono (Nat.le_trans HB.out.size HB1.out.size))⟩
end Go.Proofs.Ytepbppckhfiplaa
