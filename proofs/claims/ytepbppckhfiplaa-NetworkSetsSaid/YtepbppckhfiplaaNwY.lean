/-
  The program's Copy. Conditions: the set is sorted; the length.
-/
import Derived.Test.YtepbppckhfiplaaNwX
import Derived.Test.YtepbppckhfiplaaNwK
import Derived.Test.YtepbppckhfiplaaNwCp
import Derived.Deep.RegionLaw
namespace Go.Proofs.Ytepbppckhfiplaa
open Go Go.RowKit Go.Proofs
attribute [local go_sem] Oper.semAt_some

theorem setMs {V : World} {g : Nat} {m0 : NM.Ms} (h : MsB V g m0) (m : NM.Ms) : MsB (((((V.setCell ⟨g, 0, none⟩ (.int .i64 m.c)).setCell ⟨g, 1, none⟩ (.int .i64 m.h)).setCell ⟨g, 2, none⟩ (.int .i64 m.t)).setCell ⟨g, 3, none⟩ (.int .i64 m.i)).setCell ⟨g, 4, none⟩ (.int .i64 m.p)) g m ∧ Below g V (((((V.setCell ⟨g, 0, none⟩ (.int .i64 m.c)).setCell ⟨g, 1, none⟩ (.int .i64 m.h)).setCell ⟨g, 2, none⟩ (.int .i64 m.t)).setCell ⟨g, 3, none⟩ (.int .i64 m.i)).setCell ⟨g, 4, none⟩ (.int .i64 m.p)) ∧ ∀ b, b ≠ g → ((((((V.setCell ⟨g, 0, none⟩ (.int .i64 m.c)).setCell ⟨g, 1, none⟩ (.int .i64 m.h)).setCell ⟨g, 2, none⟩ (.int .i64 m.t)).setCell ⟨g, 3, none⟩ (.int .i64 m.i)).setCell ⟨g, 4, none⟩ (.int .i64 m.p))).heap[b]? = V.heap[b]? := by
  refine ⟨?_, (((((Below.refl g V).setCell (Nat.le_refl _) _).setCell (Nat.le_refl _) _).setCell (Nat.le_refl _) _).setCell (Nat.le_refl _) _).setCell (Nat.le_refl _) _, fun b hb => ?_⟩
  · unfold MsB at h ⊢
    simp only [World.setCell, Array.getElem?_modify]
    simp [h]
  · have hg : ¬ g = b := fun e => hb e.symm
    simp only [World.setCell, Array.getElem?_modify]
    simp [hg]
set_option maxHeartbeats 4000000 in
set_option maxRecDepth 100000 in
theorem copy_any {A : Option Addr} {n c : Nat} {l : List NW.En} (m : NM.Ms) (p : Int) (w : World) (h1 : Ens w A n c l) (hs : NW.Srt l) (bn : n ≤ 900) :
    Calls Try.prog 19 #[.slice A n c, msV m, .int .i64 p] w fun e w' => (∃ B q c', e = .returned (.tuple #[.slice B q c', msV (NW.copy l m p).2.1, .int .i64 (NW.copy l m p).1]) ∧ Ens w' B q c' (NW.copy l m p).2.2 ∧ ∀ b, B = some b → w.heap.size ≤ b.block) ∧ Below w.heap.size w w' := by
  obtain ⟨U, hU, hb, k1, k2, hlt⟩ := two_boxes w (.cells #[.int .i64 m.c, .int .i64 m.h, .int .i64 m.t, .int .i64 m.i, .int .i64 m.p] 26) (.cells #[.int .i64 0, .int .i64 0, .int .i64 0, .int .i64 0, .int .i64 0] 26)
  have hz : MsB U (w.heap.size + 1) NM.m0 := k2
  obtain ⟨x0, x1, x2, x3, x4⟩ := row5 k1
  have HB := Lib.hid hb
  have HZ := Lib.hid hz
  have HE := Lib.hid (h1.keep hb)
  have HFI := Lib.hid (find_any m U (h1.keep hb) hs (by omega))
  have HS := Lib.hid hs
  clear k1 k2 hb hz h1 hs
  go_enter Try.func19, Try.ntmps19
  by_cases hh : NW.has l m = true
  · obtain ⟨y, hy⟩ := NW.find_ex hh
    rw [hh, hy] at HFI
    obtain ⟨y1, hy1⟩ : ∃ z, NW.withP y p = z := ⟨_, rfl⟩
    have HW := Lib.hid hy1
    have HCO := Lib.hid (NW.copy_some hy p)
    rw [hy1] at HCO
    rw [HCO.out]
    clear hy hh hy1
    go_upto_region 2 with (go_at_call 13; (with_reducible refine HFI.out.mono ?_); rintro e w1 ⟨rfl, hb1⟩; have HB1 := Lib.hid hb1; clear hb1)
    obtain ⟨Y, hY⟩ : ∃ Y, w1.alloc (.cells #[.int .i64 y.m.c, .int .i64 y.m.h, .int .i64 y.m.t, .int .i64 y.m.i, .int .i64 y.m.p, .int .i64 y.o, .int .i64 y.k, .int .i64 y.a, .int .i64 y.b] 28) = Y := ⟨_, rfl⟩
    rw [hY]
    have hkY : EnB Y w1.heap.size y := by rw [← hY]; exact new_at rfl
    have hsY : U.heap.size ≤ w1.heap.size := HB1.out.size
    have HBY := Lib.hid (show Below U.heap.size U Y from hY ▸ HB1.out.alloc HB1.out.size _)
    have hlY : w1.heap.size < Y.heap.size := hkY.lt
    clear hU hY x0 x1 x2 x3 x4
    go_upto_region 5 with (refine store_copy rfl _ _ rfl w1.heap.size y p hkY rfl rfl ?_; intro w2 hs1 hs2 hs4)
    have hs5 : EnB w2 w1.heap.size y1 := by rw [← HW.out]; exact hs1
    have HB2 := Lib.hid (show Below U.heap.size U w2 from HBY.out.trans (hs4.mono hsY))
    have s2 := HB2.out.size
    have HA := Lib.hid (add_any y1 w2 (HE.out.keep HB2.out) HS.out (by omega))
    have HK2 := Lib.hid hs5
    obtain ⟨q0, q1, q2, q3, q4, q5, q6, q7, q8⟩ := hs5.cells
    clear hs1 hs2 hs4 hkY hs5
    go_upto_region 6 with (go_at_call 11; (with_reducible refine HA.out.mono ?_); rintro e w3 ⟨⟨B, q, c', rfl, hv, hlw⟩, hb3⟩; have HV := Lib.hid hv; have HB3 := Lib.hid hb3; clear hv hb3)
    have hz3 : MsB w3 (w.heap.size + 1) NM.m0 := (HZ.out.keep HB2.out).keep HB3.out
    have hk3 : EnB w3 w1.heap.size y1 := HK2.out.keep HB3.out
    clear q0 q1 q2 q3 q4 q5 q6 q7 q8
    by_cases hd : NW.has l y1.m = true
    · rw [hd] at HV ⊢
      simp only [if_true] at HV ⊢
      go_wp2_with (refine store_ms rfl _ _ rfl (w.heap.size + 1) _ NM.m0 hz3 rfl rfl ?_; intro w4 hm1 hm2 hm4)
      obtain ⟨r0, r1, r2, r3, r4⟩ := hm1.cells
      refine bodyPost_ret (v := .tuple #[.slice none 0 0, msV NM.m0, .int .i64 4]) (by simp [results, Try.results19, go_sem, *]) rfl ?_
      exact ⟨⟨none, 0, 0, rfl, RS.Sl.nil _ _, fun _ e => by cases e⟩, ((HB.out.trans (HB2.out.mono HB.out.size)).trans (HB3.out.mono (Nat.le_trans HB.out.size s2))).trans (hm4.mono (by omega))⟩
    · have hd2 : NW.has l y1.m = false := by simpa using hd
      rw [hd2] at HV ⊢
      simp only [Bool.false_eq_true, if_false] at HV ⊢
      obtain ⟨q0, q1, q2, q3, q4, q5, q6, q7, q8⟩ := hk3.cells
      have sm0 : U.heap.size ≤ w3.heap.size := Nat.le_trans s2 HB3.out.size
      obtain ⟨a0, a1, a2, a3, a4⟩ := hz3.cells
      have f0 := (by simp [World.frozen?, show w3.heap[w.heap.size + 1]? = _ from hz3] : w3.frozen? ⟨w.heap.size + 1, 0, none⟩ = false)
      go_upto_region 8 with (fail)
      have f1 := (by simp [World.frozen?, show w3.heap[w.heap.size + 1]? = _ from hz3] : w3.frozen? ⟨w.heap.size + 1, 1, none⟩ = false)
      have f2 := (by simp [World.frozen?, show w3.heap[w.heap.size + 1]? = _ from hz3] : w3.frozen? ⟨w.heap.size + 1, 2, none⟩ = false)
      have f3 := (by simp [World.frozen?, show w3.heap[w.heap.size + 1]? = _ from hz3] : w3.frozen? ⟨w.heap.size + 1, 3, none⟩ = false)
      have f4 := (by simp [World.frozen?, show w3.heap[w.heap.size + 1]? = _ from hz3] : w3.frozen? ⟨w.heap.size + 1, 4, none⟩ = false)
      obtain ⟨hm3, hbm3, hom3⟩ := setMs hz3 y1.m
      go_region
      obtain ⟨W4, hW4⟩ : ∃ W, (((((w3.setCell ⟨w.heap.size + 1, 0, none⟩ (.int .i64 y1.m.c)).setCell ⟨w.heap.size + 1, 1, none⟩ (.int .i64 y1.m.h)).setCell ⟨w.heap.size + 1, 2, none⟩ (.int .i64 y1.m.t)).setCell ⟨w.heap.size + 1, 3, none⟩ (.int .i64 y1.m.i)).setCell ⟨w.heap.size + 1, 4, none⟩ (.int .i64 y1.m.p)) = W := ⟨_, rfl⟩
      rw [hW4] at hm3 hbm3 hom3 ⊢
      clear hW4 q0 q1 q2 q3 q4 q5 q6 q7 q8 a0 a1 a2 a3 a4 f0 f1 f2 f3 f4
      have ho5 : ∀ b, b ≠ w.heap.size + 1 → W4.drew.heap[b]? = w3.heap[b]? := hom3
      have hm5 : MsB W4.drew (w.heap.size + 1) y1.m := hm3
      have hbm5 : Below (w.heap.size + 1) w3 W4.drew := hbm3.drew
      obtain ⟨W5, hW5⟩ : ∃ W, W = W4.drew := ⟨_, rfl⟩
      rw [← hW5] at hm5 hbm5 ho5 ⊢
      obtain ⟨r0, r1, r2, r3, r4⟩ := hm5.cells
      clear hW5
      go_wp2_with fail
      refine bodyPost_ret (v := .tuple #[.slice B q c', msV y1.m, .int .i64 0]) (by simp [results, Try.results19, go_sem, *]) rfl ?_
      exact ⟨⟨B, q, c', rfl, HV.out.keepLow hbm5 hlw (by omega) ho5, fun b e => Nat.le_trans HB.out.size (Nat.le_trans s2 (hlw b e))⟩, ((HB.out.trans (HB2.out.mono HB.out.size)).trans (HB3.out.mono (Nat.le_trans HB.out.size s2))).trans (hbm5.mono (by omega))⟩
  · have hf : NW.has l m = false := by simpa using hh
    rw [hf, NW.find_none hf] at HFI
    have HCO := Lib.hid (NW.copy_none (NW.find_none hf) p)
    rw [HCO.out]
    clear hh hf
    go_upto_region 2 with (go_at_call 13; (with_reducible refine HFI.out.mono ?_); rintro e w1 ⟨rfl, hb1⟩; have HB1 := Lib.hid hb1; clear hb1)
    clear hU x0 x1 x2 x3 x4
    obtain ⟨Y, hY⟩ : ∃ Y, w1.alloc (.cells #[.int .i64 NW.z0.m.c, .int .i64 NW.z0.m.h, .int .i64 NW.z0.m.t, .int .i64 NW.z0.m.i, .int .i64 NW.z0.m.p, .int .i64 NW.z0.o, .int .i64 NW.z0.k, .int .i64 NW.z0.a, .int .i64 NW.z0.b] 28) = Y := ⟨_, rfl⟩
    rw [hY]
    have HBY := Lib.hid (show Below U.heap.size U Y from hY ▸ HB1.out.alloc HB1.out.size _)
    clear hY
    go_wp2_with (refine store_ms rfl _ _ rfl (w.heap.size + 1) _ NM.m0 (HZ.out.keep HBY.out) rfl rfl ?_; intro w4 hm1 hm2 hm4)
    obtain ⟨r0, r1, r2, r3, r4⟩ := hm1.cells
    refine bodyPost_ret (v := .tuple #[.slice none 0 0, msV NM.m0, .int .i64 3]) (by simp [results, Try.results19, go_sem, *]) rfl ?_
    exact ⟨⟨none, 0, 0, rfl, RS.Sl.nil _ _, fun _ e => by cases e⟩, (HB.out.trans (HBY.out.mono HB.out.size)).trans (hm4.mono (by omega))⟩
end Go.Proofs.Ytepbppckhfiplaa
