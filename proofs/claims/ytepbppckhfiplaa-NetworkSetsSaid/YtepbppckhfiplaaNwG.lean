/-
  The reference's generators of names and envelopes. Condition: the number is Go's.
-/
import Derived.Test.YtepbppckhfiplaaNwQ
import Derived.Test.YtepbppckhfiplaaAround
import Derived.Test.YtepbppckhfiplaaNwW
namespace Go.Proofs.Ytepbppckhfiplaa
open Go Go.RowKit Go.Proofs
attribute [local go_sem] Oper.semAt_some

set_option maxHeartbeats 4000000 in
set_option maxRecDepth 100000 in
theorem msOf_any (n : Int) (hn : I64 n) (w : World) : Calls Try.prog 26 #[.int .i64 n] w fun e w' => e = .returned (msV (NW.msOf (NM.arI n 100000))) ∧ Below w.heap.size w w' := by
  have HA := Lib.hid (fun V => around_any n 100000 hn (by omega) (by omega) V)
  have hk := NM.arI_in n 100000 (by omega)
  obtain ⟨k, hkk⟩ : ∃ k, NM.arI n 100000 = k := ⟨_, rfl⟩
  have hkk' : around n 100000 = k := hkk
  rw [hkk]
  rw [hkk'] at HA
  rw [hkk] at hk
  obtain ⟨k0, k1⟩ := hk
  clear hkk hkk' hn
  go_enter Try.func26, Try.ntmps26
  go_wp2_with (go_at_call 18; (with_reducible refine (HA.out _).mono ?_); rintro e w1 ⟨rfl, rfl⟩)
  exact bodyPost_ret (v := msV (NW.msOf k)) (by simp [results, Try.results26, go_sem, NW.msOf]) rfl ⟨rfl, one_box _ _⟩
set_option maxHeartbeats 4000000 in
set_option maxRecDepth 100000 in
theorem enOf_any (n : Int) (hn : I64 n) (w : World) : Calls Try.prog 10 #[.int .i64 n] w fun e w' => e = .returned (enV (NW.enOf (NM.arI n 100000))) ∧ Below w.heap.size w w' := by
  have HA := Lib.hid (fun V => around_any n 100000 hn (by omega) (by omega) V)
  have HM := Lib.hid (fun V => msOf_any n hn V)
  have hk := NM.arI_in n 100000 (by omega)
  obtain ⟨k, hkk⟩ : ∃ k, NM.arI n 100000 = k := ⟨_, rfl⟩
  have hkk' : around n 100000 = k := hkk
  rw [hkk] at HM ⊢
  rw [hkk'] at HA
  rw [hkk] at hk
  obtain ⟨k0, k1⟩ := hk
  clear hkk hkk' hn
  obtain ⟨U, hU⟩ : ∃ U, w.alloc (.cells #[.int .i64 0, .int .i64 0, .int .i64 0, .int .i64 0, .int .i64 0, .int .i64 0, .int .i64 0, .int .i64 0, .int .i64 0] 28) = U := ⟨_, rfl⟩
  have hb : Below w.heap.size w U := hU ▸ one_box w _
  have hg : EnB U w.heap.size NW.z0 := by rw [← hU]; exact new_at rfl
  have HG := Lib.hid hg
  have HB := Lib.hid hb
  clear hg hb
  obtain ⟨mc, mh, mt, mi, mp, hm⟩ : ∃ c h t i p, NW.msOf k = ⟨c, h, t, i, p⟩ := ⟨_, _, _, _, _, rfl⟩
  have HE : Hid (NW.enOf k = ⟨⟨mc, mh, mt, mi, mp⟩, k / 72 % 4, k / 288 % 3, k % 17, k % 19⟩) := Lib.hid (by unfold NW.enOf; rw [hm])
  rw [hm] at HM
  clear hm
  go_enter Try.func10, Try.ntmps10
  go_wp2_with (first
    | (go_at_call 18; (with_reducible refine (HA.out _).mono ?_); rintro e w1 ⟨rfl, rfl⟩)
    | fail)
  clear hU
  refine (HM.out _).mono ?_
  rintro e w2 ⟨rfl, hb2⟩
  have hg2 := HG.out.keep hb2
  have HG2 := Lib.hid hg2
  have HB2 := Lib.hid (HB.out.trans (hb2.mono HB.out.size))
  clear hb2 hg2 HG HB HA HM
  go_wp2_with (refine store_en rfl _ _ rfl w.heap.size _ ⟨⟨mc, mh, mt, mi, mp⟩, k / 72 % 4, k / 288 % 3, k % 17, k % 19⟩ HG2.out rfl rfl ?_; intro w3 hs1 hs2 hs4)
  obtain ⟨p0, p1, p2, p3, p4, p5, p6, p7, p8⟩ := hs1.cells
  rw [HE.out]
  exact bodyPost_ret (v := enV ⟨⟨mc, mh, mt, mi, mp⟩, k / 72 % 4, k / 288 % 3, k % 17, k % 19⟩) (by simp [results, Try.results10, go_sem, *]) rfl ⟨rfl, HB2.out.trans hs4⟩
end Go.Proofs.Ytepbppckhfiplaa
