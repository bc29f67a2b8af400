/-
  Parsing of texts of events and questions. Conditions: the listed tables and variables stand (TN); the text has at most 1000 bytes.
-/
import Derived.Test.YtggallpnbbidfaaGreatDoorNmV
import Derived.Test.YtggallpnbbidfaaGreatDoorNmY
import Derived.Test.YtggallpnbbidfaaGreatDoorNmZ
namespace Go.Proofs.YtggallpnbbidfaaGreatDoor
open Go Go.RowKit Go.Proofs
attribute [local go_sem] Oper.semAt_some

set_option maxRecDepth 100000 in
set_option maxHeartbeats 8000000 in
theorem parE_bad0 (S : ByteArray) (rk rn ra rc rh rt ri rp : Int) (w : World) (hs : S.toList.isEmpty = true)
    (HG : Hid (∀ V, Below w.heap.size w V → Calls Tryz.prog 44 #[.string S] V fun e w' => e = .returned (.agg #[.int .i64 rk, .int .i64 rn, .int .i64 ra, .int .i64 rc, .int .i64 rh, .int .i64 rt, .int .i64 ri, .int .i64 rp]) ∧ Below V.heap.size V w')) :
    Calls Tryz.prog 43 #[.string S, .func (.func 44) #[] #[], .func (.func 13) #[] #[]] w fun e w' => e = .returned (.tuple #[.agg #[.int .i64 0, .int .i64 0, .int .i64 0, .int .i64 0, .int .i64 0, .int .i64 0, .int .i64 0, .int .i64 0], .int .i64 8]) ∧ Below w.heap.size w w' := by
  obtain ⟨W0, hW0⟩ : ∃ U, w.alloc (.cells #[.int .i64 0, .int .i64 0, .int .i64 0, .int .i64 0, .int .i64 0, .int .i64 0, .int .i64 0, .int .i64 0] 28) = U := ⟨_, rfl⟩
  have hb0 : Below w.heap.size w W0 := hW0 ▸ one_box w _
  have k0 : W0.heap[w.heap.size]? = some (.cells #[.int .i64 0, .int .i64 0, .int .i64 0, .int .i64 0, .int .i64 0, .int .i64 0, .int .i64 0, .int .i64 0] 28 (0, 0)) := by rw [← hW0]; exact new_at rfl
  have HB0 := Lib.hid hb0
  have HK0 := Lib.hid k0
  clear hb0 k0
  go_enter Tryz.func43, Tryz.ntmps43
  go_wp2_with fail
  clear hW0
  refine (HG.out _ HB0.out).mono ?_
  rintro e w1 ⟨rfl, hb1⟩
  obtain ⟨U, hU⟩ : ∃ U, w1.alloc (.cells #[.int .i64 rk, .int .i64 rn, .int .i64 ra, .int .i64 rc, .int .i64 rh, .int .i64 rt, .int .i64 ri, .int .i64 rp] 28) = U := ⟨_, rfl⟩
  have hbU : Below w1.heap.size w1 U := hU ▸ one_box w1 _
  have h01 := heap_lt HK0.out
  have h12 : w.heap.size < w1.heap.size := Nat.lt_of_lt_of_le h01 hb1.size
  have kN : U.heap[w1.heap.size]? = some (.cells #[.int .i64 rk, .int .i64 rn, .int .i64 ra, .int .i64 rc, .int .i64 rh, .int .i64 rt, .int .i64 ri, .int .i64 rp] 28 (0, 0)) := by rw [← hU]; exact new_at rfl
  have hNU := heap_lt kN
  have kR := (hbU.block _ h12).trans ((hb1.block _ h01).trans HK0.out)
  have HKR := Lib.hid (fun (V : World) (hV : Below U.heap.size U V) => (hV.block w.heap.size (by omega)).trans kR)
  have HKN := Lib.hid (fun (V : World) (hV : Below U.heap.size U V) => (hV.block w1.heap.size hNU).trans kN)
  have HB := Lib.hid (HB0.out.trans ((hb1.trans (hbU.mono hb1.size)).mono HB0.out.size))
  have hUw : w.heap.size ≤ U.heap.size := by omega
  obtain ⟨d0, d1, d2, d3, d4, d5, d6, d7⟩ := row8 kN
  clear hb1 hbU kN kR HG HB0 HK0
  obtain ⟨W6, hW6⟩ : ∃ M, U.alloc (.cells #[.int .i64 0, .int .i64 0, .int .i64 0, .int .i64 0, .int .i64 0, .int .i64 0, .int .i64 0, .int .i64 0] 28) = M := ⟨_, rfl⟩
  have hb6 : Below U.heap.size U W6 := hW6 ▸ one_box U _
  have h6 : Below U.heap.size U W6 := hb6
  have k9 : W6.heap[U.heap.size]? = some (.cells #[.int .i64 0, .int .i64 0, .int .i64 0, .int .i64 0, .int .i64 0, .int .i64 0, .int .i64 0, .int .i64 0] 28 (0, 0)) := by rw [← hW6]; exact new_at rfl
  obtain ⟨z0, z1, z2, z3, z4, z5, z6, z7⟩ := row8 k9
  have k6 := HKR.out W6 h6
  obtain ⟨q0, q1, q2, q3, q4, q5, q6, q7⟩ := row8 k6
  have f0 := froz k6 0
  have f1 := froz k6 1
  have f2 := froz k6 2
  have f3 := froz k6 3
  have f4 := froz k6 4
  have f5 := froz k6 5
  have f6 := froz k6 6
  have f7 := froz k6 7
  obtain ⟨s8, b8⟩ := set8 k6 0 0 0 0 0 0 0 0
  have HB6 := Lib.hid (HB.out.trans ((h6.mono hUw).trans b8))
  have HS8 := Lib.hid s8
  clear s8 b8 h6 hb6 k6 k9
  go_wp2_with fail
  clear hW6 z0 z1 z2 z3 z4 z5 z6 z7 hU
  clear q0 q1 q2 q3 q4 q5 q6 q7 f0 f1 f2 f3 f4 f5 f6 f7
  obtain ⟨q0, q1, q2, q3, q4, q5, q6, q7⟩ := row8 HS8.out
  obtain ⟨V8, hV8⟩ : ∃ V, ((((((((W6.setCell ⟨w.heap.size, 0, none⟩ (.int .i64 0)).setCell ⟨w.heap.size, 1, none⟩ (.int .i64 0)).setCell ⟨w.heap.size, 2, none⟩ (.int .i64 0)).setCell ⟨w.heap.size, 3, none⟩ (.int .i64 0)).setCell ⟨w.heap.size, 4, none⟩ (.int .i64 0)).setCell ⟨w.heap.size, 5, none⟩ (.int .i64 0)).setCell ⟨w.heap.size, 6, none⟩ (.int .i64 0)).setCell ⟨w.heap.size, 7, none⟩ (.int .i64 0)) = V := ⟨_, rfl⟩
  rw [hV8] at HB6 q0 q1 q2 q3 q4 q5 q6 q7 ⊢
  exact bodyPost_ret (v := .tuple #[.agg #[.int .i64 0, .int .i64 0, .int .i64 0, .int .i64 0, .int .i64 0, .int .i64 0, .int .i64 0, .int .i64 0], .int .i64 8]) (by simp [results, Tryz.results43, go_sem, *]) rfl ⟨rfl, HB6.out⟩
set_option maxRecDepth 100000 in
set_option maxHeartbeats 8000000 in
theorem parE_bad1 (S X : ByteArray) (rk rn ra rc rh rt ri rp : Int) (w : World) (hs : S.toList.isEmpty = false) (hx : (X.toList == S.toList) = false)
    (HG : Hid (∀ V, Below w.heap.size w V → Calls Tryz.prog 44 #[.string S] V fun e w' => e = .returned (.agg #[.int .i64 rk, .int .i64 rn, .int .i64 ra, .int .i64 rc, .int .i64 rh, .int .i64 rt, .int .i64 ri, .int .i64 rp]) ∧ Below V.heap.size V w'))
    (HT : Hid (∀ V, Below w.heap.size w V → Calls Tryz.prog 13 #[.agg #[.int .i64 rk, .int .i64 rn, .int .i64 ra, .int .i64 rc, .int .i64 rh, .int .i64 rt, .int .i64 ri, .int .i64 rp]] V fun e w' => e = .returned (.string X) ∧ Below V.heap.size V w')) :
    Calls Tryz.prog 43 #[.string S, .func (.func 44) #[] #[], .func (.func 13) #[] #[]] w fun e w' => e = .returned (.tuple #[.agg #[.int .i64 0, .int .i64 0, .int .i64 0, .int .i64 0, .int .i64 0, .int .i64 0, .int .i64 0, .int .i64 0], .int .i64 8]) ∧ Below w.heap.size w w' := by
  obtain ⟨W0, hW0⟩ : ∃ U, w.alloc (.cells #[.int .i64 0, .int .i64 0, .int .i64 0, .int .i64 0, .int .i64 0, .int .i64 0, .int .i64 0, .int .i64 0] 28) = U := ⟨_, rfl⟩
  have hb0 : Below w.heap.size w W0 := hW0 ▸ one_box w _
  have k0 : W0.heap[w.heap.size]? = some (.cells #[.int .i64 0, .int .i64 0, .int .i64 0, .int .i64 0, .int .i64 0, .int .i64 0, .int .i64 0, .int .i64 0] 28 (0, 0)) := by rw [← hW0]; exact new_at rfl
  have HB0 := Lib.hid hb0
  have HK0 := Lib.hid k0
  clear hb0 k0
  go_enter Tryz.func43, Tryz.ntmps43
  go_wp2_with fail
  clear hW0
  refine (HG.out _ HB0.out).mono ?_
  rintro e w1 ⟨rfl, hb1⟩
  obtain ⟨U, hU⟩ : ∃ U, w1.alloc (.cells #[.int .i64 rk, .int .i64 rn, .int .i64 ra, .int .i64 rc, .int .i64 rh, .int .i64 rt, .int .i64 ri, .int .i64 rp] 28) = U := ⟨_, rfl⟩
  have hbU : Below w1.heap.size w1 U := hU ▸ one_box w1 _
  have h01 := heap_lt HK0.out
  have h12 : w.heap.size < w1.heap.size := Nat.lt_of_lt_of_le h01 hb1.size
  have kN : U.heap[w1.heap.size]? = some (.cells #[.int .i64 rk, .int .i64 rn, .int .i64 ra, .int .i64 rc, .int .i64 rh, .int .i64 rt, .int .i64 ri, .int .i64 rp] 28 (0, 0)) := by rw [← hU]; exact new_at rfl
  have hNU := heap_lt kN
  have kR := (hbU.block _ h12).trans ((hb1.block _ h01).trans HK0.out)
  have HKR := Lib.hid (fun (V : World) (hV : Below U.heap.size U V) => (hV.block w.heap.size (by omega)).trans kR)
  have HKN := Lib.hid (fun (V : World) (hV : Below U.heap.size U V) => (hV.block w1.heap.size hNU).trans kN)
  have HB := Lib.hid (HB0.out.trans ((hb1.trans (hbU.mono hb1.size)).mono HB0.out.size))
  have hUw : w.heap.size ≤ U.heap.size := by omega
  obtain ⟨d0, d1, d2, d3, d4, d5, d6, d7⟩ := row8 kN
  clear hb1 hbU kN kR HG HB0 HK0
  go_wp2_with fail
  clear hU
  refine (HT.out _ HB.out).mono ?_
  rintro e w5 ⟨rfl, hb5⟩
  clear HT
  obtain ⟨W6, hW6⟩ : ∃ M, w5.alloc (.cells #[.int .i64 0, .int .i64 0, .int .i64 0, .int .i64 0, .int .i64 0, .int .i64 0, .int .i64 0, .int .i64 0] 28) = M := ⟨_, rfl⟩
  have hb6 : Below w5.heap.size w5 W6 := hW6 ▸ one_box w5 _
  have h6 : Below U.heap.size U W6 := hb5.trans (hb6.mono hb5.size)
  have k9 : W6.heap[w5.heap.size]? = some (.cells #[.int .i64 0, .int .i64 0, .int .i64 0, .int .i64 0, .int .i64 0, .int .i64 0, .int .i64 0, .int .i64 0] 28 (0, 0)) := by rw [← hW6]; exact new_at rfl
  obtain ⟨z0, z1, z2, z3, z4, z5, z6, z7⟩ := row8 k9
  have k6 := HKR.out W6 h6
  obtain ⟨q0, q1, q2, q3, q4, q5, q6, q7⟩ := row8 k6
  have f0 := froz k6 0
  have f1 := froz k6 1
  have f2 := froz k6 2
  have f3 := froz k6 3
  have f4 := froz k6 4
  have f5 := froz k6 5
  have f6 := froz k6 6
  have f7 := froz k6 7
  obtain ⟨s8, b8⟩ := set8 k6 0 0 0 0 0 0 0 0
  have HB6 := Lib.hid (HB.out.trans ((h6.mono hUw).trans b8))
  have HS8 := Lib.hid s8
  clear s8 b8 h6 hb6 k6 k9 hb5
  go_wp2_with fail
  clear hW6 z0 z1 z2 z3 z4 z5 z6 z7
  clear q0 q1 q2 q3 q4 q5 q6 q7 f0 f1 f2 f3 f4 f5 f6 f7
  obtain ⟨q0, q1, q2, q3, q4, q5, q6, q7⟩ := row8 HS8.out
  obtain ⟨V8, hV8⟩ : ∃ V, ((((((((W6.setCell ⟨w.heap.size, 0, none⟩ (.int .i64 0)).setCell ⟨w.heap.size, 1, none⟩ (.int .i64 0)).setCell ⟨w.heap.size, 2, none⟩ (.int .i64 0)).setCell ⟨w.heap.size, 3, none⟩ (.int .i64 0)).setCell ⟨w.heap.size, 4, none⟩ (.int .i64 0)).setCell ⟨w.heap.size, 5, none⟩ (.int .i64 0)).setCell ⟨w.heap.size, 6, none⟩ (.int .i64 0)).setCell ⟨w.heap.size, 7, none⟩ (.int .i64 0)) = V := ⟨_, rfl⟩
  rw [hV8] at HB6 q0 q1 q2 q3 q4 q5 q6 q7 ⊢
  exact bodyPost_ret (v := .tuple #[.agg #[.int .i64 0, .int .i64 0, .int .i64 0, .int .i64 0, .int .i64 0, .int .i64 0, .int .i64 0, .int .i64 0], .int .i64 8]) (by simp [results, Tryz.results43, go_sem, *]) rfl ⟨rfl, HB6.out⟩
set_option maxRecDepth 100000 in
set_option maxHeartbeats 8000000 in
theorem parE_good (S X : ByteArray) (rk rn ra rc rh rt ri rp : Int) (w : World) (hs : S.toList.isEmpty = false) (hx : X.toList = S.toList)
    (HG : Hid (∀ V, Below w.heap.size w V → Calls Tryz.prog 44 #[.string S] V fun e w' => e = .returned (.agg #[.int .i64 rk, .int .i64 rn, .int .i64 ra, .int .i64 rc, .int .i64 rh, .int .i64 rt, .int .i64 ri, .int .i64 rp]) ∧ Below V.heap.size V w'))
    (HT : Hid (∀ V, Below w.heap.size w V → Calls Tryz.prog 13 #[.agg #[.int .i64 rk, .int .i64 rn, .int .i64 ra, .int .i64 rc, .int .i64 rh, .int .i64 rt, .int .i64 ri, .int .i64 rp]] V fun e w' => e = .returned (.string X) ∧ Below V.heap.size V w')) :
    Calls Tryz.prog 43 #[.string S, .func (.func 44) #[] #[], .func (.func 13) #[] #[]] w fun e w' => e = .returned (.tuple #[.agg #[.int .i64 rk, .int .i64 rn, .int .i64 ra, .int .i64 rc, .int .i64 rh, .int .i64 rt, .int .i64 ri, .int .i64 rp], .int .i64 0]) ∧ Below w.heap.size w w' := by
  obtain ⟨W0, hW0⟩ : ∃ U, w.alloc (.cells #[.int .i64 0, .int .i64 0, .int .i64 0, .int .i64 0, .int .i64 0, .int .i64 0, .int .i64 0, .int .i64 0] 28) = U := ⟨_, rfl⟩
  have hb0 : Below w.heap.size w W0 := hW0 ▸ one_box w _
  have k0 : W0.heap[w.heap.size]? = some (.cells #[.int .i64 0, .int .i64 0, .int .i64 0, .int .i64 0, .int .i64 0, .int .i64 0, .int .i64 0, .int .i64 0] 28 (0, 0)) := by rw [← hW0]; exact new_at rfl
  have HB0 := Lib.hid hb0
  have HK0 := Lib.hid k0
  clear hb0 k0
  go_enter Tryz.func43, Tryz.ntmps43
  go_wp2_with fail
  clear hW0
  refine (HG.out _ HB0.out).mono ?_
  rintro e w1 ⟨rfl, hb1⟩
  obtain ⟨U, hU⟩ : ∃ U, w1.alloc (.cells #[.int .i64 rk, .int .i64 rn, .int .i64 ra, .int .i64 rc, .int .i64 rh, .int .i64 rt, .int .i64 ri, .int .i64 rp] 28) = U := ⟨_, rfl⟩
  have hbU : Below w1.heap.size w1 U := hU ▸ one_box w1 _
  have h01 := heap_lt HK0.out
  have h12 : w.heap.size < w1.heap.size := Nat.lt_of_lt_of_le h01 hb1.size
  have kN : U.heap[w1.heap.size]? = some (.cells #[.int .i64 rk, .int .i64 rn, .int .i64 ra, .int .i64 rc, .int .i64 rh, .int .i64 rt, .int .i64 ri, .int .i64 rp] 28 (0, 0)) := by rw [← hU]; exact new_at rfl
  have hNU := heap_lt kN
  have kR := (hbU.block _ h12).trans ((hb1.block _ h01).trans HK0.out)
  have HKR := Lib.hid (fun (V : World) (hV : Below U.heap.size U V) => (hV.block w.heap.size (by omega)).trans kR)
  have HKN := Lib.hid (fun (V : World) (hV : Below U.heap.size U V) => (hV.block w1.heap.size hNU).trans kN)
  have HB := Lib.hid (HB0.out.trans ((hb1.trans (hbU.mono hb1.size)).mono HB0.out.size))
  have hUw : w.heap.size ≤ U.heap.size := by omega
  obtain ⟨d0, d1, d2, d3, d4, d5, d6, d7⟩ := row8 kN
  clear hb1 hbU kN kR HG HB0 HK0
  go_wp2_with fail
  clear hU
  refine (HT.out _ HB.out).mono ?_
  rintro e w5 ⟨rfl, hb5⟩
  clear HT d0 d1 d2 d3 d4 d5 d6 d7
  obtain ⟨d0, d1, d2, d3, d4, d5, d6, d7⟩ := row8 (HKN.out w5 hb5)
  have k6 := HKR.out w5 hb5
  obtain ⟨q0, q1, q2, q3, q4, q5, q6, q7⟩ := row8 k6
  have f0 := froz k6 0
  have f1 := froz k6 1
  have f2 := froz k6 2
  have f3 := froz k6 3
  have f4 := froz k6 4
  have f5 := froz k6 5
  have f6 := froz k6 6
  have f7 := froz k6 7
  obtain ⟨s8, b8⟩ := set8 k6 rk rn ra rc rh rt ri rp
  have HB6 := Lib.hid (HB.out.trans ((hb5.mono hUw).trans b8))
  have HS8 := Lib.hid s8
  clear s8 b8 k6 hb5
  go_wp2_with fail
  clear d0 d1 d2 d3 d4 d5 d6 d7
  clear q0 q1 q2 q3 q4 q5 q6 q7 f0 f1 f2 f3 f4 f5 f6 f7
  obtain ⟨q0, q1, q2, q3, q4, q5, q6, q7⟩ := row8 HS8.out
  obtain ⟨V8, hV8⟩ : ∃ V, ((((((((w5.setCell ⟨w.heap.size, 0, none⟩ (.int .i64 rk)).setCell ⟨w.heap.size, 1, none⟩ (.int .i64 rn)).setCell ⟨w.heap.size, 2, none⟩ (.int .i64 ra)).setCell ⟨w.heap.size, 3, none⟩ (.int .i64 rc)).setCell ⟨w.heap.size, 4, none⟩ (.int .i64 rh)).setCell ⟨w.heap.size, 5, none⟩ (.int .i64 rt)).setCell ⟨w.heap.size, 6, none⟩ (.int .i64 ri)).setCell ⟨w.heap.size, 7, none⟩ (.int .i64 rp)) = V := ⟨_, rfl⟩
  rw [hV8] at HB6 q0 q1 q2 q3 q4 q5 q6 q7 ⊢
  exact bodyPost_ret (v := .tuple #[.agg #[.int .i64 rk, .int .i64 rn, .int .i64 ra, .int .i64 rc, .int .i64 rh, .int .i64 rt, .int .i64 ri, .int .i64 rp], .int .i64 0]) (by simp [results, Tryz.results43, go_sem, *]) rfl ⟨rfl, HB6.out⟩
theorem parE_any (t : NM.Bs) (w : World) (hT : TN w) (hl : t.length ≤ 1000) :
    Calls Tryz.prog 43 #[.string (NM.bs t), .func (.func 44) #[] #[], .func (.func 13) #[] #[]] w fun e w' => e = .returned (.tuple #[evV (NM.parseE t), .int .i64 (if NM.okE t then 0 else 8)]) ∧ Below w.heap.size w w' := by
  have HG := Lib.hid (fun (V : World) (hV : Below w.heap.size w V) => guessE_any t V (hT.below hV) hl)
  have HT := Lib.hid (fun (V : World) (hV : Below w.heap.size w V) => Event_any (NM.guessE t) V (hT.below hV))
  have hS := bs_toListU t
  have hX := bs_toListU (NM.evT (NM.guessE t))
  by_cases h0 : t = []
  · have e1 : NM.okE t = false := by unfold NM.okE; rw [decide_eq_false (show ¬ t ≠ [] from fun h => h h0), Bool.false_and]
    unfold NM.parseE
    rw [e1, if_neg (by simp)]
    obtain ⟨R, hR⟩ : ∃ R, NM.guessE t = R := ⟨_, rfl⟩
    rw [hR] at HG
    clear hR HT hX
    obtain ⟨rk, rn, ra, rc, rh, rt, ri, rp⟩ := R
    exact parE_bad0 _ rk rn ra rc rh rt ri rp w (by rw [hS, h0]; rfl) HG
  · have hs : (NM.bs t).toList.isEmpty = false := by rw [hS]; simpa using h0
    by_cases h1 : NM.evT (NM.guessE t) = t
    · have e1 : NM.okE t = true := by unfold NM.okE; rw [decide_eq_true (show t ≠ [] from h0), Bool.true_and, decide_eq_true h1]
      unfold NM.parseE
      rw [e1, if_pos rfl]
      have hx : (NM.bs (NM.evT (NM.guessE t))).toList = (NM.bs t).toList := by rw [h1]
      obtain ⟨R, hR⟩ : ∃ R, NM.guessE t = R := ⟨_, rfl⟩
      rw [hR] at HG HT hx ⊢
      clear hR hX h1 e1
      obtain ⟨rk, rn, ra, rc, rh, rt, ri, rp⟩ := R
      exact parE_good _ _ rk rn ra rc rh rt ri rp w hs hx HG HT
    · have e1 : NM.okE t = false := by unfold NM.okE; rw [decide_eq_false h1, Bool.and_false]
      unfold NM.parseE
      rw [e1, if_neg (by simp)]
      have hx : ¬ (NM.bs (NM.evT (NM.guessE t))).toList = (NM.bs t).toList := by rw [hX, hS]; exact h1
      obtain ⟨R, hR⟩ : ∃ R, NM.guessE t = R := ⟨_, rfl⟩
      rw [hR] at HG HT hx
      clear hR hX h1 e1
      obtain ⟨rk, rn, ra, rc, rh, rt, ri, rp⟩ := R
      exact parE_bad1 _ _ rk rn ra rc rh rt ri rp w hs (by simpa using hx) HG HT
set_option maxRecDepth 100000 in
set_option maxHeartbeats 8000000 in
theorem ParseEvent_any (t : NM.Bs) (w : World) (hT : TN w) (hl : t.length ≤ 1000) :
    Calls Tryz.prog 19 #[.string (NM.bs t)] w fun e w' => e = .returned (.tuple #[evV (NM.parseE t), .int .i64 (if NM.okE t then 0 else 8)]) ∧ Below w.heap.size w w' := by
  have HP := Lib.hid (fun (V : World) (hV : Below w.heap.size w V) => parE_any t V (hT.below hV) hl)
  obtain ⟨S, hS⟩ : ∃ S, NM.bs t = S := ⟨_, rfl⟩
  obtain ⟨ec, hec⟩ : ∃ c : Int, (if NM.okE t then 0 else 8) = c := ⟨_, rfl⟩
  obtain ⟨R, hR⟩ : ∃ R, NM.parseE t = R := ⟨_, rfl⟩
  rw [hS, hec, hR] at HP
  rw [hS, hec, hR]
  clear hS hec hR hT hl
  obtain ⟨rk, rn, ra, rc, rh, rt, ri, rp⟩ := R
  obtain ⟨W0, hW0⟩ : ∃ U, w.alloc (.cells #[.int .i64 0, .int .i64 0, .int .i64 0, .int .i64 0, .int .i64 0, .int .i64 0, .int .i64 0, .int .i64 0] 28) = U := ⟨_, rfl⟩
  have hb0 : Below w.heap.size w W0 := hW0 ▸ one_box w _
  have k0 : W0.heap[w.heap.size]? = some (.cells #[.int .i64 0, .int .i64 0, .int .i64 0, .int .i64 0, .int .i64 0, .int .i64 0, .int .i64 0, .int .i64 0] 28 (0, 0)) := by rw [← hW0]; exact new_at rfl
  have HB0 := Lib.hid hb0
  have HK0 := Lib.hid k0
  clear hb0 k0
  go_enter Tryz.func19, Tryz.ntmps19
  go_wp2_with fail
  clear hW0
  refine (HP.out _ HB0.out).mono ?_
  rintro e w1 ⟨rfl, hb1⟩
  have k6 := (hb1.block _ (heap_lt HK0.out)).trans HK0.out
  obtain ⟨q0, q1, q2, q3, q4, q5, q6, q7⟩ := row8 k6
  have f0 := froz k6 0
  have f1 := froz k6 1
  have f2 := froz k6 2
  have f3 := froz k6 3
  have f4 := froz k6 4
  have f5 := froz k6 5
  have f6 := froz k6 6
  have f7 := froz k6 7
  obtain ⟨s8, b8⟩ := set8 k6 rk rn ra rc rh rt ri rp
  have HB6 := Lib.hid (HB0.out.trans ((hb1.mono HB0.out.size).trans b8))
  have HS8 := Lib.hid s8
  clear s8 b8 k6 hb1
  go_wp2_with fail
  clear q0 q1 q2 q3 q4 q5 q6 q7 f0 f1 f2 f3 f4 f5 f6 f7
  obtain ⟨q0, q1, q2, q3, q4, q5, q6, q7⟩ := row8 HS8.out
  obtain ⟨V8, hV8⟩ : ∃ V, ((((((((w1.setCell ⟨w.heap.size, 0, none⟩ (.int .i64 rk)).setCell ⟨w.heap.size, 1, none⟩ (.int .i64 rn)).setCell ⟨w.heap.size, 2, none⟩ (.int .i64 ra)).setCell ⟨w.heap.size, 3, none⟩ (.int .i64 rc)).setCell ⟨w.heap.size, 4, none⟩ (.int .i64 rh)).setCell ⟨w.heap.size, 5, none⟩ (.int .i64 rt)).setCell ⟨w.heap.size, 6, none⟩ (.int .i64 ri)).setCell ⟨w.heap.size, 7, none⟩ (.int .i64 rp)) = V := ⟨_, rfl⟩
  rw [hV8] at HB6 q0 q1 q2 q3 q4 q5 q6 q7 ⊢
  exact bodyPost_ret (v := .tuple #[.agg #[.int .i64 rk, .int .i64 rn, .int .i64 ra, .int .i64 rc, .int .i64 rh, .int .i64 rt, .int .i64 ri, .int .i64 rp], .int .i64 ec]) (by simp [results, Tryz.results19, go_sem, *]) rfl ⟨rfl, HB6.out⟩
set_option maxRecDepth 100000 in
set_option maxHeartbeats 8000000 in
theorem parQ_bad0 (S : ByteArray) (rc rh rt rk ri : Int) (w : World) (hs : S.toList.isEmpty = true)
    (HG : Hid (∀ V, Below w.heap.size w V → Calls Tryz.prog 46 #[.string S] V fun e w' => e = .returned (.agg #[.int .i64 rc, .int .i64 rh, .int .i64 rt, .int .i64 rk, .int .i64 ri]) ∧ Below V.heap.size V w')) :
    Calls Tryz.prog 45 #[.string S, .func (.func 46) #[] #[], .func (.func 15) #[] #[]] w fun e w' => e = .returned (.tuple #[.agg #[.int .i64 0, .int .i64 0, .int .i64 0, .int .i64 0, .int .i64 0], .int .i64 8]) ∧ Below w.heap.size w w' := by
  obtain ⟨W0, hW0⟩ : ∃ U, w.alloc (.cells #[.int .i64 0, .int .i64 0, .int .i64 0, .int .i64 0, .int .i64 0] 36) = U := ⟨_, rfl⟩
  have hb0 : Below w.heap.size w W0 := hW0 ▸ one_box w _
  have k0 : W0.heap[w.heap.size]? = some (.cells #[.int .i64 0, .int .i64 0, .int .i64 0, .int .i64 0, .int .i64 0] 36 (0, 0)) := by rw [← hW0]; exact new_at rfl
  have HB0 := Lib.hid hb0
  have HK0 := Lib.hid k0
  clear hb0 k0
  go_enter Tryz.func45, Tryz.ntmps45
  go_wp2_with fail
  clear hW0
  refine (HG.out _ HB0.out).mono ?_
  rintro e w1 ⟨rfl, hb1⟩
  obtain ⟨U, hU⟩ : ∃ U, w1.alloc (.cells #[.int .i64 rc, .int .i64 rh, .int .i64 rt, .int .i64 rk, .int .i64 ri] 36) = U := ⟨_, rfl⟩
  have hbU : Below w1.heap.size w1 U := hU ▸ one_box w1 _
  have h01 := heap_lt HK0.out
  have h12 : w.heap.size < w1.heap.size := Nat.lt_of_lt_of_le h01 hb1.size
  have kN : U.heap[w1.heap.size]? = some (.cells #[.int .i64 rc, .int .i64 rh, .int .i64 rt, .int .i64 rk, .int .i64 ri] 36 (0, 0)) := by rw [← hU]; exact new_at rfl
  have hNU := heap_lt kN
  have kR := (hbU.block _ h12).trans ((hb1.block _ h01).trans HK0.out)
  have HKR := Lib.hid (fun (V : World) (hV : Below U.heap.size U V) => (hV.block w.heap.size (by omega)).trans kR)
  have HKN := Lib.hid (fun (V : World) (hV : Below U.heap.size U V) => (hV.block w1.heap.size hNU).trans kN)
  have HB := Lib.hid (HB0.out.trans ((hb1.trans (hbU.mono hb1.size)).mono HB0.out.size))
  have hUw : w.heap.size ≤ U.heap.size := by omega
  obtain ⟨d0, d1, d2, d3, d4⟩ := row5 kN
  clear hb1 hbU kN kR HG HB0 HK0
  obtain ⟨W6, hW6⟩ : ∃ M, U.alloc (.cells #[.int .i64 0, .int .i64 0, .int .i64 0, .int .i64 0, .int .i64 0] 36) = M := ⟨_, rfl⟩
  have hb6 : Below U.heap.size U W6 := hW6 ▸ one_box U _
  have h6 : Below U.heap.size U W6 := hb6
  have k9 : W6.heap[U.heap.size]? = some (.cells #[.int .i64 0, .int .i64 0, .int .i64 0, .int .i64 0, .int .i64 0] 36 (0, 0)) := by rw [← hW6]; exact new_at rfl
  obtain ⟨z0, z1, z2, z3, z4⟩ := row5 k9
  have k6 := HKR.out W6 h6
  obtain ⟨q0, q1, q2, q3, q4⟩ := row5 k6
  have f0 := froz k6 0
  have f1 := froz k6 1
  have f2 := froz k6 2
  have f3 := froz k6 3
  have f4 := froz k6 4
  obtain ⟨s8, b8⟩ := set5 k6 0 0 0 0 0
  have HB6 := Lib.hid (HB.out.trans ((h6.mono hUw).trans b8))
  have HS8 := Lib.hid s8
  clear s8 b8 h6 hb6 k6 k9
  go_wp2_with fail
  clear hW6 z0 z1 z2 z3 z4 hU
  clear q0 q1 q2 q3 q4 f0 f1 f2 f3 f4
  obtain ⟨q0, q1, q2, q3, q4⟩ := row5 HS8.out
  obtain ⟨V8, hV8⟩ : ∃ V, (((((W6.setCell ⟨w.heap.size, 0, none⟩ (.int .i64 0)).setCell ⟨w.heap.size, 1, none⟩ (.int .i64 0)).setCell ⟨w.heap.size, 2, none⟩ (.int .i64 0)).setCell ⟨w.heap.size, 3, none⟩ (.int .i64 0)).setCell ⟨w.heap.size, 4, none⟩ (.int .i64 0)) = V := ⟨_, rfl⟩
  rw [hV8] at HB6 q0 q1 q2 q3 q4 ⊢
  exact bodyPost_ret (v := .tuple #[.agg #[.int .i64 0, .int .i64 0, .int .i64 0, .int .i64 0, .int .i64 0], .int .i64 8]) (by simp [results, Tryz.results45, go_sem, *]) rfl ⟨rfl, HB6.out⟩
set_option maxRecDepth 100000 in
set_option maxHeartbeats 8000000 in
theorem parQ_bad1 (S X : ByteArray) (rc rh rt rk ri : Int) (w : World) (hs : S.toList.isEmpty = false) (hx : (X.toList == S.toList) = false)
    (HG : Hid (∀ V, Below w.heap.size w V → Calls Tryz.prog 46 #[.string S] V fun e w' => e = .returned (.agg #[.int .i64 rc, .int .i64 rh, .int .i64 rt, .int .i64 rk, .int .i64 ri]) ∧ Below V.heap.size V w'))
    (HT : Hid (∀ V, Below w.heap.size w V → Calls Tryz.prog 15 #[.agg #[.int .i64 rc, .int .i64 rh, .int .i64 rt, .int .i64 rk, .int .i64 ri]] V fun e w' => e = .returned (.string X) ∧ Below V.heap.size V w')) :
    Calls Tryz.prog 45 #[.string S, .func (.func 46) #[] #[], .func (.func 15) #[] #[]] w fun e w' => e = .returned (.tuple #[.agg #[.int .i64 0, .int .i64 0, .int .i64 0, .int .i64 0, .int .i64 0], .int .i64 8]) ∧ Below w.heap.size w w' := by
  obtain ⟨W0, hW0⟩ : ∃ U, w.alloc (.cells #[.int .i64 0, .int .i64 0, .int .i64 0, .int .i64 0, .int .i64 0] 36) = U := ⟨_, rfl⟩
  have hb0 : Below w.heap.size w W0 := hW0 ▸ one_box w _
  have k0 : W0.heap[w.heap.size]? = some (.cells #[.int .i64 0, .int .i64 0, .int .i64 0, .int .i64 0, .int .i64 0] 36 (0, 0)) := by rw [← hW0]; exact new_at rfl
  have HB0 := Lib.hid hb0
  have HK0 := Lib.hid k0
  clear hb0 k0
  go_enter Tryz.func45, Tryz.ntmps45
  go_wp2_with fail
  clear hW0
  refine (HG.out _ HB0.out).mono ?_
  rintro e w1 ⟨rfl, hb1⟩
  obtain ⟨U, hU⟩ : ∃ U, w1.alloc (.cells #[.int .i64 rc, .int .i64 rh, .int .i64 rt, .int .i64 rk, .int .i64 ri] 36) = U := ⟨_, rfl⟩
  have hbU : Below w1.heap.size w1 U := hU ▸ one_box w1 _
  have h01 := heap_lt HK0.out
  have h12 : w.heap.size < w1.heap.size := Nat.lt_of_lt_of_le h01 hb1.size
  have kN : U.heap[w1.heap.size]? = some (.cells #[.int .i64 rc, .int .i64 rh, .int .i64 rt, .int .i64 rk, .int .i64 ri] 36 (0, 0)) := by rw [← hU]; exact new_at rfl
  have hNU := heap_lt kN
  have kR := (hbU.block _ h12).trans ((hb1.block _ h01).trans HK0.out)
  have HKR := Lib.hid (fun (V : World) (hV : Below U.heap.size U V) => (hV.block w.heap.size (by omega)).trans kR)
  have HKN := Lib.hid (fun (V : World) (hV : Below U.heap.size U V) => (hV.block w1.heap.size hNU).trans kN)
  have HB := Lib.hid (HB0.out.trans ((hb1.trans (hbU.mono hb1.size)).mono HB0.out.size))
  have hUw : w.heap.size ≤ U.heap.size := by omega
  obtain ⟨d0, d1, d2, d3, d4⟩ := row5 kN
  clear hb1 hbU kN kR HG HB0 HK0
  go_wp2_with fail
  clear hU
  refine (HT.out _ HB.out).mono ?_
  rintro e w5 ⟨rfl, hb5⟩
  clear HT
  obtain ⟨W6, hW6⟩ : ∃ M, w5.alloc (.cells #[.int .i64 0, .int .i64 0, .int .i64 0, .int .i64 0, .int .i64 0] 36) = M := ⟨_, rfl⟩
  have hb6 : Below w5.heap.size w5 W6 := hW6 ▸ one_box w5 _
  have h6 : Below U.heap.size U W6 := hb5.trans (hb6.mono hb5.size)
  have k9 : W6.heap[w5.heap.size]? = some (.cells #[.int .i64 0, .int .i64 0, .int .i64 0, .int .i64 0, .int .i64 0] 36 (0, 0)) := by rw [← hW6]; exact new_at rfl
  obtain ⟨z0, z1, z2, z3, z4⟩ := row5 k9
  have k6 := HKR.out W6 h6
  obtain ⟨q0, q1, q2, q3, q4⟩ := row5 k6
  have f0 := froz k6 0
  have f1 := froz k6 1
  have f2 := froz k6 2
  have f3 := froz k6 3
  have f4 := froz k6 4
  obtain ⟨s8, b8⟩ := set5 k6 0 0 0 0 0
  have HB6 := Lib.hid (HB.out.trans ((h6.mono hUw).trans b8))
  have HS8 := Lib.hid s8
  clear s8 b8 h6 hb6 k6 k9 hb5
  go_wp2_with fail
  clear hW6 z0 z1 z2 z3 z4
  clear q0 q1 q2 q3 q4 f0 f1 f2 f3 f4
  obtain ⟨q0, q1, q2, q3, q4⟩ := row5 HS8.out
  obtain ⟨V8, hV8⟩ : ∃ V, (((((W6.setCell ⟨w.heap.size, 0, none⟩ (.int .i64 0)).setCell ⟨w.heap.size, 1, none⟩ (.int .i64 0)).setCell ⟨w.heap.size, 2, none⟩ (.int .i64 0)).setCell ⟨w.heap.size, 3, none⟩ (.int .i64 0)).setCell ⟨w.heap.size, 4, none⟩ (.int .i64 0)) = V := ⟨_, rfl⟩
  rw [hV8] at HB6 q0 q1 q2 q3 q4 ⊢
  exact bodyPost_ret (v := .tuple #[.agg #[.int .i64 0, .int .i64 0, .int .i64 0, .int .i64 0, .int .i64 0], .int .i64 8]) (by simp [results, Tryz.results45, go_sem, *]) rfl ⟨rfl, HB6.out⟩
set_option maxRecDepth 100000 in
set_option maxHeartbeats 8000000 in
theorem parQ_good (S X : ByteArray) (rc rh rt rk ri : Int) (w : World) (hs : S.toList.isEmpty = false) (hx : X.toList = S.toList)
    (HG : Hid (∀ V, Below w.heap.size w V → Calls Tryz.prog 46 #[.string S] V fun e w' => e = .returned (.agg #[.int .i64 rc, .int .i64 rh, .int .i64 rt, .int .i64 rk, .int .i64 ri]) ∧ Below V.heap.size V w'))
    (HT : Hid (∀ V, Below w.heap.size w V → Calls Tryz.prog 15 #[.agg #[.int .i64 rc, .int .i64 rh, .int .i64 rt, .int .i64 rk, .int .i64 ri]] V fun e w' => e = .returned (.string X) ∧ Below V.heap.size V w')) :
    Calls Tryz.prog 45 #[.string S, .func (.func 46) #[] #[], .func (.func 15) #[] #[]] w fun e w' => e = .returned (.tuple #[.agg #[.int .i64 rc, .int .i64 rh, .int .i64 rt, .int .i64 rk, .int .i64 ri], .int .i64 0]) ∧ Below w.heap.size w w' := by
  obtain ⟨W0, hW0⟩ : ∃ U, w.alloc (.cells #[.int .i64 0, .int .i64 0, .int .i64 0, .int .i64 0, .int .i64 0] 36) = U := ⟨_, rfl⟩
  have hb0 : Below w.heap.size w W0 := hW0 ▸ one_box w _
  have k0 : W0.heap[w.heap.size]? = some (.cells #[.int .i64 0, .int .i64 0, .int .i64 0, .int .i64 0, .int .i64 0] 36 (0, 0)) := by rw [← hW0]; exact new_at rfl
  have HB0 := Lib.hid hb0
  have HK0 := Lib.hid k0
  clear hb0 k0
  go_enter Tryz.func45, Tryz.ntmps45
  go_wp2_with fail
  clear hW0
  refine (HG.out _ HB0.out).mono ?_
  rintro e w1 ⟨rfl, hb1⟩
  obtain ⟨U, hU⟩ : ∃ U, w1.alloc (.cells #[.int .i64 rc, .int .i64 rh, .int .i64 rt, .int .i64 rk, .int .i64 ri] 36) = U := ⟨_, rfl⟩
  have hbU : Below w1.heap.size w1 U := hU ▸ one_box w1 _
  have h01 := heap_lt HK0.out
  have h12 : w.heap.size < w1.heap.size := Nat.lt_of_lt_of_le h01 hb1.size
  have kN : U.heap[w1.heap.size]? = some (.cells #[.int .i64 rc, .int .i64 rh, .int .i64 rt, .int .i64 rk, .int .i64 ri] 36 (0, 0)) := by rw [← hU]; exact new_at rfl
  have hNU := heap_lt kN
  have kR := (hbU.block _ h12).trans ((hb1.block _ h01).trans HK0.out)
  have HKR := Lib.hid (fun (V : World) (hV : Below U.heap.size U V) => (hV.block w.heap.size (by omega)).trans kR)
  have HKN := Lib.hid (fun (V : World) (hV : Below U.heap.size U V) => (hV.block w1.heap.size hNU).trans kN)
  have HB := Lib.hid (HB0.out.trans ((hb1.trans (hbU.mono hb1.size)).mono HB0.out.size))
  have hUw : w.heap.size ≤ U.heap.size := by omega
  obtain ⟨d0, d1, d2, d3, d4⟩ := row5 kN
  clear hb1 hbU kN kR HG HB0 HK0
  go_wp2_with fail
  clear hU
  refine (HT.out _ HB.out).mono ?_
  rintro e w5 ⟨rfl, hb5⟩
  clear HT d0 d1 d2 d3 d4
  obtain ⟨d0, d1, d2, d3, d4⟩ := row5 (HKN.out w5 hb5)
  have k6 := HKR.out w5 hb5
  obtain ⟨q0, q1, q2, q3, q4⟩ := row5 k6
  have f0 := froz k6 0
  have f1 := froz k6 1
  have f2 := froz k6 2
  have f3 := froz k6 3
  have f4 := froz k6 4
  obtain ⟨s8, b8⟩ := set5 k6 rc rh rt rk ri
  have HB6 := Lib.hid (HB.out.trans ((hb5.mono hUw).trans b8))
  have HS8 := Lib.hid s8
  clear s8 b8 k6 hb5
  go_wp2_with fail
  clear d0 d1 d2 d3 d4
  clear q0 q1 q2 q3 q4 f0 f1 f2 f3 f4
  obtain ⟨q0, q1, q2, q3, q4⟩ := row5 HS8.out
  obtain ⟨V8, hV8⟩ : ∃ V, (((((w5.setCell ⟨w.heap.size, 0, none⟩ (.int .i64 rc)).setCell ⟨w.heap.size, 1, none⟩ (.int .i64 rh)).setCell ⟨w.heap.size, 2, none⟩ (.int .i64 rt)).setCell ⟨w.heap.size, 3, none⟩ (.int .i64 rk)).setCell ⟨w.heap.size, 4, none⟩ (.int .i64 ri)) = V := ⟨_, rfl⟩
  rw [hV8] at HB6 q0 q1 q2 q3 q4 ⊢
  exact bodyPost_ret (v := .tuple #[.agg #[.int .i64 rc, .int .i64 rh, .int .i64 rt, .int .i64 rk, .int .i64 ri], .int .i64 0]) (by simp [results, Tryz.results45, go_sem, *]) rfl ⟨rfl, HB6.out⟩
theorem parQ_any (t : NM.Bs) (w : World) (hT : TN w) (hl : t.length ≤ 1000) :
    Calls Tryz.prog 45 #[.string (NM.bs t), .func (.func 46) #[] #[], .func (.func 15) #[] #[]] w fun e w' => e = .returned (.tuple #[quV (NM.parseQ t), .int .i64 (if NM.okQs t then 0 else 8)]) ∧ Below w.heap.size w w' := by
  have HG := Lib.hid (fun (V : World) (hV : Below w.heap.size w V) => guessQ_any t V (hT.below hV) hl)
  have HT := Lib.hid (fun (V : World) (hV : Below w.heap.size w V) => Question_any (NM.guessQ t) V (hT.below hV))
  have hS := bs_toListU t
  have hX := bs_toListU (NM.quT (NM.guessQ t))
  by_cases h0 : t = []
  · have e1 : NM.okQs t = false := by unfold NM.okQs; rw [decide_eq_false (show ¬ t ≠ [] from fun h => h h0), Bool.false_and]
    unfold NM.parseQ
    rw [e1, if_neg (by simp)]
    obtain ⟨R, hR⟩ : ∃ R, NM.guessQ t = R := ⟨_, rfl⟩
    rw [hR] at HG
    clear hR HT hX
    obtain ⟨rc, rh, rt, rk, ri⟩ := R
    exact parQ_bad0 _ rc rh rt rk ri w (by rw [hS, h0]; rfl) HG
  · have hs : (NM.bs t).toList.isEmpty = false := by rw [hS]; simpa using h0
    by_cases h1 : NM.quT (NM.guessQ t) = t
    · have e1 : NM.okQs t = true := by unfold NM.okQs; rw [decide_eq_true (show t ≠ [] from h0), Bool.true_and, decide_eq_true h1]
      unfold NM.parseQ
      rw [e1, if_pos rfl]
      have hx : (NM.bs (NM.quT (NM.guessQ t))).toList = (NM.bs t).toList := by rw [h1]
      obtain ⟨R, hR⟩ : ∃ R, NM.guessQ t = R := ⟨_, rfl⟩
      rw [hR] at HG HT hx ⊢
      clear hR hX h1 e1
      obtain ⟨rc, rh, rt, rk, ri⟩ := R
      exact parQ_good _ _ rc rh rt rk ri w hs hx HG HT
    · have e1 : NM.okQs t = false := by unfold NM.okQs; rw [decide_eq_false h1, Bool.and_false]
      unfold NM.parseQ
      rw [e1, if_neg (by simp)]
      have hx : ¬ (NM.bs (NM.quT (NM.guessQ t))).toList = (NM.bs t).toList := by rw [hX, hS]; exact h1
      obtain ⟨R, hR⟩ : ∃ R, NM.guessQ t = R := ⟨_, rfl⟩
      rw [hR] at HG HT hx
      clear hR hX h1 e1
      obtain ⟨rc, rh, rt, rk, ri⟩ := R
      exact parQ_bad1 _ _ rc rh rt rk ri w hs (by simpa using hx) HG HT
set_option maxRecDepth 100000 in
set_option maxHeartbeats 8000000 in
theorem ParseQuestion_any (t : NM.Bs) (w : World) (hT : TN w) (hl : t.length ≤ 1000) :
    Calls Tryz.prog 20 #[.string (NM.bs t)] w fun e w' => e = .returned (.tuple #[quV (NM.parseQ t), .int .i64 (if NM.okQs t then 0 else 8)]) ∧ Below w.heap.size w w' := by
  have HP := Lib.hid (fun (V : World) (hV : Below w.heap.size w V) => parQ_any t V (hT.below hV) hl)
  obtain ⟨S, hS⟩ : ∃ S, NM.bs t = S := ⟨_, rfl⟩
  obtain ⟨ec, hec⟩ : ∃ c : Int, (if NM.okQs t then 0 else 8) = c := ⟨_, rfl⟩
  obtain ⟨R, hR⟩ : ∃ R, NM.parseQ t = R := ⟨_, rfl⟩
  rw [hS, hec, hR] at HP
  rw [hS, hec, hR]
  clear hS hec hR hT hl
  obtain ⟨rc, rh, rt, rk, ri⟩ := R
  obtain ⟨W0, hW0⟩ : ∃ U, w.alloc (.cells #[.int .i64 0, .int .i64 0, .int .i64 0, .int .i64 0, .int .i64 0] 36) = U := ⟨_, rfl⟩
  have hb0 : Below w.heap.size w W0 := hW0 ▸ one_box w _
  have k0 : W0.heap[w.heap.size]? = some (.cells #[.int .i64 0, .int .i64 0, .int .i64 0, .int .i64 0, .int .i64 0] 36 (0, 0)) := by rw [← hW0]; exact new_at rfl
  have HB0 := Lib.hid hb0
  have HK0 := Lib.hid k0
  clear hb0 k0
  go_enter Tryz.func20, Tryz.ntmps20
  go_wp2_with fail
  clear hW0
  refine (HP.out _ HB0.out).mono ?_
  rintro e w1 ⟨rfl, hb1⟩
  have k6 := (hb1.block _ (heap_lt HK0.out)).trans HK0.out
  obtain ⟨q0, q1, q2, q3, q4⟩ := row5 k6
  have f0 := froz k6 0
  have f1 := froz k6 1
  have f2 := froz k6 2
  have f3 := froz k6 3
  have f4 := froz k6 4
  obtain ⟨s8, b8⟩ := set5 k6 rc rh rt rk ri
  have HB6 := Lib.hid (HB0.out.trans ((hb1.mono HB0.out.size).trans b8))
  have HS8 := Lib.hid s8
  clear s8 b8 k6 hb1
  go_wp2_with fail
  clear q0 q1 q2 q3 q4 f0 f1 f2 f3 f4
  obtain ⟨q0, q1, q2, q3, q4⟩ := row5 HS8.out
  obtain ⟨V8, hV8⟩ : ∃ V, (((((w1.setCell ⟨w.heap.size, 0, none⟩ (.int .i64 rc)).setCell ⟨w.heap.size, 1, none⟩ (.int .i64 rh)).setCell ⟨w.heap.size, 2, none⟩ (.int .i64 rt)).setCell ⟨w.heap.size, 3, none⟩ (.int .i64 rk)).setCell ⟨w.heap.size, 4, none⟩ (.int .i64 ri)) = V := ⟨_, rfl⟩
  rw [hV8] at HB6 q0 q1 q2 q3 q4 ⊢
  exact bodyPost_ret (v := .tuple #[.agg #[.int .i64 rc, .int .i64 rh, .int .i64 rt, .int .i64 rk, .int .i64 ri], .int .i64 ec]) (by simp [results, Tryz.results20, go_sem, *]) rfl ⟨rfl, HB6.out⟩
end Go.Proofs.YtggallpnbbidfaaGreatDoor
