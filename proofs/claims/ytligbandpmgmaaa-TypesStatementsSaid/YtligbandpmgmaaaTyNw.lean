/-
  The walk of newRules.
-/
import Derived.Test.YtligbandpmgmaaaTyNr
namespace Go.Proofs.Ytligbandpmgmaaa
open Go Go.RowKit Go.Proofs

theorem heap_up {g : Nat} {V : World} {o : Obj} {x : Obj} (h : V.heap[g]? = some x) : (V.alloc o).heap[g]? = some x := (Below.heap_alloc V o g (heap_lt h)).trans h

theorem ret_R {fn : Func} {p : Tmp} (hf : fn.results = #[.cell p 48]) {V : World} {b : Nat} {x y : Value} (tmps : Array Value) (hp : tmps.getD p undef = .pointer (some ⟨b, 0, none⟩)) (h : V.heap[b]? = some (.cells #[x, y] 48 (0, 0))) : (results fn tmps).run Try.prog V = .ok (.agg #[x, y]) V := by
  have c0 : V.cell? ⟨b, 0, none⟩ = some x := cell_of_row V b 0 _ _ (0, 0) h
  have c1 : V.cell? ⟨b, 1, none⟩ = some y := cell_of_row V b 1 _ _ (0, 0) h
  have ia := Try.isAgg48
  have so := Try.sizeOf48
  simp only [results, hf]
  have hp' : tmps[p]?.getD undef = .pointer (some ⟨b, 0, none⟩) := by simpa using hp
  simp [go_sem, hp', c0, c1, ia, so]
/-- Behind the last store. -/
theorem NS.store {w V : World} {mu mb d0 d : Nat} (h : NS w V mu mb d0 d (lB (w.heap.size + 1) (w.heap.size + 1 + 1 + 1) (w.heap.size + 1 + 1 + 1 + 1 + 1))) :
    ((V.setCell ⟨w.heap.size, 0, none⟩ (.map (some mu))).setCell ⟨w.heap.size, 1, none⟩ (.map (some mb))).heap[w.heap.size]? = some (.cells #[.map (some mu), .map (some mb)] 48 (0, 0)) ∧
    Rul ((V.setCell ⟨w.heap.size, 0, none⟩ (.map (some mu))).setCell ⟨w.heap.size, 1, none⟩ (.map (some mb))) ((V.setCell ⟨w.heap.size, 0, none⟩ (.map (some mu))).setCell ⟨w.heap.size, 1, none⟩ (.map (some mb))).heap.size mu mb ∧
    Below w.heap.size w ((V.setCell ⟨w.heap.size, 0, none⟩ (.map (some mu))).setCell ⟨w.heap.size, 1, none⟩ (.map (some mb))) := by
  have keep : ∀ g, g ≠ w.heap.size → ((V.setCell ⟨w.heap.size, 0, none⟩ (.map (some mu))).setCell ⟨w.heap.size, 1, none⟩ (.map (some mb))).heap[g]? = V.heap[g]? := fun g hg => (Below.heap_setCell _ _ _ _ hg).trans (Below.heap_setCell _ _ _ _ hg)
  refine ⟨?_, ?_, (h.bel.setCell (p := ⟨w.heap.size, 0, none⟩) (Nat.le_refl _) _).setCell (p := ⟨w.heap.size, 1, none⟩) (Nat.le_refl _) _⟩
  · have := h.nr.r0
    simp only [World.setCell, Array.getElem?_modify]
    simp [this]
  · have hne : ∀ {b l}, Mp V b l → b ≠ w.heap.size := fun k e => k.ne h.nr.r0 e.symm
    have hd : ∀ {g : Nat} {C : Array Value} {f : Nat × Nat}, V.heap[g]? = some (.cells C 27 f) → g ≠ w.heap.size := fun {g} {C} {f} k => heapT_ne k h.nr.r0 (by decide)
    exact rul_of (h.mu_.keep (keep _ (hne h.mu_))) (h.mb_.keep (keep _ (hne h.mb_))) ((keep _ (hd h.nr.a1)).trans h.nr.a1) ((keep _ (hd h.nr.a2)).trans h.nr.a2) ((keep _ (hd h.nr.a3)).trans h.nr.a3) ((keep _ (hd h.d_)).trans h.d_) ((keep _ (hd h.e_)).trans h.e_) rfl
set_option maxRecDepth 100000 in
set_option maxHeartbeats 8000000 in
theorem newRules_any (w : World) : Calls Try.prog 13 #[] w fun e w' => ∃ mu mb, e = .returned (.agg #[.map (some mu), .map (some mb)]) ∧ Rul w' w'.heap.size mu mb ∧ Below w.heap.size w w' := by
  have hm := hmk
  obtain ⟨v1, hv1⟩ : ∃ V, w.alloc (.cells #[.map none, .map none] 48) = V := ⟨_, rfl⟩
  obtain ⟨v2, hv2⟩ : ∃ V, v1.alloc (.cells #[.int .i64 1, .int .i64 1] 27) = V := ⟨_, rfl⟩
  obtain ⟨v3, hv3⟩ : ∃ V, v2.alloc (.cells #[.slice (some ⟨w.heap.size + 1, 0, none⟩) 2 2, .int .i64 1] 59) = V := ⟨_, rfl⟩
  obtain ⟨v4, hv4⟩ : ∃ V, v3.alloc (.cells #[.int .i64 1, .int .i64 1] 27) = V := ⟨_, rfl⟩
  obtain ⟨v5, hv5⟩ : ∃ V, v4.alloc (.cells #[.slice (some ⟨w.heap.size + 1 + 1 + 1, 0, none⟩) 2 2, .int .i64 2] 59) = V := ⟨_, rfl⟩
  obtain ⟨v6, hv6⟩ : ∃ V, v5.alloc (.cells #[.int .i64 2, .int .i64 2] 27) = V := ⟨_, rfl⟩
  obtain ⟨v7, hv7⟩ : ∃ V, v6.alloc (.cells #[.slice (some ⟨w.heap.size + 1 + 1 + 1 + 1 + 1, 0, none⟩) 2 2, .int .i64 2] 59) = V := ⟨_, rfl⟩
  obtain ⟨v8, hv8⟩ : ∃ V, v7.alloc (.map #[] 0) = V := ⟨_, rfl⟩
  obtain ⟨v9, hv9⟩ : ∃ V, v8.alloc (.cells #[.int .i64 1] 27) = V := ⟨_, rfl⟩
  have z1 : v1.heap.size = w.heap.size + 1 := by rw [← hv1, World.size_alloc]
  have n1 : v1.heap[w.heap.size]? = some (.cells #[.map none, .map none] 48 (0, 0)) := by rw [← hv1]; exact World.alloc_heap_new _ _
  have b1 : Below w.heap.size w v1 := by rw [← hv1]; exact (Below.refl _ _).alloc (by exact Nat.le_refl _) _
  have z2 : v2.heap.size = w.heap.size + 1 + 1 := by rw [← hv2, World.size_alloc, z1]
  have n2 : v2.heap[w.heap.size + 1]? = some (.cells #[.int .i64 1, .int .i64 1] 27 (0, 0)) := by rw [← hv2, ← z1]; exact World.alloc_heap_new _ _
  have b2 : Below w.heap.size w v2 := by rw [← hv2]; exact b1.alloc (by omega) _
  have z3 : v3.heap.size = w.heap.size + 1 + 1 + 1 := by rw [← hv3, World.size_alloc, z2]
  have n3 : v3.heap[w.heap.size + 1 + 1]? = some (.cells #[.slice (some ⟨w.heap.size + 1, 0, none⟩) 2 2, .int .i64 1] 59 (0, 0)) := by rw [← hv3, ← z2]; exact World.alloc_heap_new _ _
  have b3 : Below w.heap.size w v3 := by rw [← hv3]; exact b2.alloc (by omega) _
  have z4 : v4.heap.size = w.heap.size + 1 + 1 + 1 + 1 := by rw [← hv4, World.size_alloc, z3]
  have n4 : v4.heap[w.heap.size + 1 + 1 + 1]? = some (.cells #[.int .i64 1, .int .i64 1] 27 (0, 0)) := by rw [← hv4, ← z3]; exact World.alloc_heap_new _ _
  have b4 : Below w.heap.size w v4 := by rw [← hv4]; exact b3.alloc (by omega) _
  have z5 : v5.heap.size = w.heap.size + 1 + 1 + 1 + 1 + 1 := by rw [← hv5, World.size_alloc, z4]
  have n5 : v5.heap[w.heap.size + 1 + 1 + 1 + 1]? = some (.cells #[.slice (some ⟨w.heap.size + 1 + 1 + 1, 0, none⟩) 2 2, .int .i64 2] 59 (0, 0)) := by rw [← hv5, ← z4]; exact World.alloc_heap_new _ _
  have b5 : Below w.heap.size w v5 := by rw [← hv5]; exact b4.alloc (by omega) _
  have z6 : v6.heap.size = w.heap.size + 1 + 1 + 1 + 1 + 1 + 1 := by rw [← hv6, World.size_alloc, z5]
  have n6 : v6.heap[w.heap.size + 1 + 1 + 1 + 1 + 1]? = some (.cells #[.int .i64 2, .int .i64 2] 27 (0, 0)) := by rw [← hv6, ← z5]; exact World.alloc_heap_new _ _
  have b6 : Below w.heap.size w v6 := by rw [← hv6]; exact b5.alloc (by omega) _
  have z7 : v7.heap.size = w.heap.size + 1 + 1 + 1 + 1 + 1 + 1 + 1 := by rw [← hv7, World.size_alloc, z6]
  have n7 : v7.heap[w.heap.size + 1 + 1 + 1 + 1 + 1 + 1]? = some (.cells #[.slice (some ⟨w.heap.size + 1 + 1 + 1 + 1 + 1, 0, none⟩) 2 2, .int .i64 2] 59 (0, 0)) := by rw [← hv7, ← z6]; exact World.alloc_heap_new _ _
  have b7 : Below w.heap.size w v7 := by rw [← hv7]; exact b6.alloc (by omega) _
  have z8 : v8.heap.size = w.heap.size + 1 + 1 + 1 + 1 + 1 + 1 + 1 + 1 := by rw [← hv8, World.size_alloc, z7]
  have n8 : v8.heap[w.heap.size + 1 + 1 + 1 + 1 + 1 + 1 + 1]? = some (.map #[] 0) := by rw [← hv8, ← z7]; exact World.alloc_heap_new _ _
  have b8 : Below w.heap.size w v8 := by rw [← hv8]; exact b7.alloc (by omega) _
  have z9 : v9.heap.size = w.heap.size + 1 + 1 + 1 + 1 + 1 + 1 + 1 + 1 + 1 := by rw [← hv9, World.size_alloc, z8]
  have n9 : v9.heap[w.heap.size + 1 + 1 + 1 + 1 + 1 + 1 + 1 + 1]? = some (.cells #[.int .i64 1] 27 (0, 0)) := by rw [← hv9, ← z8]; exact World.alloc_heap_new _ _
  have b9 : Below w.heap.size w v9 := by rw [← hv9]; exact b8.alloc (by omega) _
  have up : ∀ {g : Nat} {V : World} {o : Obj} {x : Obj}, V.heap[g]? = some x → (V.alloc o).heap[g]? = some x := fun {g} {V} {o} {x} h => (Below.heap_alloc V o g (heap_lt h)).trans h
  have m1 : v9.heap[w.heap.size]? = some (.cells #[.map none, .map none] 48 (0, 0)) := by rw [← hv9, ← hv8, ← hv7, ← hv6, ← hv5, ← hv4, ← hv3, ← hv2]; exact up (up (up (up (up (up (up (up (n1))))))))
  have m2 : v9.heap[w.heap.size + 1]? = some (.cells #[.int .i64 1, .int .i64 1] 27 (0, 0)) := by rw [← hv9, ← hv8, ← hv7, ← hv6, ← hv5, ← hv4, ← hv3]; exact up (up (up (up (up (up (up (n2)))))))
  have m3 : v9.heap[w.heap.size + 1 + 1]? = some (.cells #[.slice (some ⟨w.heap.size + 1, 0, none⟩) 2 2, .int .i64 1] 59 (0, 0)) := by rw [← hv9, ← hv8, ← hv7, ← hv6, ← hv5, ← hv4]; exact up (up (up (up (up (up (n3))))))
  have m4 : v9.heap[w.heap.size + 1 + 1 + 1]? = some (.cells #[.int .i64 1, .int .i64 1] 27 (0, 0)) := by rw [← hv9, ← hv8, ← hv7, ← hv6, ← hv5]; exact up (up (up (up (up (n4)))))
  have m5 : v9.heap[w.heap.size + 1 + 1 + 1 + 1]? = some (.cells #[.slice (some ⟨w.heap.size + 1 + 1 + 1, 0, none⟩) 2 2, .int .i64 2] 59 (0, 0)) := by rw [← hv9, ← hv8, ← hv7, ← hv6]; exact up (up (up (up (n5))))
  have m6 : v9.heap[w.heap.size + 1 + 1 + 1 + 1 + 1]? = some (.cells #[.int .i64 2, .int .i64 2] 27 (0, 0)) := by rw [← hv9, ← hv8, ← hv7]; exact up (up (up (n6)))
  have m7 : v9.heap[w.heap.size + 1 + 1 + 1 + 1 + 1 + 1]? = some (.cells #[.slice (some ⟨w.heap.size + 1 + 1 + 1 + 1 + 1, 0, none⟩) 2 2, .int .i64 2] 59 (0, 0)) := by rw [← hv9, ← hv8]; exact up (up (n7))
  have m8 : v9.heap[w.heap.size + 1 + 1 + 1 + 1 + 1 + 1 + 1]? = some (.map #[] 0) := by rw [← hv9]; exact up (n8)
  have hnr : NR v9 w.heap.size := ⟨m2, m3, m4, m5, m6, m7, m1⟩
  have hmp : Mp v9 (w.heap.size + 1 + 1 + 1 + 1 + 1 + 1 + 1) [] := by
    have := Mp.made v7
    rw [z7, hv8] at this
    exact this.keep (by rw [← hv9]; exact Below.heap_alloc _ _ _ (by omega))
  have HNR := Lib.hid hnr
  have HMP := Lib.hid hmp
  have HN9 := Lib.hid n9
  have HB9 := Lib.hid b9
  have HZ9 := Lib.hid z9
  have HV1 := Lib.hid hv1
  have HV2 := Lib.hid hv2
  have HV3 := Lib.hid hv3
  have HV4 := Lib.hid hv4
  have HV5 := Lib.hid hv5
  have HV6 := Lib.hid hv6
  have HV7 := Lib.hid hv7
  have HV8 := Lib.hid hv8
  have HV9 := Lib.hid hv9
  clear hnr hmp up hv1 hv2 hv3 hv4 hv5 hv6 hv7 hv8 hv9 n1 n2 n3 n4 n5 n6 n7 n8 n9 b1 b2 b3 b4 b5 b6 b7 b8 b9 z1 z2 z3 z4 z5 z6 z7 z8 z9 m1 m2 m3 m4 m5 m6 m7 m8
  go_enter Try.func13, Try.ntmps13
  go_wp2_with (first
    | (rw [HV1.out, HV2.out, HV3.out, HV4.out, HV5.out, HV6.out, HV7.out, HV8.out, HV9.out]
       refine wpList_insert_rule rfl (.tmp 10) (.const (.string TY.sMinus)) (.tmp 12) rfl (w.heap.size + 1 + 1 + 1 + 1 + 1 + 1 + 1) [] rfl HMP.out (by simp) TY.sMinus (by decide) (w.heap.size + 1 + 1 + 1 + 1 + 1 + 1 + 1 + 1 + 1) 1 1 rfl (by simp [ruV_succ, Act.eval]) ?_
       intro x1 hp1 hg1
       have HNR1 := Lib.hid (HNR.out.map HMP.out hg1)
       have HP1 := Lib.hid hp1
       have HB1 := Lib.hid (HB9.out.grown hg1 (by rw [HZ9.out]; omega) (fun b e => by injection e with e; omega))
       have HD1 := Lib.hid ((hg1.block (w.heap.size + 1 + 1 + 1 + 1 + 1 + 1 + 1 + 1) (heap_lt HN9.out) (fun e => by injection e with e; omega)).trans HN9.out)
       clear hp1 hg1)
    | (refine wpList_insert_rule (W := x1.alloc (.cells #[.int .i64 2] 27)) rfl (.tmp 10) (.const (.string TY.sNot)) (.tmp 14) rfl (w.heap.size + 1 + 1 + 1 + 1 + 1 + 1 + 1) _ rfl (HP1.out.keep (Below.heap_alloc _ _ _ HP1.out.lt)) (by simp) TY.sNot (by decide) (x1.heap.size + 1) 1 2 rfl (by simp [ruV_succ, Act.eval]) ?_
       intro x2 hp2 hg2
       have HNR2 := Lib.hid ((HNR1.out.alloc _).map (HP1.out.keep (Below.heap_alloc _ _ _ HP1.out.lt)) hg2)
       have HP2 := Lib.hid hp2
       have hs1 := HB1.out.size
       have HB2 := Lib.hid ((HB1.out.alloc hs1 (.cells #[.int .i64 2] 27)).grown hg2 (by simp; omega) (fun b e => by injection e with e; omega))
       have HD2 := Lib.hid ((hg2.block (w.heap.size + 1 + 1 + 1 + 1 + 1 + 1 + 1 + 1) (heap_lt (heap_up HD1.out)) (fun e => by injection e with e; omega)).trans (heap_up HD1.out))
       have HE2 := Lib.hid ((hg2.block x1.heap.size (by simp) (fun e => by injection e with e; have := HP1.out.lt; omega)).trans (World.alloc_heap_new x1 _))
       obtain ⟨y0, hy0⟩ : ∃ V, x2.alloc (.map #[] 0) = V := ⟨_, rfl⟩
       have hs2 := HB2.out.size
       have HNS0 := Lib.hid (show NS w y0 (w.heap.size + 1 + 1 + 1 + 1 + 1 + 1 + 1) x2.heap.size (w.heap.size + 1 + 1 + 1 + 1 + 1 + 1 + 1 + 1) x1.heap.size [] by
         rw [← hy0]
         exact ⟨HNR2.out.alloc _, HP2.out.keep (Below.heap_alloc _ _ _ HP2.out.lt), Mp.made x2, heap_up HD2.out, heap_up HE2.out, Nat.ne_of_lt HP2.out.lt, HB2.out.alloc hs2 _, hs2⟩)
       obtain ⟨q1, q2, q3, q4, q5, q6⟩ := (HNR2.out.alloc (.map #[] 0)).cells
       have HY0 := Lib.hid hy0
       clear hp2 hg2 hy0)
    | (rw [HY0.out]
       refine wpList_insert_rule (W := y0) rfl (.tmp 16) (.const (.string TY.sPlus)) (.tmp 17) rfl x2.heap.size _ rfl HNS0.out.mb_ (by simp) TY.sPlus (by decide) (w.heap.size + 1 + 1) 2 1 rfl (by simp [ruV_succ, Act.eval]) ?_
       intro y1 hp hg
       have HNS1 := Lib.hid (HNS0.out.step hp hg)
       clear HNS0 hp hg q1 q2 q3 q4 q5 q6
       obtain ⟨q1, q2, q3, q4, q5, q6⟩ := HNS1.out.nr.cells)
    | (refine wpList_insert_rule (W := y1) rfl (.tmp 16) (.const (.string TY.sMinus)) (.tmp 18) rfl x2.heap.size _ rfl HNS1.out.mb_ (by simp) TY.sMinus (by decide) (w.heap.size + 1 + 1) 2 1 rfl (by simp [ruV_succ, Act.eval]) ?_
       intro y2 hp hg
       have HNS2 := Lib.hid (HNS1.out.step hp hg)
       clear HNS1 hp hg q1 q2 q3 q4 q5 q6
       obtain ⟨q1, q2, q3, q4, q5, q6⟩ := HNS2.out.nr.cells)
    | (refine wpList_insert_rule (W := y2) rfl (.tmp 16) (.const (.string TY.sMul)) (.tmp 19) rfl x2.heap.size _ rfl HNS2.out.mb_ (by simp) TY.sMul (by decide) (w.heap.size + 1 + 1) 2 1 rfl (by simp [ruV_succ, Act.eval]) ?_
       intro y3 hp hg
       have HNS3 := Lib.hid (HNS2.out.step hp hg)
       clear HNS2 hp hg q1 q2 q3 q4 q5 q6
       obtain ⟨q1, q2, q3, q4, q5, q6⟩ := HNS3.out.nr.cells)
    | (refine wpList_insert_rule (W := y3) rfl (.tmp 16) (.const (.string TY.sDiv)) (.tmp 20) rfl x2.heap.size _ rfl HNS3.out.mb_ (by simp) TY.sDiv (by decide) (w.heap.size + 1 + 1) 2 1 rfl (by simp [ruV_succ, Act.eval]) ?_
       intro y4 hp hg
       have HNS4 := Lib.hid (HNS3.out.step hp hg)
       clear HNS3 hp hg q1 q2 q3 q4 q5 q6
       obtain ⟨q1, q2, q3, q4, q5, q6⟩ := HNS4.out.nr.cells)
    | (refine wpList_insert_rule (W := y4) rfl (.tmp 16) (.const (.string TY.sLt)) (.tmp 21) rfl x2.heap.size _ rfl HNS4.out.mb_ (by simp) TY.sLt (by decide) (w.heap.size + 1 + 1 + 1 + 1) 2 2 rfl (by simp [ruV_succ, Act.eval]) ?_
       intro y5 hp hg
       have HNS5 := Lib.hid (HNS4.out.step hp hg)
       clear HNS4 hp hg q1 q2 q3 q4 q5 q6
       obtain ⟨q1, q2, q3, q4, q5, q6⟩ := HNS5.out.nr.cells)
    | (refine wpList_insert_rule (W := y5) rfl (.tmp 16) (.const (.string TY.sLe)) (.tmp 22) rfl x2.heap.size _ rfl HNS5.out.mb_ (by simp) TY.sLe (by decide) (w.heap.size + 1 + 1 + 1 + 1) 2 2 rfl (by simp [ruV_succ, Act.eval]) ?_
       intro y6 hp hg
       have HNS6 := Lib.hid (HNS5.out.step hp hg)
       clear HNS5 hp hg q1 q2 q3 q4 q5 q6
       obtain ⟨q1, q2, q3, q4, q5, q6⟩ := HNS6.out.nr.cells)
    | (refine wpList_insert_rule (W := y6) rfl (.tmp 16) (.const (.string TY.sGt)) (.tmp 23) rfl x2.heap.size _ rfl HNS6.out.mb_ (by simp) TY.sGt (by decide) (w.heap.size + 1 + 1 + 1 + 1) 2 2 rfl (by simp [ruV_succ, Act.eval]) ?_
       intro y7 hp hg
       have HNS7 := Lib.hid (HNS6.out.step hp hg)
       clear HNS6 hp hg q1 q2 q3 q4 q5 q6
       obtain ⟨q1, q2, q3, q4, q5, q6⟩ := HNS7.out.nr.cells)
    | (refine wpList_insert_rule (W := y7) rfl (.tmp 16) (.const (.string TY.sGe)) (.tmp 24) rfl x2.heap.size _ rfl HNS7.out.mb_ (by simp) TY.sGe (by decide) (w.heap.size + 1 + 1 + 1 + 1) 2 2 rfl (by simp [ruV_succ, Act.eval]) ?_
       intro y8 hp hg
       have HNS8 := Lib.hid (HNS7.out.step hp hg)
       clear HNS7 hp hg q1 q2 q3 q4 q5 q6
       obtain ⟨q1, q2, q3, q4, q5, q6⟩ := HNS8.out.nr.cells)
    | (refine wpList_insert_rule (W := y8) rfl (.tmp 16) (.const (.string TY.sEq)) (.tmp 25) rfl x2.heap.size _ rfl HNS8.out.mb_ (by simp) TY.sEq (by decide) (w.heap.size + 1 + 1 + 1 + 1) 2 2 rfl (by simp [ruV_succ, Act.eval]) ?_
       intro y9 hp hg
       have HNS9 := Lib.hid (HNS8.out.step hp hg)
       clear HNS8 hp hg q1 q2 q3 q4 q5 q6
       obtain ⟨q1, q2, q3, q4, q5, q6⟩ := HNS9.out.nr.cells)
    | (refine wpList_insert_rule (W := y9) rfl (.tmp 16) (.const (.string TY.sNe)) (.tmp 26) rfl x2.heap.size _ rfl HNS9.out.mb_ (by simp) TY.sNe (by decide) (w.heap.size + 1 + 1 + 1 + 1) 2 2 rfl (by simp [ruV_succ, Act.eval]) ?_
       intro y10 hp hg
       have HNS10 := Lib.hid (HNS9.out.step hp hg)
       clear HNS9 hp hg q1 q2 q3 q4 q5 q6
       obtain ⟨q1, q2, q3, q4, q5, q6⟩ := HNS10.out.nr.cells)
    | (refine wpList_insert_rule (W := y10) rfl (.tmp 16) (.const (.string TY.sAnd)) (.tmp 27) rfl x2.heap.size _ rfl HNS10.out.mb_ (by simp) TY.sAnd (by decide) (w.heap.size + 1 + 1 + 1 + 1 + 1 + 1) 2 2 rfl (by simp [ruV_succ, Act.eval]) ?_
       intro y11 hp hg
       have HNS11 := Lib.hid (HNS10.out.step hp hg)
       clear HNS10 hp hg q1 q2 q3 q4 q5 q6
       obtain ⟨q1, q2, q3, q4, q5, q6⟩ := HNS11.out.nr.cells)
    | (refine wpList_insert_rule (W := y11) rfl (.tmp 16) (.const (.string TY.sOr)) (.tmp 28) rfl x2.heap.size _ rfl HNS11.out.mb_ (by simp) TY.sOr (by decide) (w.heap.size + 1 + 1 + 1 + 1 + 1 + 1) 2 2 rfl (by simp [ruV_succ, Act.eval]) ?_
       intro y12 hp hg
       have HNS12 := Lib.hid (HNS11.out.step hp hg)
       clear HNS11 hp hg q1 q2 q3 q4 q5 q6
       have hob := HNS12.out.nr.r0
       have c0 : y12.cell? ⟨w.heap.size, 0, none⟩ = some (.map none) := cell_of_row y12 _ 0 _ _ (0, 0) hob
       have c1 : y12.cell? ⟨w.heap.size, 1, none⟩ = some (.map none) := cell_of_row y12 _ 1 _ _ (0, 0) hob
       have f0 : y12.frozen? ⟨w.heap.size, 0, none⟩ = false := by simp [World.frozen?, hob]
       have f1 : y12.frozen? ⟨w.heap.size, 1, none⟩ = false := by simp [World.frozen?, hob]
       clear hob))
  have hW := HNS12.out.store
  obtain ⟨W, hWd⟩ : ∃ W, (y12.setCell ⟨w.heap.size, 0, none⟩ (.map (some (w.heap.size + 1 + 1 + 1 + 1 + 1 + 1 + 1)))).setCell ⟨w.heap.size, 1, none⟩ (.map (some x2.heap.size)) = W := ⟨_, rfl⟩
  rw [hWd] at hW ⊢
  obtain ⟨h1, h2, h3⟩ := hW
  refine bodyPost_ret (ret_R rfl _ rfl h1) rfl ?_
  exact ⟨_, _, rfl, h2, h3⟩
end Go.Proofs.Ytligbandpmgmaaa
