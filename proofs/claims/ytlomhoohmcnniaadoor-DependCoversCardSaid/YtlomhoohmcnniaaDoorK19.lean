/-
  The contracts of depend.consumed, of the function that feeds hands on, of slices.IndexFunc and ContainsFunc over messages, of feeds. No condition.
  The contract of depend.Dependent. Condition: the steps' rows lie in memory.
  Go's == and != of pairs of integers. No function of the program.
-/
import Derived.Test.YtlomhoohmcnniaaDoorK2
import Derived.BigRegion
import Derived.Deep.RegionWith

namespace Go.Proofs.YtlomhoohmcnniaaDoor
open Go Go.RowKit Go.Proofs
attribute [local go_sem] Oper.semAt_some

set_option maxHeartbeats 2000000 in
theorem consumed_no (s : DP.St) (W : World) (h : DP.consK s.ev.k = false) : Calls Tryd.prog 52 #[stV s] W fun e w' => e = .returned (.pointer none) ∧ Below W.heap.size W w' := by
  obtain ⟨⟨k, n, a, ⟨mc, mh, mt, mi, mp⟩⟩, qB, qc, qs, ob, sB, sc, ms⟩ := s
  simp only [DP.consK, Bool.or_eq_false_iff] at h
  obtain ⟨⟨h3, h5⟩, h6⟩ := h
  go_enter Tryd.func52, Tryd.ntmps52
  go_wp2_with fail
  go_ret
  exact ⟨rfl, (Below.refl _ _).alloc (Nat.le_refl _) _⟩
set_option maxHeartbeats 2000000 in
theorem consumed_yes (s : DP.St) (W : World) (h : DP.consK s.ev.k = true) : Calls Tryd.prog 52 #[stV s] W fun e w' => ∃ g, e = .returned (.pointer (some ⟨g, 0, none⟩)) ∧ MsBx w' g (DP.orig s.ev.m) ∧ Below W.heap.size W w' := by
  obtain ⟨⟨k, n, a, ⟨mc, mh, mt, mi, mp⟩⟩, qB, qc, qs, ob, sB, sc, ms⟩ := s
  simp only [DP.consK, Bool.or_eq_true, beq_iff_eq] at h
  rcases h with (rfl | rfl) | rfl
  · go_enter Tryd.func52, Tryd.ntmps52
    go_wp2_with fail
    go_ret
    refine ⟨_, rfl, ?_, ?_⟩
    · unfold MsBx
      have := World.alloc_heap_new (W.alloc (.cells #[.int .i64 3, .int .i64 n, .int .i64 a, .int .i64 mc, .int .i64 mh, .int .i64 mt, .int .i64 mi, .int .i64 mp, .slice qB qs.length qc, .bool ob, .slice sB ms.length sc] 52)) (.cells #[.int .i64 mc, .int .i64 mh, .int .i64 mt, .int .i64 mi, .int .i64 0] 46)
      rwa [World.size_alloc] at this
    · exact ((Below.refl _ _).alloc (Nat.le_refl _) _).alloc (by simp) _
  · go_enter Tryd.func52, Tryd.ntmps52
    go_wp2_with fail
    go_ret
    refine ⟨_, rfl, ?_, ?_⟩
    · unfold MsBx
      have := World.alloc_heap_new (W.alloc (.cells #[.int .i64 5, .int .i64 n, .int .i64 a, .int .i64 mc, .int .i64 mh, .int .i64 mt, .int .i64 mi, .int .i64 mp, .slice qB qs.length qc, .bool ob, .slice sB ms.length sc] 52)) (.cells #[.int .i64 mc, .int .i64 mh, .int .i64 mt, .int .i64 mi, .int .i64 0] 46)
      rwa [World.size_alloc] at this
    · exact ((Below.refl _ _).alloc (Nat.le_refl _) _).alloc (by simp) _
  · go_enter Tryd.func52, Tryd.ntmps52
    go_wp2_with fail
    go_ret
    refine ⟨_, rfl, ?_, ?_⟩
    · unfold MsBx
      have := World.alloc_heap_new (W.alloc (.cells #[.int .i64 6, .int .i64 n, .int .i64 a, .int .i64 mc, .int .i64 mh, .int .i64 mt, .int .i64 mi, .int .i64 mp, .slice qB qs.length qc, .bool ob, .slice sB ms.length sc] 52)) (.cells #[.int .i64 mc, .int .i64 mh, .int .i64 mt, .int .i64 mi, .int .i64 0] 46)
      rwa [World.size_alloc] at this
    · exact ((Below.refl _ _).alloc (Nat.le_refl _) _).alloc (by simp) _
set_option maxHeartbeats 2000000 in
/-- The function that feeds hands on: is it this message? -/
theorem isIt_any (m o : NM.Ms) (W : World) (bx g : Nat) (hbx : W.cell? ⟨bx, 0, none⟩ = some (.pointer (some ⟨g, 0, none⟩))) (hg : MsBx W g o) : Calls Tryd.prog 54 #[msV m, .pointer (some ⟨bx, 0, none⟩)] W fun e w' => e = .returned (.bool (decide (m = o))) ∧ Below W.heap.size W w' := by
  obtain ⟨W1, hW1⟩ : ∃ U, W.alloc (.cells #[.int .i64 m.c, .int .i64 m.h, .int .i64 m.t, .int .i64 m.i, .int .i64 m.p] 46) = U := ⟨_, rfl⟩
  have hb1 : Below W.heap.size W W1 := by rw [← hW1]; exact (Below.refl _ _).alloc (Nat.le_refl _) _
  have HB1 := Lib.hid hb1
  obtain ⟨c0, c1, c2, c3, c4⟩ := (hg.keep hg.lt hb1).cells
  have cb := (hb1.cell (p := ⟨bx, 0, none⟩) (World.block_lt_of_cell? _ _ hbx)).trans hbx
  have HEQ := Lib.hid (eqM_any m o)
  have HM : MsBx W1 W.heap.size m := by
    unfold MsBx
    rw [← hW1]
    exact World.alloc_heap_new W _
  obtain ⟨d0, d1, d2, d3, d4⟩ := HM.cells
  clear hb1 HM hg hbx
  obtain ⟨y, hy⟩ : ∃ y, decide (m = o) = y := ⟨_, rfl⟩
  rw [hy] at HEQ ⊢
  clear hy
  have heq : ∀ V, (binOp .eql 46 (msV m) (msV o)).run Tryd.prog V = .ok (.bool y) V := HEQ.out
  clear HEQ
  go_enter Tryd.func54, Tryd.ntmps54
  go_wp2_with (go_quiet (fail))
  go_ret
  exact ⟨rfl, HB1.out.trans ((drewN_below W1 _).mono HB1.out.size)⟩
theorem any_take_one {α : Type} {l : List α} {P : α → Bool} {j : Nat} {t : α} (ht : l[j]? = some t) (h : (l.take j).any P = false) (e : P t = false) : (l.take (j + 1)).any P = false := by
  rw [List.take_add_one, ht, List.any_append, h]
  simp [e]
set_option maxHeartbeats 2000000 in
theorem indexMs_any (W : World) (A : Option Addr) (n c : Nat) (l : List NM.Ms) (o : NM.Ms) (bx g : Nat) (hl : Mss W A n c l) (hn : n ≤ 1000) (hbx : W.cell? ⟨bx, 0, none⟩ = some (.pointer (some ⟨g, 0, none⟩))) (hg : MsBx W g o) :
    Calls Tryd.prog 63 #[.slice A n c, .func (.func 54) #[] #[.pointer (some ⟨bx, 0, none⟩)]] W fun e w' => ∃ z : Int, e = .returned (.int .i64 z) ∧ decide (z ≥ 0) = l.any (fun m => decide (m = o)) ∧ Below W.heap.size W w' := by
  have HL := Lib.hid hl
  have HG := Lib.hid hg
  have HBX := Lib.hid hbx
  have hlen := hl.len
  clear hl hg hbx
  go_enter Tryd.func63, Tryd.ntmps63
  go_wp2_with fail
  go_loopw [8] (fun i V => ∃ j : Nat, j ≤ n ∧ i = .int .i64 (j : Int) ∧ Hid ((l.take j).any (fun m => decide (m = o)) = false) ∧ Hid (Below W.heap.size W V)) (fun i _ => n - (intOf i).toNat)
  case atStart => exact ⟨0, by omega, rfl, (show (l.take 0).any _ = false from rfl), Below.refl _ _⟩
  case round =>
    obtain ⟨j, hj, rfl, hT, hBl⟩ := hrel
    by_cases hjm : j < n
    · obtain ⟨x, hx⟩ : ∃ x, l[j]? = some x := ⟨_, List.getElem?_eq_getElem (by rw [hlen]; exact hjm)⟩
      obtain ⟨q, hq, hql, c0, c1, c2, c3, c4⟩ := ms_at (HL.out.keep hBl.out) hx
      subst hq
      have hcall := isIt_any x o wr bx g ((hBl.out.cell (p := ⟨bx, 0, none⟩) (World.block_lt_of_cell? _ _ HBX.out)).trans HBX.out) (HG.out.keep HG.out.lt hBl.out)
      have HSN := Lib.hid (fun e => any_take_one hx hT.out e)
      have HYE := Lib.hid (show decide (x = o) = true → l.any (fun m => decide (m = o)) = true from fun e => List.any_eq_true.2 ⟨x, List.mem_of_getElem? hx, e⟩)
      obtain ⟨y, hy⟩ : ∃ y, decide (x = o) = y := ⟨_, rfl⟩
      rw [hy] at HSN HYE hcall
      have HC := Lib.hid hcall
      have hszl := hBl.out.size
      clear hx hy hcall
      cases y
      · go_wp2_with (first
          | (refine HC.out.mono ?_; clear HC; rintro e w2 ⟨rfl, hb2⟩; have HB2 := Lib.hid (hBl.out.trans (hb2.mono hBl.out.size)); clear hb2))
        go_roundw
        case rel => exact ⟨j + 1, by omega, by go_num, HSN.out (by simp), HB2.out⟩
        case measure => simp [intOf]; omega
      · go_wp2_with (first
          | (refine HC.out.mono ?_; clear HC; rintro e w2 ⟨rfl, hb2⟩; have HB2 := Lib.hid (hBl.out.trans (hb2.mono hBl.out.size)); clear hb2))
        go_ret
        exact ⟨_, rfl, by rw [HYE.out (by simp)]; simp, HB2.out⟩
    · obtain rfl : j = n := by omega
      have HY := Lib.hid (show l.any (fun m => decide (m = o)) = false by
        have := hT.out
        rwa [List.take_of_length_le (by rw [hlen]; exact Nat.le_refl _)] at this)
      go_wp2_with fail
      go_ret
      exact ⟨_, rfl, by rw [HY.out]; decide, hBl.out⟩
set_option maxHeartbeats 2000000 in
theorem containsMs_any (W : World) (A : Option Addr) (n c : Nat) (l : List NM.Ms) (o : NM.Ms) (bx g : Nat) (hl : Mss W A n c l) (hn : n ≤ 1000) (hbx : W.cell? ⟨bx, 0, none⟩ = some (.pointer (some ⟨g, 0, none⟩))) (hg : MsBx W g o) :
    Calls Tryd.prog 53 #[.slice A n c, .func (.func 54) #[] #[.pointer (some ⟨bx, 0, none⟩)]] W fun e w' => e = .returned (.bool (l.any fun m => decide (m = o))) ∧ Below W.heap.size W w' := by
  have HI := Lib.hid (indexMs_any W A n c l o bx g hl hn hbx hg)
  obtain ⟨y, hy⟩ : ∃ y, (l.any fun m => decide (m = o)) = y := ⟨_, rfl⟩
  rw [hy] at HI ⊢
  clear hl hg hbx hy
  go_enter Tryd.func53, Tryd.ntmps53
  go_wp2_with (first
    | (go_at_call 63; refine HI.out.mono ?_; clear HI; rintro e w2 ⟨z, rfl, hz, hb2⟩))
  go_ret
  exact ⟨rfl, hb2⟩
set_option maxHeartbeats 2000000 in
/-- Did a send what b consumes? -/
theorem feeds_any (a b : DP.St) (W : World) (ha : Mss W a.sB a.ms.length a.sc a.ms) (hl : a.ms.length ≤ 1000) :
    Calls Tryd.prog 34 #[stV a, stV b] W fun e w' => e = .returned (.bool (DP.feeds a b)) ∧ Below W.heap.size W w' := by
  obtain ⟨y, hy⟩ : ∃ y, DP.consK b.ev.k = y := ⟨_, rfl⟩
  have HF := Lib.hid (show DP.feeds a b = (y && a.ms.any fun m => decide (m = DP.orig b.ev.m)) by unfold DP.feeds; rw [hy])
  obtain ⟨t1, t2, t3⟩ := two_st W a b
  have HU : Hid (∀ V, Below ((W.alloc (stO a)).alloc (stO b)).heap.size ((W.alloc (stO a)).alloc (stO b)) V → V.cell? ⟨W.heap.size, 10, none⟩ = some (.slice a.sB a.ms.length a.sc) ∧ Below W.heap.size W V) := fun V hV => ⟨(t1.keep t1.lt hV).cells.2.2.2.2.2.2.2.2.2.2, t3.trans (hV.mono t3.size)⟩
  have HA := Lib.hid ha
  obtain ⟨z, hz⟩ : ∃ z, (a.ms.any fun m => decide (m = DP.orig b.ev.m)) = z := ⟨_, rfl⟩
  have HZ := Lib.hid hz
  rw [hz] at HF
  clear t1 t2 t3 ha hz
  obtain ⟨⟨k, n, ea, ⟨mc, mh, mt, mi, mp⟩⟩, qB, qc, qs, ob, sB, sc, ms⟩ := a
  obtain ⟨⟨k2, n2, ea2, ⟨mc2, mh2, mt2, mi2, mp2⟩⟩, qB2, qc2, qs2, ob2, sB2, sc2, ms2⟩ := b
  cases y
  · have HN := Lib.hid (fun V => consumed_no _ V hy)
    clear hy HZ
    go_enter Tryd.func34, Tryd.ntmps34
    go_wp2_with (first
      | (go_at_call 52; refine (HN.out _).mono ?_; clear HN; rintro e w2 ⟨rfl, hb2⟩; have hb3 := (HU.out _ hb2).2; clear hb2 HU))
    go_ret
    exact ⟨by rw [HF.out]; rfl, hb3.alloc hb3.size _⟩
  · have HN := Lib.hid (fun V => consumed_yes _ V hy)
    clear hy
    go_enter Tryd.func34, Tryd.ntmps34
    go_wp2_with (first
      | (go_at_call 52
         refine (HN.out _).mono ?_
         clear HN
         rintro e w2 ⟨g, rfl, hg, hb2⟩
         obtain ⟨h10, hb3⟩ := HU.out _ hb2
         obtain ⟨w3, hw3⟩ : ∃ U, w2.alloc (.cells #[.pointer (some ⟨g, 0, none⟩)] 91) = U := ⟨_, rfl⟩
         have hb4 : Below w2.heap.size w2 w3 := by rw [← hw3]; exact (Below.refl _ _).alloc (Nat.le_refl _) _
         have hbx : w3.cell? ⟨w2.heap.size, 0, none⟩ = some (.pointer (some ⟨g, 0, none⟩)) := by rw [← hw3]; exact cell_of_row _ _ 0 _ _ (0, 0) (World.alloc_heap_new w2 _)
         have hc10 := (hb4.cell (p := ⟨W.heap.size, 10, none⟩) (World.block_lt_of_cell? _ _ h10)).trans h10
         have hb5 := hb3.trans (hb4.mono hb3.size)
         have HC := Lib.hid (containsMs_any w3 sB ms.length sc ms (DP.orig ⟨mc2, mh2, mt2, mi2, mp2⟩) w2.heap.size g ((HA.out.keep hb3).keep (hb4.mono (Nat.le_refl _))) hl hbx (hg.keep hg.lt hb4))
         have HB5 := Lib.hid hb5
         clear hb2 HU hg hb4 hb3 hb5 HA)
      | (go_at_call 53
         refine HC.out.mono ?_
         clear HC
         rintro e w4 ⟨rfl, hb6⟩
         have HB6 := Lib.hid hb6
         clear hb6))
    go_ret
    exact ⟨by rw [HF.out, ← HZ.out]; rfl, HB5.out.trans (HB6.out.mono HB5.out.size)⟩
end Go.Proofs.YtlomhoohmcnniaaDoor

namespace Go.Proofs.YtlomhoohmcnniaaDoor
open Go Go.RowKit Go.Proofs
attribute [local go_sem] Oper.semAt_some

set_option maxHeartbeats 4000000 in
theorem dependent_any (a b : DP.St) (W : World) (ha : StIn W a) (hb : StIn W b) :
    Calls Tryd.prog 22 #[stV a, stV b] W fun e w' => e = .returned (.bool (DP.dep a b)) ∧ Below W.heap.size W w' := by
  obtain ⟨t1, t2, t3⟩ := two_st W a b
  have HU : Hid (∀ V, Below ((W.alloc (stO a)).alloc (stO b)).heap.size ((W.alloc (stO a)).alloc (stO b)) V → StBx V W.heap.size a ∧ StBx V (W.heap.size + 1) b ∧ Below W.heap.size W V) := fun V hV => ⟨t1.keep t1.lt hV, t2.keep t2.lt hV, t3.trans (hV.mono t3.size)⟩
  have HA := Lib.hid ha
  have HB := Lib.hid hb
  have HF1 : Hid (∀ V, Below W.heap.size W V → Calls Tryd.prog 34 #[stV a, stV b] V fun e w' => e = .returned (.bool (DP.feeds a b)) ∧ Below V.heap.size V w') := fun V hV => feeds_any a b V (ha.keep hV).ms ha.ml
  have HF2 : Hid (∀ V, Below W.heap.size W V → Calls Tryd.prog 34 #[stV b, stV a] V fun e w' => e = .returned (.bool (DP.feeds b a)) ∧ Below V.heap.size V w') := fun V hV => feeds_any b a V (hb.keep hV).ms hb.ml
  obtain ⟨f1, hf1⟩ : ∃ y, DP.feeds a b = y := ⟨_, rfl⟩
  obtain ⟨f2, hf2⟩ : ∃ y, DP.feeds b a = y := ⟨_, rfl⟩
  have HD := Lib.hid (show DP.dep a b = ((a.ev.n == b.ev.n) || (a.ob && b.ob) || f1 || f2) by unfold DP.dep; rw [hf1, hf2])
  rw [hf1] at HF1
  rw [hf2] at HF2
  clear t1 t2 t3 ha hb hf1 hf2
  obtain ⟨⟨k, n, ea, ⟨mc, mh, mt, mi, mp⟩⟩, qB, qc, qs, ob, sB, sc, ms⟩ := a
  obtain ⟨⟨k2, n2, ea2, ⟨mc2, mh2, mt2, mi2, mp2⟩⟩, qB2, qc2, qs2, ob2, sB2, sc2, ms2⟩ := b
  have HT := Lib.hid ((HU.out _ (Below.refl _ _)).2.2)
  obtain ⟨y1, hy1⟩ : ∃ y, (n == n2) = y := ⟨_, rfl⟩
  have hd : DP.dep ⟨⟨k, n, ea, ⟨mc, mh, mt, mi, mp⟩⟩, qB, qc, qs, ob, sB, sc, ms⟩ ⟨⟨k2, n2, ea2, ⟨mc2, mh2, mt2, mi2, mp2⟩⟩, qB2, qc2, qs2, ob2, sB2, sc2, ms2⟩ = (y1 || (ob && ob2) || f1 || f2) := by rw [HD.out]; show ((n == n2) || _ || _ || _) = _; rw [hy1]
  rw [hd]
  clear hd HD
  cases y1
  · cases hob : (ob && ob2)
    · have ho : ob = false ∨ (ob = true ∧ ob2 = false) := by cases ob <;> cases ob2 <;> simp at hob ⊢
      clear hob
      cases f1
      · rcases ho with rfl | ⟨rfl, rfl⟩
        all_goals
          go_enter Tryd.func22, Tryd.ntmps22
          go_wp2_with (first
            | (go_at_call 34
               refine (HF1.out _ HT.out).mono ?_
               clear HF1
               rintro e w2 ⟨rfl, hb2⟩
               obtain ⟨u1, u2, hb3⟩ := HU.out _ hb2
               obtain ⟨p0, p1, p2, p3, p4, p5, p6, p7, p8, p9, p10⟩ := u1.cells
               obtain ⟨q0, q1, q2, q3, q4, q5, q6, q7, q8, q9, q10⟩ := u2.cells
               have HB3 := Lib.hid hb3
               clear u1 u2 hb2 hb3)
            | (go_at_call 34
               refine (HF2.out _ HB3.out).mono ?_
               clear HF2
               rintro e w3 ⟨rfl, hb4⟩
               have HB4 := Lib.hid (HB3.out.trans (hb4.mono HB3.out.size))
               clear hb4))
          go_ret
          exact ⟨by simp, HB4.out⟩
      · rcases ho with rfl | ⟨rfl, rfl⟩
        all_goals
          go_enter Tryd.func22, Tryd.ntmps22
          go_wp2_with (first
            | (go_at_call 34
               refine (HF1.out _ HT.out).mono ?_
               clear HF1
               rintro e w2 ⟨rfl, hb2⟩
               obtain ⟨u1, u2, hb3⟩ := HU.out _ hb2
               have HB3 := Lib.hid hb3
               clear u1 u2 hb2 hb3))
          go_ret
          exact ⟨by simp, HB3.out⟩
    · obtain ⟨rfl, rfl⟩ : ob = true ∧ ob2 = true := by cases ob <;> cases ob2 <;> simp at hob ⊢
      go_enter Tryd.func22, Tryd.ntmps22
      go_wp2_with fail
      go_ret
      exact ⟨by simp, HT.out⟩
  · go_enter Tryd.func22, Tryd.ntmps22
    go_wp2_with fail
    go_ret
    exact ⟨by simp, HT.out⟩
end Go.Proofs.YtlomhoohmcnniaaDoor

namespace Go.Proofs.YtlomhoohmcnniaaDoor
open Go Go.RowKit Go.Proofs

theorem eq_pairD (a b c d : Int) (w : World) : (Op.equalIn 10000 42 (.agg #[.int .i64 a, .int .i64 b]) (.agg #[.int .i64 c, .int .i64 d])).run Tryd.prog w = .ok (a == c && b == d) w := by
  have u3 := Tryd.underlying3
  have a3 := Tryd.isAgg3
  have z3 := Tryd.sizeOf3
  rw [show (10000 : Nat) = 9999 + 1 from rfl, Op.equalIn]
  simp only [Sem.run_bind, run_underlying Tryd.underlying42, Result.andThen_ok]
  simp only [Std.Legacy.Range.forIn_eq_forIn_range', Std.Legacy.Range.size, Nat.sub_zero, Nat.add_sub_cancel, Nat.div_one, List.range'_succ, List.range'_zero, List.forIn_cons, List.forIn_nil]
  go_simp
  by_cases h1 : a = c <;> by_cases h2 : b = d <;> simp [h1, h2]
theorem eqP_any (a b c d : Int) (W : World) : (binOp .eql 42 (.agg #[.int .i64 a, .int .i64 b]) (.agg #[.int .i64 c, .int .i64 d])).run Tryd.prog W = .ok (.bool (a == c && b == d)) W := by
  rw [run_eql_struct, eq_pairD]
  rfl
theorem neP_any (a b c d : Int) (W : World) : (binOp .neq 42 (.agg #[.int .i64 a, .int .i64 b]) (.agg #[.int .i64 c, .int .i64 d])).run Tryd.prog W = .ok (.bool (!(a == c && b == d))) W := by
  rw [run_neq_struct, eq_pairD]
  rfl
end Go.Proofs.YtlomhoohmcnniaaDoor
