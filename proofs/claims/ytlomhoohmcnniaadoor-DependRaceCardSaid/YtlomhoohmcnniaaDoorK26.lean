/-
  The contract of the reference's feeds. Condition: the messages lie in memory.
  The contract of the reference's Dependent. Condition: the steps' rows lie in memory.
-/
import Derived.Test.YtlomhoohmcnniaaDoorK19

namespace Go.Proofs.YtlomhoohmcnniaaDoor
open Go Go.RowKit Go.Proofs
attribute [local go_sem] Oper.semAt_some

theorem eqC_any (c h t c' h' t' : Int) (W : World) : (binOp .eql 44 (.agg #[.int .i64 c, .int .i64 h, .int .i64 t]) (.agg #[.int .i64 c', .int .i64 h', .int .i64 t'])).run Tryd.prog W = .ok (.bool (decide (c = c' ∧ h = h' ∧ t = t'))) W := by
  rw [run_eql_struct, show (10000 : Nat) = 9998 + 2 from rfl, eq_cause]
  show Result.ok (Value.bool _) W = _
  congr 2
  rw [Bool.eq_iff_iff]
  simp
set_option maxHeartbeats 4000000 in
theorem refFeeds_any (a b : DP.St) (W : World) (ha : Mss W a.sB a.ms.length a.sc a.ms) (hl : a.ms.length ≤ 1000) :
    Calls Tryd.prog 35 #[stV a, stV b] W fun e w' => e = .returned (.bool (DP.feeds a b)) ∧ Below W.heap.size W w' := by
  obtain ⟨t1, t2, t3⟩ := two_st W a b
  obtain ⟨W1, hW1⟩ : ∃ U, (W.alloc (stO a)).alloc (stO b) = U := ⟨_, rfl⟩
  have hz1 : W1.heap.size = W.heap.size + 2 := by rw [← hW1]; simp
  rw [hW1] at t1 t2 t3
  have HA := Lib.hid (ha.keep t3)
  obtain ⟨y, hy⟩ : ∃ y, DP.consK b.ev.k = y := ⟨_, rfl⟩
  have HF := Lib.hid (show DP.feeds a b = (y && a.ms.any fun m => decide (m = DP.orig b.ev.m)) by unfold DP.feeds; rw [hy])
  have HT := Lib.hid t3
  have h1 := t1.cells
  have h2 := t2.cells
  have HW1 := Lib.hid hW1
  clear t1 t2 t3 ha hW1
  obtain ⟨⟨k, n, ea, ⟨mc, mh, mt, mi, mp⟩⟩, qB, qc, qs, ob, sB, sc, ms⟩ := a
  obtain ⟨⟨k2, n2, ea2, ⟨mc2, mh2, mt2, mi2, mp2⟩⟩, qB2, qc2, qs2, ob2, sB2, sc2, ms2⟩ := b
  obtain ⟨p0, p1, p2, p3, p4, p5, p6, p7, p8, p9, p10⟩ := h1
  obtain ⟨q0, q1, q2, q3, q4, q5, q6, q7, q8, q9, q10⟩ := h2
  cases y
  · simp only [DP.consK, Bool.or_eq_false_iff] at hy
    obtain ⟨⟨h3, h5⟩, h6⟩ := hy
    have g3 : (k2 != 3) = true := by simp [bne, h3]
    have g5 : (k2 != 5) = true := by simp [bne, h5]
    have g6 : (k2 != 6) = true := by simp [bne, h6]
    clear h3 h5 h6
    have hw1 := HW1.out
    go_enter Tryd.func35, Tryd.ntmps35
    go_wp2_with fail
    go_ret
    exact ⟨by rw [HF.out]; rfl, HT.out⟩
  · simp only [DP.consK, Bool.or_eq_true, beq_iff_eq] at hy
    have hk : k2 = 3 ∨ k2 = 5 ∨ k2 = 6 := by rcases hy with (h | h) | h <;> simp [h]
    clear hy
    have hw1 := HW1.out
    rcases hk with rfl | rfl | rfl
    all_goals
      go_enter Tryd.func35, Tryd.ntmps35
      go_wp2_with fail
      go_loopw [6] (fun i V => ∃ j : Nat, j ≤ ms.length ∧ i = .int .i64 (j : Int) ∧ Hid ((ms.take j).any (fun m => decide (m = DP.orig ⟨mc2, mh2, mt2, mi2, mp2⟩)) = false) ∧ Hid (Below W1.heap.size W1 V)) (fun i _ => ms.length - (intOf i).toNat)
      case atStart => exact ⟨0, by omega, rfl, (show (ms.take 0).any _ = false from rfl), Below.refl _ _⟩
      case round =>
        obtain ⟨j, hj, rfl, hT, hBl⟩ := hrel
        obtain ⟨wo, hwo⟩ : ∃ V, V = wr := ⟨_, rfl⟩
        subst hwo
        have k1 : ∀ o u, W1.cell? ⟨W.heap.size, o, none⟩ = some u → wo.cell? ⟨W.heap.size, o, none⟩ = some u := fun o u hu => (hBl.out.cell (p := ⟨W.heap.size, o, none⟩) (show W.heap.size < _ by omega)).trans hu
        have k2 : ∀ o u, W1.cell? ⟨W.heap.size + 1, o, none⟩ = some u → wo.cell? ⟨W.heap.size + 1, o, none⟩ = some u := fun o u hu => (hBl.out.cell (p := ⟨W.heap.size + 1, o, none⟩) (show W.heap.size + 1 < _ by omega)).trans hu
        have r10 := k1 _ _ p10
        have s3 := k2 _ _ q3
        have s4 := k2 _ _ q4
        have s5 := k2 _ _ q5
        have s6 := k2 _ _ q6
        clear k1 k2 p0 p1 p2 p3 p4 p5 p6 p7 p8 p9 p10 q0 q1 q2 q3 q4 q5 q6 q7 q8 q9 q10
        by_cases hjm : j < ms.length
        · obtain ⟨⟨xc, xh, xt, xi, xp⟩, hx⟩ : ∃ x, ms[j]? = some x := ⟨_, List.getElem?_eq_getElem hjm⟩
          obtain ⟨q, hq, hql, c0, c1, c2, c3, c4⟩ := ms_at (HA.out.keep hBl.out) hx
          subst hq
          have HSN := Lib.hid (fun e => any_take_one hx hT.out e)
          have HYE := Lib.hid (show decide ((⟨xc, xh, xt, xi, xp⟩ : NM.Ms) = DP.orig ⟨mc2, mh2, mt2, mi2, mp2⟩) = true → ms.any (fun m => decide (m = DP.orig ⟨mc2, mh2, mt2, mi2, mp2⟩)) = true from fun e => List.any_eq_true.2 ⟨_, List.mem_of_getElem? hx, e⟩)
          have hde : decide ((⟨xc, xh, xt, xi, xp⟩ : NM.Ms) = DP.orig ⟨mc2, mh2, mt2, mi2, mp2⟩) = ((xp == 0) && decide (xc = mc2 ∧ xh = mh2 ∧ xt = mt2) && (xi == mi2)) := by
            unfold DP.orig
            rw [Bool.eq_iff_iff]
            simp
            constructor
            · rintro ⟨rfl, rfl, rfl, rfl, rfl⟩
              simp
            · rintro ⟨⟨rfl, rfl, rfl, rfl⟩, rfl⟩
              simp
          rw [hde] at HSN HYE
          have heq : ∀ V, (binOp .eql 44 (.agg #[.int .i64 xc, .int .i64 xh, .int .i64 xt]) (.agg #[.int .i64 mc2, .int .i64 mh2, .int .i64 mt2])).run Tryd.prog V = .ok (.bool (decide (xc = mc2 ∧ xh = mh2 ∧ xt = mt2))) V := fun V => eqC_any xc xh xt mc2 mh2 mt2 V
          obtain ⟨z1, hz1'⟩ : ∃ y, (xp == 0) = y := ⟨_, rfl⟩
          obtain ⟨z2, hz2⟩ : ∃ y, decide (xc = mc2 ∧ xh = mh2 ∧ xt = mt2) = y := ⟨_, rfl⟩
          obtain ⟨z3, hz3⟩ : ∃ y, (xi == mi2) = y := ⟨_, rfl⟩
          rw [hz1', hz2, hz3] at HSN HYE
          rw [hz2] at heq
          clear hz2 hde hx
          have hszl := hBl.out.size
          cases z1
          · go_wp2_with (go_quiet (fail))
            go_roundw
            case rel => exact ⟨j + 1, by omega, by go_num, HSN.out (by simp), hBl.out.trans ((drewN_below wo _).mono hBl.out.size)⟩
            case measure => simp [intOf]; omega
          · cases z2
            · go_wp2_with (go_quiet (fail))
              go_roundw
              case rel => exact ⟨j + 1, by omega, by go_num, HSN.out (by simp), hBl.out.trans ((drewN_below wo _).mono hBl.out.size)⟩
              case measure => simp [intOf]; omega
            · cases z3
              · go_wp2_with (go_quiet (fail))
                go_roundw
                case rel => exact ⟨j + 1, by omega, by go_num, HSN.out (by simp), hBl.out.trans ((drewN_below wo _).mono hBl.out.size)⟩
                case measure => simp [intOf]; omega
              · go_wp2_with (go_quiet (fail))
                go_ret
                exact ⟨by rw [HF.out, HYE.out (by simp)]; rfl, HT.out.trans ((hBl.out.trans ((drewN_below wo _).mono hBl.out.size)).mono HT.out.size)⟩
        · obtain rfl : j = ms.length := by omega
          have HY := Lib.hid (show ms.any (fun m => decide (m = DP.orig ⟨mc2, mh2, mt2, mi2, mp2⟩)) = false by
            have := hT.out
            rwa [List.take_length] at this)
          go_wp2_with fail
          go_ret
          exact ⟨by rw [HF.out, HY.out]; rfl, HT.out.trans (hBl.out.mono HT.out.size)⟩
end Go.Proofs.YtlomhoohmcnniaaDoor

namespace Go.Proofs.YtlomhoohmcnniaaDoor
open Go Go.RowKit Go.Proofs
attribute [local go_sem] Oper.semAt_some

set_option maxHeartbeats 4000000 in
theorem refDep_any (a b : DP.St) (W : World) (ha : StIn W a) (hb : StIn W b) :
    Calls Tryd.prog 29 #[stV a, stV b] W fun e w' => e = .returned (.bool (DP.dep a b)) ∧ Below W.heap.size W w' := by
  obtain ⟨t1, t2, t3⟩ := two_st W a b
  have HU : Hid (∀ V, Below ((W.alloc (stO a)).alloc (stO b)).heap.size ((W.alloc (stO a)).alloc (stO b)) V → StBx V W.heap.size a ∧ StBx V (W.heap.size + 1) b ∧ Below W.heap.size W V) := fun V hV => ⟨t1.keep t1.lt hV, t2.keep t2.lt hV, t3.trans (hV.mono t3.size)⟩
  have HA := Lib.hid ha
  have HB := Lib.hid hb
  have HF1 : Hid (∀ V, Below W.heap.size W V → Calls Tryd.prog 35 #[stV a, stV b] V fun e w' => e = .returned (.bool (DP.feeds a b)) ∧ Below V.heap.size V w') := fun V hV => refFeeds_any a b V (ha.keep hV).ms ha.ml
  have HF2 : Hid (∀ V, Below W.heap.size W V → Calls Tryd.prog 35 #[stV b, stV a] V fun e w' => e = .returned (.bool (DP.feeds b a)) ∧ Below V.heap.size V w') := fun V hV => refFeeds_any b a V (hb.keep hV).ms hb.ml
  obtain ⟨f1, hf1⟩ : ∃ y, DP.feeds a b = y := ⟨_, rfl⟩
  obtain ⟨f2, hf2⟩ : ∃ y, DP.feeds b a = y := ⟨_, rfl⟩
  have HD := Lib.hid (show DP.dep a b = ((a.ev.n == b.ev.n) || (a.ob && b.ob) || f1 || f2) by unfold DP.dep; rw [hf1, hf2])
  rw [hf1] at HF1
  rw [hf2] at HF2
  clear t1 t2 t3 ha hb hf1 hf2
  obtain ⟨⟨k, n, ea, ⟨mc, mh, mt, mi, mp⟩⟩, qB, qc, qs, ob, sB, sc, ms⟩ := a
  obtain ⟨⟨k2, n2, ea2, ⟨mc2, mh2, mt2, mi2, mp2⟩⟩, qB2, qc2, qs2, ob2, sB2, sc2, ms2⟩ := b
  have HT := Lib.hid ((HU.out _ (Below.refl _ _)).2.2)
  obtain ⟨y1, hy1⟩ : ∃ y, (n == n2) = y := ⟨_, rfl⟩
  have hd : DP.dep ⟨⟨k, n, ea, ⟨mc, mh, mt, mi, mp⟩⟩, qB, qc, qs, ob, sB, sc, ms⟩ ⟨⟨k2, n2, ea2, ⟨mc2, mh2, mt2, mi2, mp2⟩⟩, qB2, qc2, qs2, ob2, sB2, sc2, ms2⟩ = (y1 || (ob && ob2) || f1 || f2) := by rw [HD.out]; show ((n == n2) || _ || _ || _) = _; rw [hy1]
  rw [hd]
  clear hd HD
  cases y1
  · cases hob : (ob && ob2)
    · have ho : ob = false ∨ (ob = true ∧ ob2 = false) := by cases ob <;> cases ob2 <;> simp at hob ⊢
      clear hob
      cases f1
      · rcases ho with rfl | ⟨rfl, rfl⟩
        all_goals
          go_enter Tryd.func29, Tryd.ntmps29
          go_wp2_with (first
            | (go_at_call 35
               refine (HF1.out _ HT.out).mono ?_
               clear HF1
               rintro e w2 ⟨rfl, hb2⟩
               obtain ⟨u1, u2, hb3⟩ := HU.out _ hb2
               obtain ⟨p0, p1, p2, p3, p4, p5, p6, p7, p8, p9, p10⟩ := u1.cells
               obtain ⟨q0, q1, q2, q3, q4, q5, q6, q7, q8, q9, q10⟩ := u2.cells
               have HB3 := Lib.hid hb3
               clear u1 u2 hb2 hb3)
            | (go_at_call 35
               refine (HF2.out _ HB3.out).mono ?_
               clear HF2
               rintro e w3 ⟨rfl, hb4⟩
               have HB4 := Lib.hid (HB3.out.trans (hb4.mono HB3.out.size))
               clear hb4))
          go_ret
          exact ⟨by simp, HB4.out⟩
      · rcases ho with rfl | ⟨rfl, rfl⟩
        all_goals
          go_enter Tryd.func29, Tryd.ntmps29
          go_wp2_with (first
            | (go_at_call 35
               refine (HF1.out _ HT.out).mono ?_
               clear HF1
               rintro e w2 ⟨rfl, hb2⟩
               obtain ⟨u1, u2, hb3⟩ := HU.out _ hb2
               have HB3 := Lib.hid hb3
               clear u1 u2 hb2 hb3))
          go_ret
          exact ⟨by simp, HB3.out⟩
    · obtain ⟨rfl, rfl⟩ : ob = true ∧ ob2 = true := by cases ob <;> cases ob2 <;> simp at hob ⊢
      go_enter Tryd.func29, Tryd.ntmps29
      go_wp2_with fail
      go_ret
      exact ⟨by simp, HT.out⟩
  · go_enter Tryd.func29, Tryd.ntmps29
    go_wp2_with fail
    go_ret
    exact ⟨by simp, HT.out⟩
end Go.Proofs.YtlomhoohmcnniaaDoor
