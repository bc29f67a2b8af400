/-
  The parser's block, given sequence; the closures of statements. Conditions: the parser stands.
  The parser's ifElse. Conditions: the parser stands; expr and block parse.
  The parser's while. Conditions: the parser stands; expr and block parse.
  The parser's sequence, given what statement does. Conditions: the parser stands.
  The map of the statements' functions: what it answers. No function of the program but the entries' numbers.
  The parser's handlerNumber. Condition: the parser stands.
-/
import Derived.Test.YtlfpaemfhanpiaaGreatDoorK26
import Derived.Test.YtlfpaemfhanpiaaGreatDoorK4
import Derived.Test.YtlfpaemfhanpiaaGreatDoorK2
import Derived.Deep.AppendLies
import Derived.Maps.Own
import Derived.Deep.WholeRow
import Derived.Maps.OwnSet
import Derived.Maps.Views
import Derived.Maps.Keyed

namespace Go.Proofs.YtlfpaemfhanpiaaGreatDoor
open Go Go.RowKit Go.Proofs
attribute [local go_sem] Oper.semAt_some field0 field1 field2 field3

set_option maxRecDepth 100000 in
set_option maxHeartbeats 4000000 in
theorem blockP_any (K : Pc) (lv : Nat) (M : List LX.Tok → PS.PR TY.Nd) (hF : PFn 103 #[.pointer (some ⟨K.g, 0, none⟩)] K (lv + 1) M) :
    PFn 78 #[.pointer (some ⟨K.g, 0, none⟩)] K lv (fun ts => ((PS.opn PS.yLB lv ts).bind fun _ u => M u).bind fun x r => (PS.must PS.yRB r).bind fun _ r => .ok x r) := by
  intro V ts hlv h hR
  have hD := deeper_any (enters_of Tryz.func103 (by kernel_rfl) rfl) K lv PS.yLB (by decide) M hF
  have F1 := Lib.hid (Fr.begin h)
  have hmf := mkf
  dsimp only at hR ⊢
  cases hm : (PS.opn PS.yLB lv ts).bind fun _ u => M u with
  | out => rw [hm] at hR; exact absurd rfl hR
  | err p c =>
    have HD := Lib.hid (hD.at_ hm hlv err_ne)
    clear h hF hR hm hD
    go_enter Tryz.func78, Tryz.ntmps78
    go_wp2_with (first
      | (go_at_call 102; refine (HD.out _ F1.out.pat).mono ?_; rintro e w2 ⟨hC, rfl⟩))
    exact ⟨rfl, F1.out.chg.trans hC (fun _ _ e => e), rfl⟩
  | ok n r =>
    rw [hm] at hR
    simp only [PS.PR.bind_ok] at hR ⊢
    have HD := Lib.hid (hD.at_ hm hlv ok_ne)
    clear hm h hF hD
    cases hq : PS.must PS.yRB r with
    | out => rw [hq] at hR; exact absurd rfl hR
    | err p c =>
      have HQ := Lib.hid hq
      clear hR hq
      go_enter Tryz.func78, Tryz.ntmps78
      go_wp2_with (first
        | (go_at_call 102; refine (HD.out _ F1.out.pat).mono ?_; clear HD; rintro e w2 ⟨hC, v, rfl, hv, hP⟩; obtain ⟨k2, n2, s2, A2, m2, c2, rfl⟩ := hv.shape; have F2 := Lib.hid (F1.out.step hC hP); clear hv hC hP)
        | (go_at_call 76; refine (must_any _ K r lv PS.yRB (by decide) (F2.out.alloc _).pat).mono ?_; rw [HQ.out]; rintro e w3 ⟨hC, rfl⟩))
      exact ⟨rfl, (F2.out.alloc _).chg.trans hC (fun _ _ e => e), rfl⟩
    | ok a r3 =>
      have HQ := Lib.hid hq
      clear hR hq
      go_enter Tryz.func78, Tryz.ntmps78
      go_wp2_with (first
        | (go_at_call 102; refine (HD.out _ F1.out.pat).mono ?_; clear HD; rintro e w2 ⟨hC, v, rfl, hv, hP⟩; obtain ⟨k2, n2, s2, A2, m2, c2, rfl⟩ := hv.shape; have F2 := Lib.hid (F1.out.step hC hP); have z2 := hC.size; have V2 := Lib.hid (hv.sx (x := w2.heap.size) F1.out.lt (.inr (Nat.le_refl _))); clear hv hC hP)
        | (go_at_call 76; refine (must_any _ K r lv PS.yRB (by decide) (F2.out.alloc _).pat).mono ?_; rw [HQ.out]; rintro e w3 ⟨hC, rfl, hP⟩; have F3 := Lib.hid ((F2.out.alloc _).step hC hP); have B3 := Lib.hid ((hC.block w2.heap.size (by rw [World.size_alloc]; omega) (by have := F2.out.nums.1; omega)).trans (World.alloc_heap_new w2 _)); have V3 := Lib.hid ((V2.out.below ((Below.refl _ _).alloc (Nat.le_refl _) _)).step hC F2.out.g); obtain ⟨q0, q1, q2, q3, r0, r1, r2, r3⟩ := F3.out.cells; obtain ⟨i1, i2, i3, i4⟩ := F3.out.nums; obtain ⟨b0, b1, b2, b3, _⟩ := tok_cells B3.out; clear hC hP))
      have f := F3.out.fin V3.out [] rfl
      refine bodyPost_ret (ret_N rfl _ rfl f.1) rfl f.2
set_option maxRecDepth 100000 in
set_option maxHeartbeats 4000000 in
theorem stm1_any (K : Pc) (lv : Nat) : PFn 48 #[.pointer (some ⟨K.g, 0, none⟩)] K lv (onW PS.wTimer (PS.pTimer 5)) := by
  intro V ts hlv h hR
  have F1 := Lib.hid (Fr.begin h)
  have hC := timer_any K lv 5 PS.wTimer (by decide)
  obtain ⟨R, hRR⟩ : ∃ R, onW PS.wTimer (PS.pTimer 5) ts = R := ⟨_, rfl⟩
  rw [hRR] at hR ⊢
  cases R with
  | out => exact absurd rfl hR
  | err p c =>
    have HD := Lib.hid (hC.at_ hRR hlv err_ne _ F1.out.pat)
    clear h hR hRR hC
    go_enter Tryz.func48, Tryz.ntmps48
    go_wp2_with (first
      | (go_at_call 49; refine HD.out.mono ?_; clear HD; rintro e w3 ⟨hC, rfl⟩))
    exact ⟨rfl, F1.out.chg.trans hC (fun _ _ e => e), rfl⟩
  | ok n r =>
    have HD := Lib.hid (hC.at_ hRR hlv ok_ne _ F1.out.pat)
    clear h hR hRR hC
    go_enter Tryz.func48, Tryz.ntmps48
    go_wp2_with (first
      | (go_at_call 49; refine HD.out.mono ?_; clear HD; rintro e w3 ⟨hC, v, rfl, hv, hP⟩; obtain ⟨k2, n2, s2, A2, m2, c2, rfl⟩ := hv.shape; have F3 := Lib.hid (F1.out.step hC hP); have V3 := Lib.hid (hv.sx (x := V.heap.size) F1.out.lt (.inl F1.out.lt)); obtain ⟨q0, q1, q2, q3, r0, r1, r2, r3⟩ := F3.out.cells; obtain ⟨i1, i2, i3, i4⟩ := F3.out.nums; clear hv hC hP))
    have f := F3.out.fin V3.out [] rfl
    refine bodyPost_ret (ret_N rfl _ rfl f.1) rfl f.2
set_option maxRecDepth 100000 in
set_option maxHeartbeats 4000000 in
theorem stm2_any (K : Pc) (lv : Nat) : PFn 50 #[.pointer (some ⟨K.g, 0, none⟩)] K lv (onW PS.wCancel (PS.pTimer 6)) := by
  intro V ts hlv h hR
  have F1 := Lib.hid (Fr.begin h)
  have hC := timer_any K lv 6 PS.wCancel (by decide)
  obtain ⟨R, hRR⟩ : ∃ R, onW PS.wCancel (PS.pTimer 6) ts = R := ⟨_, rfl⟩
  rw [hRR] at hR ⊢
  cases R with
  | out => exact absurd rfl hR
  | err p c =>
    have HD := Lib.hid (hC.at_ hRR hlv err_ne _ F1.out.pat)
    clear h hR hRR hC
    go_enter Tryz.func50, Tryz.ntmps50
    go_wp2_with (first
      | (go_at_call 49; refine HD.out.mono ?_; clear HD; rintro e w3 ⟨hC, rfl⟩))
    exact ⟨rfl, F1.out.chg.trans hC (fun _ _ e => e), rfl⟩
  | ok n r =>
    have HD := Lib.hid (hC.at_ hRR hlv ok_ne _ F1.out.pat)
    clear h hR hRR hC
    go_enter Tryz.func50, Tryz.ntmps50
    go_wp2_with (first
      | (go_at_call 49; refine HD.out.mono ?_; clear HD; rintro e w3 ⟨hC, v, rfl, hv, hP⟩; obtain ⟨k2, n2, s2, A2, m2, c2, rfl⟩ := hv.shape; have F3 := Lib.hid (F1.out.step hC hP); have V3 := Lib.hid (hv.sx (x := V.heap.size) F1.out.lt (.inl F1.out.lt)); obtain ⟨q0, q1, q2, q3, r0, r1, r2, r3⟩ := F3.out.cells; obtain ⟨i1, i2, i3, i4⟩ := F3.out.nums; clear hv hC hP))
    have f := F3.out.fin V3.out [] rfl
    refine bodyPost_ret (ret_N rfl _ rfl f.1) rfl f.2
set_option maxRecDepth 100000 in
set_option maxHeartbeats 4000000 in
theorem stm3_any (K : Pc) (lv : Nat) : PFn 51 #[.pointer (some ⟨K.g, 0, none⟩)] K lv (onW PS.wSync (PS.pSimple 7)) := by
  intro V ts hlv h hR
  have F1 := Lib.hid (Fr.begin h)
  have hC := simple_any K lv 7 PS.wSync (by decide)
  obtain ⟨R, hRR⟩ : ∃ R, onW PS.wSync (PS.pSimple 7) ts = R := ⟨_, rfl⟩
  rw [hRR] at hR ⊢
  cases R with
  | out => exact absurd rfl hR
  | err p c =>
    have HD := Lib.hid (hC.at_ hRR hlv err_ne _ F1.out.pat)
    clear h hR hRR hC
    go_enter Tryz.func51, Tryz.ntmps51
    go_wp2_with (first
      | (go_at_call 52; refine HD.out.mono ?_; clear HD; rintro e w3 ⟨hC, rfl⟩))
    exact ⟨rfl, F1.out.chg.trans hC (fun _ _ e => e), rfl⟩
  | ok n r =>
    have HD := Lib.hid (hC.at_ hRR hlv ok_ne _ F1.out.pat)
    clear h hR hRR hC
    go_enter Tryz.func51, Tryz.ntmps51
    go_wp2_with (first
      | (go_at_call 52; refine HD.out.mono ?_; clear HD; rintro e w3 ⟨hC, v, rfl, hv, hP⟩; obtain ⟨k2, n2, s2, A2, m2, c2, rfl⟩ := hv.shape; have F3 := Lib.hid (F1.out.step hC hP); have V3 := Lib.hid (hv.sx (x := V.heap.size) F1.out.lt (.inl F1.out.lt)); obtain ⟨q0, q1, q2, q3, r0, r1, r2, r3⟩ := F3.out.cells; obtain ⟨i1, i2, i3, i4⟩ := F3.out.nums; clear hv hC hP))
    have f := F3.out.fin V3.out [] rfl
    refine bodyPost_ret (ret_N rfl _ rfl f.1) rfl f.2
set_option maxRecDepth 100000 in
set_option maxHeartbeats 4000000 in
theorem stm4_any (K : Pc) (lv : Nat) : PFn 53 #[.pointer (some ⟨K.g, 0, none⟩)] K lv (onW PS.wStop (PS.pSimple 10)) := by
  intro V ts hlv h hR
  have F1 := Lib.hid (Fr.begin h)
  have hC := simple_any K lv 10 PS.wStop (by decide)
  obtain ⟨R, hRR⟩ : ∃ R, onW PS.wStop (PS.pSimple 10) ts = R := ⟨_, rfl⟩
  rw [hRR] at hR ⊢
  cases R with
  | out => exact absurd rfl hR
  | err p c =>
    have HD := Lib.hid (hC.at_ hRR hlv err_ne _ F1.out.pat)
    clear h hR hRR hC
    go_enter Tryz.func53, Tryz.ntmps53
    go_wp2_with (first
      | (go_at_call 52; refine HD.out.mono ?_; clear HD; rintro e w3 ⟨hC, rfl⟩))
    exact ⟨rfl, F1.out.chg.trans hC (fun _ _ e => e), rfl⟩
  | ok n r =>
    have HD := Lib.hid (hC.at_ hRR hlv ok_ne _ F1.out.pat)
    clear h hR hRR hC
    go_enter Tryz.func53, Tryz.ntmps53
    go_wp2_with (first
      | (go_at_call 52; refine HD.out.mono ?_; clear HD; rintro e w3 ⟨hC, v, rfl, hv, hP⟩; obtain ⟨k2, n2, s2, A2, m2, c2, rfl⟩ := hv.shape; have F3 := Lib.hid (F1.out.step hC hP); have V3 := Lib.hid (hv.sx (x := V.heap.size) F1.out.lt (.inl F1.out.lt)); obtain ⟨q0, q1, q2, q3, r0, r1, r2, r3⟩ := F3.out.cells; obtain ⟨i1, i2, i3, i4⟩ := F3.out.nums; clear hv hC hP))
    have f := F3.out.fin V3.out [] rfl
    refine bodyPost_ret (ret_N rfl _ rfl f.1) rfl f.2
end Go.Proofs.YtlfpaemfhanpiaaGreatDoor

namespace Go.Proofs.YtlfpaemfhanpiaaGreatDoor
open Go Go.RowKit Go.Proofs
attribute [local go_sem] Oper.semAt_some field0 field1 field2 field3

set_option maxRecDepth 100000 in
set_option maxHeartbeats 16000000 in
theorem ifElse_any (K : Pc) (lv : Nat) (E : PS.Ex) (g : PS.RecS) (hE : PFn 77 #[.pointer (some ⟨K.g, 0, none⟩)] K lv (E lv)) (hB : PFn 78 #[.pointer (some ⟨K.g, 0, none⟩)] K lv (g .bl lv)) :
    PFn 45 #[.pointer (some ⟨K.g, 0, none⟩)] K lv (onW PS.wIf (PS.pIf E g lv)) := by
  intro V ts hlv h hR
  have F1 := Lib.hid (Fr.begin h)
  obtain ⟨t, u, rfl⟩ := h.good.ne
  have h1 : t.text = PS.wIf := Decidable.byContradiction fun h1 => absurd (if_neg h1) hR
  obtain ⟨R, hRR⟩ : ∃ R, PS.pIf E g lv u = R := ⟨_, rfl⟩
  have ho : onW PS.wIf (PS.pIf E g lv) (t :: u) = R := by rw [← hRR]; exact if_pos h1
  rw [ho] at hR ⊢
  clear h ho
  unfold PS.pIf at hRR
  go_enter Tryz.func45, Tryz.ntmps45
  have HM := Lib.hid (must_at F1.out.pat (by decide) (show PS.must PS.wIf (t :: u) = .ok () u by simp only [PS.must, if_pos h1]))
  go_wp2_with (first
    | (go_at_call 76; refine HM.out.mono ?_; clear HM; rintro e w2 ⟨hC, rfl, hP⟩; have F2 := Lib.hid (F1.out.step hC hP); clear hC hP))
  cases hq : E lv u with
  | out => rw [hq] at hRR; exact absurd hRR.symm hR
  | err pp cc =>
    rw [hq] at hRR
    have hRR : PS.PR.err pp cc = R := hRR
    obtain rfl := hRR
    have HM := Lib.hid (hE.at_ hq hlv err_ne _ F2.out.pat)
    clear hq
    go_wp2_with (first
      | (go_at_call 77; refine HM.out.mono ?_; clear HM; rintro e wz ⟨hC, rfl⟩))
    exact ⟨rfl, F2.out.chg.trans hC (fun _ _ e => e), rfl⟩
  | ok c r3 =>
    rw [hq] at hRR
    simp only [PS.PR.bind_ok] at hRR
    have HM := Lib.hid (hE.at_ hq hlv ok_ne _ F2.out.pat)
    clear hq
    go_wp2_with (first
      | (go_at_call 77; refine HM.out.mono ?_; clear HM; rintro e w3 ⟨hC, v, rfl, hv, hP⟩; obtain ⟨k3, n3, s3, A3, m3, c3, rfl⟩ := hv.shape; have F3 := Lib.hid (F2.out.step hC hP); have F3b := Lib.hid (F3.out.alloc (.cells #[.int .i64 k3, .int .i64 n3, .string s3, .slice A3 m3 c3] 33)); have XA := Lib.hid (Bx.new hv F2.out.lt F3.out.lt); clear hv hC hP))
    cases hq : g .bl lv r3 with
    | out => rw [hq] at hRR; exact absurd hRR.symm hR
    | err pp cc =>
      rw [hq] at hRR
      have hRR : PS.PR.err pp cc = R := hRR
      obtain rfl := hRR
      have HM := Lib.hid (hB.at_ hq hlv err_ne _ F3b.out.pat)
      clear hq
      go_wp2_with (first
        | (go_at_call 78; refine HM.out.mono ?_; clear HM; rintro e wz ⟨hC, rfl⟩))
      exact ⟨rfl, F3b.out.chg.trans hC (fun _ _ e => e), rfl⟩
    | ok y r4 =>
      rw [hq] at hRR
      simp only [PS.PR.bind_ok] at hRR
      have HM := Lib.hid (hB.at_ hq hlv ok_ne _ F3b.out.pat)
      clear hq
      have l3 := F3.out.lt
      go_wp2_with (first
        | (go_at_call 78; refine HM.out.mono ?_; clear HM; rintro e w4 ⟨hC, v, rfl, hv, hP⟩; obtain ⟨k4, n4, s4, A4, m4, c4, rfl⟩ := hv.shape; have F4 := Lib.hid (F3b.out.step hC hP); have l34 := hC.size; have XA4 := Lib.hid (XA.out.step hC F3b.out.g); have XB4 := Lib.hid (Bx.new hv F3b.out.lt F4.out.lt); have TA4 := Lib.hid (XA4.out.tree.mono (T := Sx V (w4.heap.size + 1)) fun c hc hs => ⟨hs.1, by omega⟩); have TB4 := Lib.hid (hv.sx (x := w4.heap.size + 1) F3b.out.lt (.inr (by omega))); clear hv hC hP))
      rw [World.size_alloc] at l34
      have l4 := F4.out.lt
      obtain ⟨W5, hW5⟩ : ∃ W, w4.alloc (.cells #[.int .i64 k4, .int .i64 n4, .string s4, .slice A4 m4 c4] 33) = W := ⟨_, rfl⟩
      have z5 : W5.heap.size = w4.heap.size + 1 := by rw [← hW5, World.size_alloc]
      obtain ⟨W6, hW6⟩ : ∃ W, W5.alloc (.cells #[.int .i64 11, .int .i64 0, .string ⟨#[]⟩, .slice none 0 0] 33) = W := ⟨_, rfl⟩
      have z6 : W6.heap.size = w4.heap.size + 1 + 1 := by rw [← hW6, World.size_alloc, z5]
      have F6 := Lib.hid (show Fr V W6 K r4 lv from hW6 ▸ hW5 ▸ (F4.out.alloc _).alloc _)
      have XA6 := Lib.hid (show Bx V W6 w3.heap.size c k3 n3 s3 (.slice A3 m3 c3) from hW6 ▸ hW5 ▸ (XA4.out.alloc _).alloc _)
      have XB6 := Lib.hid (show Bx V W6 w4.heap.size y k4 n4 s4 (.slice A4 m4 c4) from hW6 ▸ Bx.alloc (hW5 ▸ XB4.out) _)
      have BN6 := Lib.hid (show W6.heap[w4.heap.size + 1]? = some (.cells #[.int .i64 11, .int .i64 0, .string ⟨#[]⟩, .slice none 0 0] 33 (0, 0)) by rw [← hW6, ← z5]; exact World.alloc_heap_new _ _)
      have b46 : Below w4.heap.size w4 W6 := hW6 ▸ hW5 ▸ (((Below.refl _ w4).alloc (Nat.le_refl _) _).alloc (by rw [World.size_alloc]; omega) _)
      have TA6 := Lib.hid (TA4.out.below b46)
      have TB6 := Lib.hid (TB4.out.below b46)
      have HW := Lib.hid (show (w4.alloc (.cells #[.int .i64 k4, .int .i64 n4, .string s4, .slice A4 m4 c4] 33)).alloc (.cells #[.int .i64 11, .int .i64 0, .string ⟨#[]⟩, .slice none 0 0] 33) = W6 by rw [hW5, hW6])
      clear hW5 hW6 z5 b46 TA4 TB4 XA4 XB4 F4 XA F3b F3 F2 F1
      rw [HW.out]
      obtain ⟨t2, v2, rfl⟩ := F6.out.pat.good.ne
      have hgd2 := F6.out.pat.good
      have hRR : (if t2.text = PS.wElse then (g .bl lv v2).bind fun n r => .ok (.mk 2 0 ⟨#[]⟩ [c, y, n]) r else .ok (.mk 2 0 ⟨#[]⟩ [c, y, PS.nBlk []]) (t2 :: v2)) = R := hRR
      by_cases h2 : t2.text = PS.wElse
      · have hgu2 := hgd2.tail (by rw [h2]; decide)
        have hb : (t2.text == PS.wElse) = true := by rw [beq_iff_eq]; exact h2
        rw [if_pos h2] at hRR
        have HS := Lib.hid (sees_any W6 K t2 v2 lv PS.wElse F6.out.pat)
        rw [hb] at HS
        clear h2 hb HW
        go_wp2_with (first
          | (go_at_call 56; refine HS.out.mono ?_; clear HS; rintro e w7 ⟨rfl, hb7⟩; have F7 := Lib.hid (F6.out.below hb7); have XA7 := Lib.hid (XA6.out.below hb7); have XB7 := Lib.hid (XB6.out.below hb7); have BN7 := Lib.hid ((hb7.block _ (heap_lt BN6.out)).trans BN6.out); have z7 := hb7.size; have TA7 := Lib.hid (TA6.out.below hb7); have TB7 := Lib.hid (TB6.out.below hb7); clear hb7)
          | (go_at_call 79; refine (take_any _ K t2 v2 lv F7.out.pat hgu2).mono ?_; rintro e w8 ⟨rfl, hP, hC⟩; have F8 := Lib.hid (F7.out.step hC hP); have XA8 := Lib.hid (XA7.out.step hC F7.out.g); have XB8 := Lib.hid (XB7.out.step hC F7.out.g); have BN8 := Lib.hid ((hC.block _ (heap_lt BN7.out) (by have := F7.out.g; omega)).trans BN7.out); have z8 := hC.size; have TA8 := Lib.hid (TA7.out.step hC F7.out.g); have TB8 := Lib.hid (TB7.out.step hC F7.out.g); clear hC hP))
        cases hq : g .bl lv v2 with
        | out => rw [hq] at hRR; exact absurd hRR.symm hR
        | err pp cc =>
          rw [hq] at hRR
          have hRR : PS.PR.err pp cc = R := hRR
          obtain rfl := hRR
          have HM := Lib.hid (hB.at_ hq hlv err_ne _ F8.out.pat)
          clear hq
          go_wp2_with (first
            | (go_at_call 78; refine HM.out.mono ?_; clear HM; rintro e wz ⟨hC, rfl⟩))
          exact ⟨rfl, F8.out.chg.trans hC (fun _ _ e => e), rfl⟩
        | ok nn r9 =>
          rw [hq] at hRR
          simp only [PS.PR.bind_ok] at hRR
          obtain rfl := hRR
          have HM := Lib.hid (hB.at_ hq hlv ok_ne _ F8.out.pat)
          clear hq
          have ne1 : ¬ w3.heap.size = w4.heap.size + 1 := by omega
          have ne2 : ¬ w4.heap.size = w4.heap.size + 1 := by omega
          have ne3 : ¬ V.heap.size = w4.heap.size + 1 := by omega
          have ne4 : ¬ w4.heap.size + 1 = V.heap.size := by omega
          have ne5 : ¬ w4.heap.size + 1 = w3.heap.size := by omega
          have ne6 : ¬ w4.heap.size + 1 = w4.heap.size := by omega
          have ne7 : ¬ w3.heap.size = V.heap.size := by omega
          have ne8 : ¬ w4.heap.size = V.heap.size := by omega
          have b8 := heap_lt BN8.out
          go_wp2_with (first
            | (go_at_call 78; refine HM.out.mono ?_; clear HM; rintro e w9 ⟨hC, v, rfl, hv, hP⟩; obtain ⟨k9, nn9, s9, A9, m9, c9, rfl⟩ := hv.shape; have F9 := Lib.hid (F8.out.step hC hP); have XA9 := Lib.hid (XA8.out.step hC F8.out.g); have XB9 := Lib.hid (XB8.out.step hC F8.out.g); have BN9 := Lib.hid ((hC.block _ b8 (by have := F8.out.g; omega)).trans BN8.out); have z9 := hC.size; have TA9 := Lib.hid (TA8.out.step hC F8.out.g); have TB9 := Lib.hid (TB8.out.step hC F8.out.g); have V9 := Lib.hid (hv.sx (x := w4.heap.size + 1) F8.out.lt (.inl b8)); obtain ⟨a0, a1, a2, a3⟩ := XA9.out.four; obtain ⟨b0, b1, b2, b3⟩ := XB9.out.four; obtain ⟨x0, x1, x2, x3, xf⟩ := tok_cells BN9.out; have x4 := xf 0; have x5 := xf 1; have x6 := xf 2; have x7 := xf 3; obtain ⟨q0, q1, q2, q3, y0, y1, y2, y3⟩ := F9.out.cells; obtain ⟨i1, i2, i3, i4⟩ := F9.out.nums; have j1 := heap_lt XA9.out.cells; have j2 := heap_lt XB9.out.cells; have j3 := heap_lt BN9.out; clear hC hP hv xf))
          obtain ⟨W10, hW10⟩ : ∃ W, (((w9.setCell ⟨w4.heap.size + 1, 0, none⟩ (.int .i64 k9)).setCell ⟨w4.heap.size + 1, 1, none⟩ (.int .i64 nn9)).setCell ⟨w4.heap.size + 1, 2, none⟩ (.string s9)).setCell ⟨w4.heap.size + 1, 3, none⟩ (.slice A9 m9 c9) = W := ⟨_, rfl⟩
          obtain ⟨G1, G2, G3⟩ := F9.out.set BN9.out (by omega) hW10
          have s10 : W10.heap.size = w9.heap.size := by rw [← hW10]; simp [World.setCell]
          have TA := G3 _ _ TA9.out
          have TB := G3 _ _ TB9.out
          have TN := G3 _ _ V9.out
          have hl := G1.lt
          have hal : Below W10.heap.size W10 (W10.alloc (.cells #[.int .i64 k3, .int .i64 n3, .string s3, .slice A3 m3 c3, .int .i64 k4, .int .i64 n4, .string s4, .slice A4 m4 c4, .int .i64 k9, .int .i64 nn9, .string s9, .slice A9 m9 c9] 33)) := (Below.refl _ _).alloc (Nat.le_refl _) _
          have f := G1.fin_new (x := w4.heap.size + 1) (.cells #[.int .i64 k3, .int .i64 n3, .string s3, .slice A3 m3 c3, .int .i64 k4, .int .i64 n4, .string s4, .slice A4 m4 c4, .int .i64 k9, .int .i64 nn9, .string s9, .slice A9 m9 c9] 33) (Nf.three (k := 2) (n := 0) (s := ⟨#[]⟩) (World.alloc_heap_new W10 _) ⟨hl, by omega⟩ (by decide) (TA.below hal) (TB.below hal) (TN.below hal)) rfl
          rw [s10, ← hW10] at f
          refine bodyPost_ret (ret_N rfl _ rfl f.1) rfl f.2
      · have hb : (t2.text == PS.wElse) = false := by rw [beq_eq_false_iff_ne]; exact h2
        rw [if_neg h2] at hRR
        obtain rfl := hRR
        have HS := Lib.hid (sees_any W6 K t2 v2 lv PS.wElse F6.out.pat)
        rw [hb] at HS
        clear h2 hb HW
        go_wp2_with (first
          | (go_at_call 56; refine HS.out.mono ?_; clear HS; rintro e w7 ⟨rfl, hb7⟩; have F7 := Lib.hid (F6.out.below hb7); have XA7 := Lib.hid (XA6.out.below hb7); have XB7 := Lib.hid (XB6.out.below hb7); have BN7 := Lib.hid ((hb7.block _ (heap_lt BN6.out)).trans BN6.out); have z7 := hb7.size; obtain ⟨a0, a1, a2, a3⟩ := XA7.out.four; obtain ⟨b0, b1, b2, b3⟩ := XB7.out.four; obtain ⟨x0, x1, x2, x3, _⟩ := tok_cells BN7.out; obtain ⟨q0, q1, q2, q3, y0, y1, y2, y3⟩ := F7.out.cells; obtain ⟨i1, i2, i3, i4⟩ := F7.out.nums; have j1 := heap_lt XA7.out.cells; have j2 := heap_lt XB7.out.cells; have j3 := heap_lt BN7.out; clear hb7))
        have hl := F7.out.lt
        have f := F7.out.fin_new (x := V.heap.size) (.cells #[.int .i64 k3, .int .i64 n3, .string s3, .slice A3 m3 c3, .int .i64 k4, .int .i64 n4, .string s4, .slice A4 m4 c4, .int .i64 11, .int .i64 0, .string ⟨#[]⟩, .slice none 0 0] 33) (Nf.three (k := 2) (n := 0) (s := ⟨#[]⟩) (World.alloc_heap_new w7 _) ⟨hl, by omega⟩ (by decide) (XA7.out.alloc _).tree (XB7.out.alloc _).tree (Nf.leaf _ _ 11 0 ⟨#[]⟩ (by decide))) rfl
        refine bodyPost_ret (ret_N rfl _ rfl f.1) rfl f.2
end Go.Proofs.YtlfpaemfhanpiaaGreatDoor

namespace Go.Proofs.YtlfpaemfhanpiaaGreatDoor
open Go Go.RowKit Go.Proofs
attribute [local go_sem] Oper.semAt_some field0 field1 field2 field3

def slW (i : Nat) : Nat := if i = 5 then 7 else 8 + i
set_option maxRecDepth 100000 in
set_option maxHeartbeats 16000000 in
theorem while_any (K : Pc) (lv : Nat) (E : PS.Ex) (g : PS.RecS) (hE : PFn 77 #[.pointer (some ⟨K.g, 0, none⟩)] K lv (E lv)) (hB : PFn 78 #[.pointer (some ⟨K.g, 0, none⟩)] K lv (g .bl lv)) :
    PFn 46 #[.pointer (some ⟨K.g, 0, none⟩)] K lv (onW PS.wWhile (PS.pWhile E g lv)) := by
  intro V ts hlv h hR
  have F1 := Lib.hid (Fr.begin h)
  obtain ⟨t, u, rfl⟩ := h.good.ne
  have h1 : t.text = PS.wWhile := Decidable.byContradiction fun h1 => absurd (if_neg h1) hR
  obtain ⟨R, hRR⟩ : ∃ R, PS.pWhile E g lv u = R := ⟨_, rfl⟩
  have ho : onW PS.wWhile (PS.pWhile E g lv) (t :: u) = R := by rw [← hRR]; exact if_pos h1
  rw [ho] at hR ⊢
  clear h ho
  unfold PS.pWhile at hRR
  go_enter Tryz.func46, Tryz.ntmps46
  have HM := Lib.hid (must_at F1.out.pat (by decide) (show PS.must PS.wWhile (t :: u) = .ok () u by simp only [PS.must, if_pos h1]))
  go_wp2_with (first
    | (go_at_call 76; refine HM.out.mono ?_; clear HM; rintro e w2 ⟨hC, rfl, hP⟩; have F2 := Lib.hid (F1.out.step hC hP); clear hC hP))
  cases hq : E lv u with
  | out => rw [hq] at hRR; exact absurd hRR.symm hR
  | err pp cc =>
    rw [hq] at hRR
    have hRR : PS.PR.err pp cc = R := hRR
    obtain rfl := hRR
    have HM := Lib.hid (hE.at_ hq hlv err_ne _ F2.out.pat)
    clear hq
    go_wp2_with (first
      | (go_at_call 77; refine HM.out.mono ?_; clear HM; rintro e wz ⟨hC, rfl⟩))
    exact ⟨rfl, F2.out.chg.trans hC (fun _ _ e => e), rfl⟩
  | ok c r3 =>
    rw [hq] at hRR
    simp only [PS.PR.bind_ok] at hRR
    have HM := Lib.hid (hE.at_ hq hlv ok_ne _ F2.out.pat)
    clear hq
    go_wp2_with (first
      | (go_at_call 77; refine HM.out.mono ?_; clear HM; rintro e w3 ⟨hC, v, rfl, hv, hP⟩; obtain ⟨k3, n3, s3, A3, m3, c3, rfl⟩ := hv.shape; have F3 := Lib.hid (F2.out.step hC hP); have XA := Lib.hid (Bx.new hv F2.out.lt F3.out.lt); clear hv hC hP))
    obtain ⟨W4, hW4⟩ : ∃ W, w3.alloc (.cells #[.int .i64 k3, .int .i64 n3, .string s3, .slice A3 m3 c3] 33) = W := ⟨_, rfl⟩
    have F4 := Lib.hid (show Fr V W4 K r3 lv from hW4 ▸ F3.out.alloc _)
    have XA4 := Lib.hid (show Bx V W4 w3.heap.size c k3 n3 s3 (.slice A3 m3 c3) from hW4 ▸ XA.out)
    rw [hW4]
    clear hW4 XA F3 F2 F1
    obtain ⟨y0, y1, y2, y3⟩ := XA4.out.four
    cases hq : g .bl lv r3 with
    | out => rw [hq] at hRR; exact absurd hRR.symm hR
    | err pp cc =>
      rw [hq] at hRR
      have hRR : PS.PR.err pp cc = R := hRR
      obtain rfl := hRR
      have HM := Lib.hid (hB.at_ hq hlv err_ne)
      clear hq
      refine region_dies2 6 8 7 2 [2, 3, 4, 5] slW (fun i => match i with | 0 => .val (.agg #[.int .i64 k3, .int .i64 n3, .string s3, .slice A3 m3 c3]) | 1 => .val (.pointer (some ⟨K.g, 0, none⟩)) | _ => .val undef) (by kernel_rfl) rfl (by decide) (by decide) (by kernel_rfl) (by kernel_rfl) ?step ?dies
      case step =>
        intro listed a i hI hi hic hdep
        have hsl : ∀ i, i < 6 → slW i < 13 ∧ (8 ≤ slW i ∨ slW i = 7) := fun i hi => by unfold slW; split <;> omega
        have hij : ∀ i j : Nat, i < 6 → j < 6 → slW i = slW j → i = j := fun i j _ _ h => by unfold slW at h; split at h <;> split at h <;> omega
        have p3 : a.tmps[3]?.getD undef = .pointer (some ⟨w3.heap.size, 0, none⟩) := by rw [hI.low 3 (by decide) (by decide)]; rfl
        have p0 : a.tmps[0]?.getD undef = .pointer (some ⟨K.g, 0, none⟩) := by rw [hI.low 0 (by decide) (by decide)]; rfl
        have hcase : i = 0 ∨ i = 1 := by simp at hic; omega
        rcases hcase with rfl | rfl
        · exact st_same hsl hij hI (by decide) rfl rfl rfl (by simp [execOp, go_sem, Act.eval, p3, y0, y1, y2, y3]) rfl
        · exact st_same hsl hij hI (by decide) rfl rfl rfl (by simp [execOp, go_sem, Act.eval, p0]) rfl
      case dies =>
        intro listed a hI hdep
        have e9 : a.tmps[9]?.getD undef = .pointer (some ⟨K.g, 0, none⟩) := hI.ok 1 (by decide) (hdep _ rfl ⟨1, .data⟩ (by simp) rfl)
        have hdf := hI.defers
        refine st_dies rfl rfl (f := 78) (args := #[.pointer (some ⟨K.g, 0, none⟩)]) (by simp [execOp, go_sem, Act.eval, e9]) ((HM.out _ F4.out.drew.pat).mono (fun e w' h => ⟨h.2, h.1⟩)) (fun w' hz => ?_)
        exact ⟨hdf, F4.out.drew.chg.trans hz (fun _ _ e => e), rfl⟩
    | ok y r5 =>
      rw [hq] at hRR
      simp only [PS.PR.bind_ok] at hRR
      obtain rfl := hRR
      have HM := Lib.hid (hB.at_ hq hlv ok_ne)
      clear hq
      go_region_law
        (first
          | (go_simp; go_at_call 78; refine (HM.out _ F4.out.drew.pat).mono ?_; clear HM; rintro e w5 ⟨hC, v, rfl, hv, hP⟩
             obtain ⟨k5, n5, s5, A5, m5, c5, rfl⟩ := hv.shape
             have F5 := Lib.hid (F4.out.drew.step hC hP)
             have XA5 := Lib.hid ((XA4.out.below ((Below.refl _ _).drew)).step hC F4.out.g)
             have V5 := Lib.hid (hv.sx (x := V.heap.size) F4.out.drew.lt (.inl F4.out.drew.lt))
             obtain ⟨z0, z1, z2, z3⟩ := XA5.out.four
             obtain ⟨x0, x1, x2, x3, f0, f1, f2, f3⟩ := F5.out.cells
             obtain ⟨i1, i2, i3, i4⟩ := F5.out.nums
             clear hC hP hv))
      all_goals
        go_wp2_with fail
        have hl := F5.out.lt
        have hal : Below w5.heap.size w5 (w5.alloc (.cells #[.int .i64 k3, .int .i64 n3, .string s3, .slice A3 m3 c3, .int .i64 k5, .int .i64 n5, .string s5, .slice A5 m5 c5] 33)) := (Below.refl _ _).alloc (Nat.le_refl _) _
        have f := F5.out.fin_new (x := V.heap.size) (.cells #[.int .i64 k3, .int .i64 n3, .string s3, .slice A3 m3 c3, .int .i64 k5, .int .i64 n5, .string s5, .slice A5 m5 c5] 33) (Nf.two (k := 3) (n := 0) (s := ⟨#[]⟩) (World.alloc_heap_new w5 _) ⟨hl, by omega⟩ (by decide) (XA5.out.tree.below hal) (V5.out.below hal)) rfl
        refine bodyPost_ret (ret_N rfl _ rfl f.1) rfl f.2
end Go.Proofs.YtlfpaemfhanpiaaGreatDoor

namespace Go.Proofs.YtlfpaemfhanpiaaGreatDoor
open Go Go.RowKit Go.Proofs
attribute [local go_sem] Oper.semAt_some field0 field1 field2 field3

theorem infoN : (Tryz.prog.info? 33).map (fun i => (i.zero, i.size, i.bytes)) = some (some (.agg #[.int .i64 0, .int .i64 0, .string ⟨#[]⟩, .slice none 0 0]), 4, 56) := by kernel_rfl
theorem TR.keep {e : TypeId} {p B j c : Nat} {W W' : World} {A : Option Addr} {xs : List (List Value × TY.Nd)} {cs : List Value} (h : TR e p B W A j c xs cs) (hk : ∀ x, B ≤ x → x < W.heap.size → W'.heap[x]? = W.heap[x]?) (hs : W.heap.size ≤ W'.heap.size) : TR e p B W' A j c xs cs := by
  obtain ⟨h1, h2, h3⟩ := h
  have hlt := World.ownsRow.lt h2
  exact ⟨h1, own_of_block h2 fun b hb => hk b (hlt b hb).1 (hlt b hb).2, h3.imp fun t v hv V hV hi hhi => hv V (fun x hx1 hx2 hx3 => (hV x hx1 (by omega) hx3).trans (hk x hx1 hx2)) hi (by omega)⟩
theorem PAt.keep2 {w U : World} {K : Pc} {r : List LX.Tok} {lv : Nat} (hP : PAt w K r lv) (hg : U.heap[K.g]? = w.heap[K.g]?) (ht : U.heap[K.tb]? = w.heap[K.tb]?) (hm : U.heap[K.mb]? = w.heap[K.mb]?) (hs : w.heap.size ≤ U.heap.size) : PAt U K r lv := by
  obtain ⟨off, c, h1, h2, h3, h4, h5⟩ := hP
  exact ⟨off, c, hg.trans h1, h2, h3, h4.keep ht hm hs, h5⟩
def slQ (i : Nat) : Nat := 8 + i
set_option maxRecDepth 100000 in
set_option maxHeartbeats 16000000 in
theorem sequence_any (K : Pc) (lv : Nat) (E : PS.Ex) (HE : ∀ lv ts, PS.Short ts.length (E lv ts)) (f : Nat) (hS : ∀ f', f' < f → PFn 128 #[.pointer (some ⟨K.g, 0, none⟩)] K lv (PS.ps E f' .st lv)) :
    PFn 103 #[.pointer (some ⟨K.g, 0, none⟩)] K lv (PS.ps E f (.sq []) lv) := by
  intro V ts hlv h hR
  have hgl := h.lt
  have hbig : ts.length ≤ 4000 := by
    obtain ⟨_, _, _, _, _, h4, _⟩ := h
    exact h4.big
  obtain ⟨R, hRR⟩ : ∃ R, PS.ps E f (.sq []) lv ts = R := ⟨_, rfl⟩
  rw [hRR] at hR ⊢
  have F1 := Fr.begin h
  have z1 : (V.alloc (.cells nd0 33)).heap.size = V.heap.size + 1 := World.size_alloc _ _
  obtain ⟨W2, hW2⟩ : ∃ W, (V.alloc (.cells nd0 33)).alloc (.cells #[.int .i64 11, .int .i64 0, .string ⟨#[]⟩, .slice none 0 0] 33) = W := ⟨_, rfl⟩
  have F2 := Lib.hid (show Fr V W2 K ts lv from hW2 ▸ F1.alloc _)
  have B2 := Lib.hid (show W2.heap[V.heap.size + 1]? = some (.cells #[.int .i64 11, .int .i64 0, .string ⟨#[]⟩, .slice none 0 0] 33 (0, 0)) by rw [← hW2, ← z1]; exact World.alloc_heap_new _ _)
  have z2 : W2.heap.size = V.heap.size + 1 + 1 := by rw [← hW2, World.size_alloc, z1]
  have HW := Lib.hid (show (V.alloc (.cells #[.int .i64 0, .int .i64 0, .string ⟨#[]⟩, .slice none 0 0] 33)).alloc (.cells #[.int .i64 11, .int .i64 0, .string ⟨#[]⟩, .slice none 0 0] 33) = W2 from hW2)
  obtain ⟨i0, hi0, hz0, hz1, hz2⟩ := info_parts infoN
  have HZ := Lib.hid (And.intro hi0 (And.intro hz0 (And.intro hz1 hz2)))
  have HS := Lib.hid hS
  have HEE := Lib.hid HE
  have HRR := Lib.hid hRR
  clear h F1 z1 hW2 hi0 hz0 hz1 hz2 hS HE hRR
  go_enter Tryz.func103, Tryz.ntmps103
  go_wp2_with fail
  rw [HW.out]
  clear HW
  go_loopw [8] (fun _ W => ∃ (f' j c : Nat) (r : List LX.Tok) (acc : List TY.Nd) (A : Option Addr) (cs : List Value), f' ≤ f ∧ j + r.length ≤ 4000 ∧ Hid (PS.ps E f' (.sq acc) lv r = R) ∧ Hid (Fr V W K r lv) ∧ Hid (W.heap[V.heap.size + 1]? = some (.cells #[.int .i64 11, .int .i64 0, .string ⟨#[]⟩, .slice A j c] 33 (0, 0))) ∧ Hid (TR 33 0 (V.heap.size + 1 + 1) W A j c (nds acc) cs) ∧ V.heap.size + 1 + 1 ≤ W.heap.size) (fun _ W => restLen W K.g)
  case atStart => exact ⟨f, 0, 0, ts, [], none, [], Nat.le_refl _, by omega, HRR.out, F2.out, B2.out, TR.nil _ _ _ _, by omega⟩
  case round =>
    obtain ⟨f', j, c, r, acc, A, cs, hf, hj, hE, hFr, hB, hTR, hsz⟩ := hrel
    obtain ⟨t, u, rfl⟩ := hFr.out.pat.good.ne
    clear F2 B2 HRR z2
    cases f' with
    | zero => exact absurd hE.out.symm hR
    | succ f2 =>
      have hE : PS.seqn (PS.ps E f2) acc lv (t :: u) = R := hE.out
      have HN := Lib.hid (sees_any wr K t u lv PS.yRB hFr.out.pat)
      rw [List.length_cons] at hj
      have RW := Lib.hid hFr.out.pat.rest
      by_cases ht : t.text = PS.yRB
      · have hb : (t.text == PS.yRB) = true := by rw [beq_iff_eq]; exact ht
        rw [hb] at HN
        rw [PS.seqn, if_pos ht] at hE
        obtain rfl := hE
        clear hb ht hR
        go_wp2_with (first
          | (go_at_call 56; refine HN.out.mono ?_; clear HN; rintro e w3 ⟨rfl, hb3⟩; have F3 := Lib.hid (hFr.out.below hb3); have B3 := Lib.hid ((hb3.block _ (heap_lt hB.out)).trans hB.out); have R3 := Lib.hid (hTR.out.keep (fun x _ h => hb3.block x h) hb3.size); obtain ⟨q0, q1, q2, q3, z0, z1, z2, z3⟩ := F3.out.cells; obtain ⟨i1, i2, i3, i4⟩ := F3.out.nums; obtain ⟨y0, y1, y2, y3, _⟩ := tok_cells B3.out; clear hb3))
        have hnw := TR.node R3.out (by omega) 11 0 ⟨#[]⟩ (by decide)
        rw [nds_snd] at hnw
        have f := F3.out.fin (x := V.heap.size + 1) (hnw.sx (by omega) (.inl (by omega))) [] rfl
        refine bodyPost_ret (ret_N rfl _ rfl f.1) rfl f.2
      · have hb : (t.text == PS.yRB) = false := by rw [beq_eq_false_iff_ne]; exact ht
        rw [hb] at HN
        rw [PS.seqn, if_neg ht] at hE
        clear hb ht
        go_wp2_with (first
          | (go_at_call 56; refine HN.out.mono ?_; clear HN; rintro e w3 ⟨rfl, hb3⟩; have F3 := Lib.hid (hFr.out.below hb3); have B3 := Lib.hid ((hb3.block _ (heap_lt hB.out)).trans hB.out); have R3 := Lib.hid (hTR.out.keep (fun x _ h => hb3.block x h) hb3.size); have z3 := hb3.size; have y3 : w3.cell? ⟨V.heap.size + 1, 3, none⟩ = some (.slice A j c) := cell_of_row w3 _ 3 _ _ (0, 0) B3.out; clear hb3))
        cases hx : PS.ps E f2 .st lv (t :: u) with
        | out => rw [hx] at hE; exact absurd hE.symm hR
        | err q d =>
          rw [hx] at hE
          have hE : PS.PR.err q d = R := hE
          obtain rfl := hE
          have HM := Lib.hid ((HS.out f2 (by omega)).at_ hx hlv err_ne)
          clear hx hR
          refine region_dies2 8 8 99 3 [3, 4, 5, 6, 7] slQ (fun i => match i with | 0 => .val (.pointer (some ⟨V.heap.size + 1, 3, none⟩)) | 1 => .val (.slice A j c) | 2 => .val (.pointer (some ⟨K.g, 0, none⟩)) | _ => .val undef) (by kernel_rfl) rfl (by decide) (by decide) (by kernel_rfl) (by kernel_rfl) ?step ?dies
          case step =>
            intro listed a i hI hi hic hdep
            have hsl : ∀ i, i < 8 → slQ i < 16 ∧ (8 ≤ slQ i ∨ slQ i = 99) := fun i hi => by unfold slQ; omega
            have hij : ∀ i j : Nat, i < 8 → j < 8 → slQ i = slQ j → i = j := fun i j _ _ h => by unfold slQ at h; omega
            have p3 : a.tmps[3]?.getD undef = .pointer (some ⟨V.heap.size + 1, 0, none⟩) := by rw [hI.low 3 (by decide) (by decide)]; rfl
            have p0 : a.tmps[0]?.getD undef = .pointer (some ⟨K.g, 0, none⟩) := by rw [hI.low 0 (by decide) (by decide)]; rfl
            have hcase : i = 0 ∨ i = 1 ∨ i = 2 := by simp at hic; omega
            rcases hcase with rfl | rfl | rfl
            · exact st_same hsl hij hI (by decide) rfl rfl rfl (by simp [execOp, go_sem, Act.eval, p3]) rfl
            · have e8 : a.tmps[8]?.getD undef = .pointer (some ⟨V.heap.size + 1, 3, none⟩) := hI.ok 0 (by decide) (hdep _ rfl ⟨0, .data⟩ (by simp) rfl)
              exact st_same hsl hij hI (by decide) rfl rfl rfl (by simp [execOp, go_sem, Act.eval, e8, y3]) rfl
            · exact st_same hsl hij hI (by decide) rfl rfl rfl (by simp [execOp, go_sem, Act.eval, p0]) rfl
          case dies =>
            intro listed a hI hdep
            have e10 : a.tmps[10]?.getD undef = .pointer (some ⟨K.g, 0, none⟩) := hI.ok 2 (by decide) (hdep _ rfl ⟨2, .data⟩ (by simp) rfl)
            have hdf := hI.defers
            refine st_dies rfl rfl (f := 128) (args := #[.pointer (some ⟨K.g, 0, none⟩)]) (by simp [execOp, go_sem, Act.eval, e10]) ((HM.out _ F3.out.drew.pat).mono (fun e w' h => ⟨h.2, h.1⟩)) (fun w' hz => ?_)
            exact ⟨hdf, F3.out.drew.chg.trans hz (fun _ _ e => e), rfl⟩
        | ok x r' =>
          rw [hx] at hE
          have hE : PS.ps E f2 (.sq (acc ++ [x])) lv r' = R := hE
          have hlen := PS.st_len HEE.out hx
          have HM := Lib.hid ((HS.out f2 (by omega)).at_ hx hlv ok_ne)
          have HE := Lib.hid hE
          have hg := F3.out.g
          clear hx hE
          go_region_law
            (first
              | (go_simp; go_at_call 128; refine (HM.out _ F3.out.drew.pat).mono ?_; clear HM; rintro e w5 ⟨hC, v, rfl, hv, hP⟩
                 obtain ⟨k5, n5, s5, A5, m5, c5, rfl⟩ := hv.shape
                 have F5 := Lib.hid (F3.out.drew.step hC hP)
                 have C5 := Lib.hid (show Chg (· = K.g) w3 w5 from ((Chg.refl (· = K.g) w3).drew.trans hC (fun _ _ h => h)))
                 have B5 := Lib.hid ((hC.block _ (heap_lt B3.out) (by omega)).trans B3.out)
                 have V5 := Lib.hid hv
                 have z5 : w3.heap.size ≤ w5.heap.size := hC.size
                 have HO5 := Lib.hid (TR.own R3.out C5.out (fun x hx => by omega) (.cells #[.int .i64 k5, .int .i64 n5, .string s5, .slice A5 m5 c5] 33))
                 have d5 : (w5.alloc (.cells #[.int .i64 k5, .int .i64 n5, .string s5, .slice A5 m5 c5] 33)).cell? ⟨V.heap.size + 1, 3, none⟩ = some (.slice A j c) := (((Below.refl w5.heap.size w5).alloc (Nat.le_refl _) _).cell (p := ⟨V.heap.size + 1, 3, none⟩) (heap_lt B5.out)).trans (cell_of_row w5 _ 3 _ _ (0, 0) B5.out)
                 have e5 : w5.cell? ⟨V.heap.size + 1, 3, none⟩ = some (.slice A j c) := cell_of_row w5 _ 3 _ _ (0, 0) B5.out
                 clear hC hP hv)
              | (refine step_append_lies _ rfl (.tmp 9) (.tmp 12) 31 rfl (V.heap.size + 1 + 1) 33 i0 _ 4 56 Tryz.underlying31 HZ.out.1 HZ.out.2.1 HZ.out.2.2.1 HZ.out.2.2.2 rfl (by decide) (.slice A j c) j _ (by simp [Act.eval]) HO5.out ⟨w5.heap.size, 0, none⟩ 1 1 [.int .i64 k5, .int .i64 n5, .string s5, .slice A5 m5 c5] (by simp [Act.eval]) rfl (news_alloc _ _ _ _ rfl) (by simp [Value.oneCell']) (by decide) (by simp only [maxLen]; omega) (by omega) (by simp; omega) _ rfl ?_; intro g4 c4 w6 hown4 hgrow4 hat4 _; have hb6 := grown_kept hgrow4 B5.out HO5.out (by omega); have d6 : w6.cell? ⟨V.heap.size + 1, 3, none⟩ = some (.slice A j c) := cell_of_row w6 _ 3 _ _ (0, 0) hb6; have f6 : w6.frozen? ⟨V.heap.size + 1, 3, none⟩ = false := by simp [World.frozen?, hb6]))
          all_goals
            obtain ⟨U, hU⟩ : ∃ U, w6.setCell ⟨V.heap.size + 1, 3, none⟩ (.slice (some ⟨g4, 0, none⟩) (j + 1) c4) = U := ⟨_, rfl⟩
            have hUk : ∀ x, x ≠ V.heap.size + 1 → U.heap[x]? = w6.heap[x]? := fun x hx => by rw [← hU]; exact Below.heap_setCell _ _ _ _ hx
            have hUs : U.heap.size = w6.heap.size := by rw [← hU]; simp [World.setCell]
            have hUb : U.heap[V.heap.size + 1]? = some (.cells #[.int .i64 11, .int .i64 0, .string ⟨#[]⟩, .slice (some ⟨g4, 0, none⟩) (j + 1) c4] 33 (0, 0)) := by
              rw [← hU]
              exact row_set hb6 _
            have hTR2 := TR.step (pre := []) (U := U) R3.out C5.out (fun x hx => by omega) (by omega) rfl V5.out hgrow4 (hat4.imp id fun h => by rw [h, World.size_alloc]; omega) hown4 (fun x hx => hUk x (by omega)) hUs
            have hc56 : Chg (V.heap.size + 1 ≤ ·) w5 U := by
              rw [← hU]
              exact ((grown_chg hgrow4 HO5.out).mono (fun _ _ h => Nat.le_of_succ_le h)).setCell (p := ⟨V.heap.size + 1, 3, none⟩) (fun _ => Nat.le_refl _) _
            have htb := F3.out.tb
            have hmb := F3.out.mb
            have hl5 := F5.out.lt
            have hs6 := hc56.size
            have hFU : Fr V U K r' lv := ⟨F5.out.chg.trans hc56 (fun x hx h => absurd hx (by omega)), F5.out.pat.keep2 (hc56.block _ (by omega) (by omega)) (hc56.block _ (by omega) (by omega)) (hc56.block _ (by omega) (by omega)) hs6, (hc56.block _ hl5 (by omega)).trans F5.out.box, hg, htb, hmb⟩
            have G1 := Lib.hid hTR2
            have G2 := Lib.hid hFU
            have G3 := Lib.hid hUb
            have HU := Lib.hid hU
            clear hTR2 hFU hUb hc56 hUk hU
            go_wp2_with fail
            rw [HU.out]
            refine ⟨⟨f2, j + 1, c4, r', acc ++ [x], some ⟨g4, 0, none⟩, _, by omega, by omega, HE.out, G2.out, G3.out, by rw [nds_snoc]; exact G1.out, by omega⟩, ?_⟩
            rw [G2.out.pat.rest, RW.out, List.length_cons]
            omega
end Go.Proofs.YtlfpaemfhanpiaaGreatDoor

namespace Go.Proofs.YtlfpaemfhanpiaaGreatDoor
open Go Go.RowKit Go.Proofs
namespace PM

/-- Function n - 1 as a value (0: nil), and as a datum. -/
def fnV (n : Nat) : Value := if n = 0 then .nilFunc else .func (.func (n - 1)) #[] #[]
def fnD (n : Nat) : DataW Unit := .lit (.int .i64 (n : Int))
theorem fnV_inj {n m : Nat} : fnV n = fnV m ↔ n = m := by
  refine ⟨fun e => ?_, fun e => by rw [e]⟩
  unfold fnV at e
  by_cases h : n = 0
  · by_cases h' : m = 0
    · omega
    · rw [if_pos h, if_neg h'] at e
      cases e
  · by_cases h' : m = 0
    · rw [if_neg h, if_pos h'] at e
      cases e
    · rw [if_neg h, if_neg h'] at e
      injection e with e _ _
      injection e with e
      have e : n - 1 = m - 1 := e
      omega
open Classical in
noncomputable def fnR (v : Value) : Option (DataW Unit × List MemPlace) := if h : ∃ n : Nat, v = fnV n then some (fnD h.choose, []) else none
theorem fnR_of (n : Nat) : fnR (fnV n) = some (fnD n, []) := by
  unfold fnR
  have h : ∃ m : Nat, fnV n = fnV m := ⟨n, rfl⟩
  rw [dif_pos h]
  have := fnV_inj.1 h.choose_spec
  rw [← this]
theorem fnR_inv {v : Value} {n : Nat} {ps : List MemPlace} (h : fnR v = some (fnD n, ps)) : v = fnV n := by
  unfold fnR at h
  by_cases k : ∃ m : Nat, v = fnV m
  · rw [dif_pos k] at h
    injection h with h
    injection h with h _
    unfold fnD at h
    injection h with h
    injection h with _ h
    have := k.choose_spec
    rw [this]
    exact fnV_inj.2 (by omega)
  · rw [dif_neg k] at h
    cases h
def putAll (l : List (ByteArray × DataW Unit)) : DataW Unit := l.foldl (fun D e => D.put (.string e.1.data.toList) e.2) (.map [])
theorem putAll_snoc (l : List (ByteArray × DataW Unit)) (e : ByteArray × DataW Unit) : putAll (l ++ [e]) = (putAll l).put (.string e.1.data.toList) e.2 := by
  unfold putAll
  rw [List.foldl_append]
  rfl
theorem lit_inj {s s' : ByteArray} : Lit.string s.data.toList = Lit.string s'.data.toList ↔ s = s' := by
  constructor
  · intro h
    injection h with h
    obtain ⟨⟨a⟩⟩ := s
    obtain ⟨⟨b⟩⟩ := s'
    simp at h
    rw [h]
  · exact fun h => h ▸ rfl
theorem putAll_map (l : List (ByteArray × DataW Unit)) : Maps.IsMap (putAll l) := by
  unfold putAll
  have : ∀ (l : List (ByteArray × DataW Unit)) (D : DataW Unit), Maps.IsMap D → Maps.IsMap (l.foldl (fun D e => D.put (.string e.1.data.toList) e.2) D) := by
    intro l
    induction l with
    | nil => exact fun D h => h
    | cons e t ih => exact fun D h => ih _ (h.put _ _)
  exact this l _ Maps.isMap_empty
/-- What a list of entries answers: the last one. -/
def found (l : List (ByteArray × DataW Unit)) (s : ByteArray) : Option (DataW Unit) := (l.reverse.find? fun e => decide (e.1 = s)).map Prod.snd
theorem putAll_at (z : DataW Unit) (s : ByteArray) : ∀ l : List (ByteArray × DataW Unit), (putAll l).atKey (.string s.data.toList) z = (found l s).getD z := by
  have key : ∀ (l : List (ByteArray × DataW Unit)), (putAll l.reverse).atKey (.string s.data.toList) z = ((l.find? fun e => decide (e.1 = s)).map Prod.snd).getD z := by
    intro l
    induction l with
    | nil => rfl
    | cons e t ih =>
      rw [List.reverse_cons, putAll_snoc, List.find?_cons]
      by_cases h : e.1 = s
      · rw [decide_eq_true h, ← h, Maps.atKey_put_same (putAll_map _) (show WideAt.IsKeyLit (Lit.string e.1.data.toList) from trivial)]
        rfl
      · rw [decide_eq_false h, Maps.atKey_put_other (fun k => h (lit_inj.1 k).symm), ih]
  intro l
  have := key l.reverse
  rw [List.reverse_reverse] at this
  exact this
abbrev tM : TypeId := 68
/-- Block b is a map with the entries l. -/
def Mp (W : World) (b : Nat) (l : List (ByteArray × DataW Unit)) : Prop := W.ownsMap Tryz.prog 9 fnR b l.length (putAll l)
theorem Mp.made (W : World) : Mp (W.alloc (.map #[] 0)) W.heap.size [] := World.ownsMap_made W _ _ _
theorem key_str (s : ByteArray) (hs : s.size ≤ 1000000) : keyOf Tryz.prog 9 (.string s) = some (.string s.data.toList) := by
  unfold keyOf
  rw [Tryz.underlying9]
  unfold mapKey
  rw [Tryz.underlying9]
  simp only
  rw [if_pos (by simp only [maxLen]; omega)]
theorem zero_fn : (Tryz.prog.info? 87).map (fun i => (i.zero, i.size)) = some (some .nilFunc, 1) := by kernel_rfl
theorem zero_run : ∀ w, (zeroValue 87).run Tryz.prog w = .ok .nilFunc w := (zero_of_info zero_fn).1
/-- One entry more. -/
theorem wpList_insert {W : World} {l : List (ByteArray × DataW Unit)} {b : Nat} {ops : Array Oper} {rest : List Oper} {o : Oper} {a : Act} {Q : Exit → Act → World → Prop} (hg : o.guard = none) (m x v : Operand) (hop : o.op = Op.insert tM m x v)
    (hm : a.eval m = .map (some b)) (hown : Mp W b l) (hl : l.length < 100) (key : ByteArray) (hks : key.size ≤ 1000) (n : Nat) (hx : a.eval x = .string key) (hv : a.eval v = fnV n)
    (hK : ∀ w', Mp w' b (l ++ [(key, fnD n)]) → W.grownBy w' (some b) → wpList Tryz.prog ops Q rest (a.put o.dst undef) w') : wpList Tryz.prog ops Q (o :: rest) a W := by
  refine wpList_plain hg fun K' hK' => ?_
  obtain ⟨w', hrun, r1, r2⟩ := World.ownsMap.update hown (Maps.string_keyed Tryz.underlying9) Tryz.underlying68 (by simp only [maxLen]; omega) (key_str key (by omega)) (fnR_of n)
  unfold Oper.wp
  simp [execOp, hop, hm, hx, hv, hrun, Result.andThen]
  refine hK' _ _ (hK w' ?_ r2)
  unfold Mp
  rw [List.length_append, putAll_snoc]
  exact r1
/-- What is found, and whether. -/
theorem Mp.look {W : World} {l : List (ByteArray × DataW Unit)} {b : Nat} (h : Mp W b l) (s : ByteArray) (hs : s.size ≤ 1000000) {n : Nat} {y : Bool} (hf : (y = true ∧ found l s = some (fnD n)) ∨ (y = false ∧ n = 0 ∧ found l s = none)) :
    (Instr.lookup tM (.map (some b)) (.string s) true).run Tryz.prog W = .ok (.tuple #[fnV n, .bool y]) W := by
  obtain ⟨v, ps, hrun, hv⟩ := World.ownsMap.look_ok h (Maps.string_keyed Tryz.underlying9) Tryz.underlying68 (zero_run W) (fnR_of 0) (key_str s hs)
  rw [putAll_at] at hv
  rcases hf with ⟨rfl, hf⟩ | ⟨rfl, rfl, hf⟩
  · rw [hf] at hv
    have h1 : Maps.has (putAll l) (.string s.data.toList) = true := Maps.has_true_of_atKey (y := fnD n) fun z => by rw [putAll_at, hf]; rfl
    rw [hrun, h1, fnR_inv hv]
  · rw [hf] at hv
    have h1 : Maps.has (putAll l) (.string s.data.toList) = false := Maps.has_false_of_atKey fun z => by rw [putAll_at, hf]; rfl
    rw [hrun, h1, fnR_inv hv]
/-- The entries. -/
def stmL : List (ByteArray × DataW Unit) := [(PS.bs PS.wIf, fnD (45 + 1)), (PS.bs PS.wWhile, fnD (46 + 1)), (PS.bs PS.wSend, fnD (47 + 1)), (PS.bs PS.wTimer, fnD (48 + 1)), (PS.bs PS.wCancel, fnD (50 + 1)), (PS.bs PS.wSync, fnD (51 + 1)), (PS.bs PS.wStop, fnD (53 + 1)), (PS.bs PS.wReply, fnD (54 + 1)), (PS.bs PS.wFail, fnD (55 + 1))]
/-- An object that is this map. -/
def MoOk (mo : Obj) : Prop := ∀ (W : World) (b : Nat), W.heap[b]? = some mo → Mp W b stmL
theorem Mp.mo {W : World} {b : Nat} (h : Mp W b stmL) : ∃ mo, W.heap[b]? = some mo ∧ MoOk mo := by
  obtain ⟨es, clock, h1, h2⟩ := h
  exact ⟨_, h1, fun W' b' hb => ⟨es, clock, hb, h2⟩⟩
end PM
end Go.Proofs.YtlfpaemfhanpiaaGreatDoor

namespace Go.Proofs.YtlfpaemfhanpiaaGreatDoor
open Go Go.RowKit Go.Proofs
attribute [local go_sem] Oper.semAt_some field0 field1 field2 field3

theorem numb_lt {lim n : Nat} {ts r : List LX.Tok} (h : PS.numb lim ts = .ok n r) : n < lim := by
  cases ts with
  | nil => cases h
  | cons t u =>
    simp only [PS.numb] at h
    split at h
    · split at h
      · cases h
      · injection h with h _
        omega
    · cases h
set_option maxRecDepth 100000 in
set_option maxHeartbeats 8000000 in
theorem hnum_any (V : World) (K : Pc) (ts : List LX.Tok) (lv : Nat) (h : PAt V K ts lv) :
    Calls Tryz.prog 82 #[.pointer (some ⟨K.g, 0, none⟩)] V (URes V K lv (fun n : Nat => .int .i64 (n : Int)) (PS.hnum ts)) := by
  obtain ⟨t, u, rfl⟩ := h.good.ne
  have hgd := h.good
  have P1 := Lib.hid h
  have HN := Lib.hid (next_any V K t u lv h)
  clear h
  simp only [PS.hnum]
  by_cases h1 : t.text = PS.wStart
  · have e1 : (t.text == PS.wStart) = true := by rw [beq_iff_eq]; exact h1
    have hgu := hgd.tail (by rw [h1]; decide)
    rw [if_pos h1]
    clear h1
    go_enter Tryz.func82, Tryz.ntmps82
    go_wp2_with (first
      | (go_at_call 60; refine HN.out.mono ?_; clear HN; rintro e w2 ⟨rfl, hb2⟩; have P2 := Lib.hid (P1.out.keep hb2); have B2 := Lib.hid hb2; clear hb2)
      | (go_at_call 79; refine (take_any _ K t u lv P2.out hgu).mono ?_; rintro e w3 ⟨rfl, hP, hC⟩))
    go_ret
    exact ⟨(chgB B2.out).trans hC (fun _ _ e => e), rfl, hP⟩
  have e1 : (t.text == PS.wStart) = false := by rw [beq_eq_false_iff_ne]; exact h1
  rw [if_neg h1]
  by_cases h2 : t.text = PS.wRequest
  · have e2 : (t.text == PS.wRequest) = true := by rw [beq_iff_eq]; exact h2
    have hgu := hgd.tail (by rw [h2]; decide)
    rw [if_pos h2]
    clear h1 h2
    go_enter Tryz.func82, Tryz.ntmps82
    go_wp2_with (first
      | (go_at_call 60; refine HN.out.mono ?_; clear HN; rintro e w2 ⟨rfl, hb2⟩; have P2 := Lib.hid (P1.out.keep hb2); have B2 := Lib.hid hb2; clear hb2)
      | (go_at_call 79; refine (take_any _ K t u lv P2.out hgu).mono ?_; rintro e w3 ⟨rfl, hP, hC⟩))
    go_ret
    exact ⟨(chgB B2.out).trans hC (fun _ _ e => e), rfl, hP⟩
  have e2 : (t.text == PS.wRequest) = false := by rw [beq_eq_false_iff_ne]; exact h2
  rw [if_neg h2]
  by_cases h3 : t.text = PS.wTimer
  · have e3 : (t.text == PS.wTimer) = true := by rw [beq_iff_eq]; exact h3
    have hgu := hgd.tail (by rw [h3]; decide)
    rw [if_pos h3]
    clear h1 h2 h3
    go_enter Tryz.func82, Tryz.ntmps82
    go_wp2_with (first
      | (go_at_call 60; refine HN.out.mono ?_; clear HN; rintro e w2 ⟨rfl, hb2⟩; have P2 := Lib.hid (P1.out.keep hb2); have B2 := Lib.hid hb2; clear hb2)
      | (go_at_call 79; refine (take_any _ K t u lv P2.out hgu).mono ?_; rintro e w3 ⟨rfl, hP, hC⟩; have P3 := Lib.hid hP; have C3 := Lib.hid ((chgB B2.out).trans hC (fun _ _ e => e)); clear hP hC))
    cases hq : PS.numb 8 u with
    | out =>
      exfalso
      obtain ⟨t2, v, rfl⟩ := hgu.ne
      simp only [PS.numb] at hq
      repeat' split at hq
      all_goals cases hq
    | err p c =>
      have HM := Lib.hid (numb_at P3.out hq)
      have HQ := Lib.hid hq
      clear hq
      go_wp2_with (first
        | (go_at_call 80; refine HM.out.mono ?_; clear HM; rintro e w4 ⟨hC, rfl⟩))
      refine ⟨rfl, C3.out.trans hC (fun _ _ e => e), ?_⟩
      rw [HQ.out]
      exact rfl
    | ok n r =>
      have hn := numb_lt hq
      have HM := Lib.hid (numb_at P3.out hq)
      have HQ := Lib.hid hq
      clear hq
      have hn2 : (n : Int) ≤ 100 := by omega
      go_wp2_with (first
        | (go_at_call 80; refine HM.out.mono ?_; clear HM; rintro e w4 ⟨hC, rfl, hP⟩))
      go_ret
      refine ⟨C3.out.trans hC (fun _ _ e => e), ?_⟩
      rw [HQ.out]
      exact ⟨by simp, hP⟩
  have e3 : (t.text == PS.wTimer) = false := by rw [beq_eq_false_iff_ne]; exact h3
  rw [if_neg h3]
  by_cases h4 : t.text = PS.wMessage
  · rw [if_pos h4]
    have hgu := hgd.tail (by rw [h4]; decide)
    go_enter Tryz.func82, Tryz.ntmps82
    go_wp2_with (first
      | (go_at_call 60; refine HN.out.mono ?_; clear HN; rintro e w2 ⟨rfl, hb2⟩; have P2 := Lib.hid (P1.out.keep hb2); have B2 := Lib.hid hb2; have HM := Lib.hid (must_at P2.out (by decide) (show PS.must PS.wMessage (t :: u) = .ok () u by simp only [PS.must, if_pos h4])); clear hb2)
      | (go_at_call 76; refine HM.out.mono ?_; clear HM; rintro e w3 ⟨hC, rfl, hP⟩; have P3 := Lib.hid hP; have C3 := Lib.hid ((chgB B2.out).trans hC (fun _ _ e => e)); clear hP hC))
    clear h1 h2 h3 h4
    cases hq : PS.numb 30 u with
    | out =>
      exfalso
      obtain ⟨t2, v, rfl⟩ := hgu.ne
      simp only [PS.numb] at hq
      repeat' split at hq
      all_goals cases hq
    | err p c =>
      have HM := Lib.hid (numb_at P3.out hq)
      have HQ := Lib.hid hq
      clear hq
      go_wp2_with (first
        | (go_at_call 80; refine HM.out.mono ?_; clear HM; rintro e w4 ⟨hC, rfl⟩))
      refine ⟨rfl, C3.out.trans hC (fun _ _ e => e), ?_⟩
      rw [HQ.out]
      exact rfl
    | ok n r =>
      have hn := numb_lt hq
      have HM := Lib.hid (numb_at P3.out hq)
      have HQ := Lib.hid hq
      clear hq
      have hn2 : (n : Int) ≤ 100 := by omega
      go_wp2_with (first
        | (go_at_call 80; refine HM.out.mono ?_; clear HM; rintro e w4 ⟨hC, rfl, hP⟩))
      go_ret
      refine ⟨C3.out.trans hC (fun _ _ e => e), ?_⟩
      rw [HQ.out]
      exact ⟨by simp, hP⟩
  · rw [if_neg h4]
    go_enter Tryz.func82, Tryz.ntmps82
    go_wp2_with (first
      | (go_at_call 60; refine HN.out.mono ?_; clear HN; rintro e w2 ⟨rfl, hb2⟩; have P2 := Lib.hid (P1.out.keep hb2); have B2 := Lib.hid hb2; have HM := Lib.hid (must_at P2.out (by decide) (show PS.must PS.wMessage (t :: u) = .err t.pos 10 by simp only [PS.must, if_neg h4])); clear hb2)
      | (go_at_call 76; refine HM.out.mono ?_; clear HM; rintro e w3 ⟨hC, rfl⟩))
    exact ⟨rfl, (chgB B2.out).trans hC (fun _ _ e => e), rfl⟩
end Go.Proofs.YtlfpaemfhanpiaaGreatDoor
