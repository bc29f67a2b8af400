/-
  The program's Same of two programs. No condition but that the values are programs.
  The function that Parse defers: what it does to a frame that panics with a failure, and to one that returns.
  The function that Parse defers: what it does to a frame that panics with a failure, and to one that returns.
  The program's Parse, given the library's sort. Conditions: the source's length; the library's variables.
-/
import Derived.Test.YtlfpaemfhanpiaaGreatDoorK20
import Derived.Test.YtlfpaemfhanpiaaGreatDoorK24
import Derived.Test.YtlfpaemfhanpiaaGreatDoorK31
import Derived.Defers
import Derived.Recover
import Derived.Test.YtlfpaemfhanpiaaGreatDoorK29
import Derived.Test.YtlfpaemfhanpiaaGreatDoorK22

namespace Go.Proofs.YtlfpaemfhanpiaaGreatDoor
open Go Go.RowKit Go.Proofs
attribute [local go_sem] Oper.semAt_some

/-- Handler i in memory. -/
theorem TR.hat {B j c : Nat} {W : World} {A : Option Addr} {hs : List PS.Hd} {cs : List Value} (h : TR 48 1 B W A j c (hnd2 hs) cs) {i n : Nat} {t : TY.Nd} (hi : hs[i]? = some (n, t)) : ∃ (b : Nat) (k q : Int) (s : ByteArray) (A' : Option Addr) (m d : Nat), A = some ⟨b, 0, none⟩ ∧ b < W.heap.size ∧ NdV W W.heap.size t (ndv k q s (.slice A' m d)) ∧ W.cell? ⟨b, i * 5, none⟩ = some (.int .i64 (n : Int)) ∧ W.cell? ⟨b, i * 5 + 1, none⟩ = some (.int .i64 k) ∧ W.cell? ⟨b, i * 5 + 2, none⟩ = some (.int .i64 q) ∧ W.cell? ⟨b, i * 5 + 3, none⟩ = some (.string s) ∧ W.cell? ⟨b, i * 5 + 4, none⟩ = some (.slice A' m d) := by
  obtain ⟨h1, h2, h3, h4⟩ := h
  rw [List.length_map] at h1
  have hlt : i < hs.length := (List.getElem?_eq_some_iff.1 hi).1
  obtain ⟨g, cap, hv, hlo, hg⟩ := World.ownsRow.form h2 (by omega)
  injection hv with e1 _ _
  subst e1
  obtain ⟨_, k, q, s, A', m, d, ht, e, e0, e1, e2, e3⟩ := h4 i ([.int .i64 (n : Int)], t) (by rw [List.getElem?_map, hi]; rfl)
  have key : ∀ r u, cs[i * 5 + r]? = some u → W.cell? ⟨g, i * 5 + r, none⟩ = some u := fun r u hu => by
    have := World.ownsRow.cells h2 (g := g) rfl (i * 5 + r) u hu
    rwa [Addr.add_lit, Nat.zero_add] at this
  exact ⟨g, k, q, s, A', m, d, rfl, hg, ht.here, key 0 _ (e 0 (by decide)), key 1 _ e0, key 2 _ e1, key 3 _ e2, key 4 _ e3⟩
theorem hd_take {l l' : List PS.Hd} {j : Nat} {t : PS.Hd} (h : l.take j = l'.take j) (h1 : l[j]? = some t) (h2 : l'[j]? = some t) : l.take (j + 1) = l'.take (j + 1) := by
  rw [List.take_add_one, List.take_add_one, h, h1, h2]
noncomputable def eqH (a b : List PS.Hd) : Bool := @decide (a = b) (Classical.propDecidable _)
theorem eqH_t {a b : List PS.Hd} (h : a = b) : eqH a b = true := @decide_eq_true _ (Classical.propDecidable _) h
theorem eqH_f {a b : List PS.Hd} (h : a ≠ b) : eqH a b = false := @decide_eq_false _ (Classical.propDecidable _) h
/-- Two programs are equal. -/
noncomputable def eqU (a b : PS.Un) : Bool := @decide (a = b) (Classical.propDecidable _)
theorem eqU_t {a b : PS.Un} (h : a = b) : eqU a b = true := @decide_eq_true _ (Classical.propDecidable _) h
theorem eqU_f {a b : PS.Un} (h : a ≠ b) : eqU a b = false := @decide_eq_false _ (Classical.propDecidable _) h
set_option maxHeartbeats 2000000 in
theorem sameHandler_any (W : World) (hi hi' n n' : Nat) (t t' : TY.Nd) (k q k' q' : Int) (s s' : ByteArray) (K K' : Value) (A A' : Option Addr) (m c m' c' : Nat) (hK : K = .slice A m c) (hK' : K' = .slice A' m' c') (hv : NdV W hi t (ndv k q s K)) (hv' : NdV W hi' t' (ndv k' q' s' K')) (hh : hi ≤ W.heap.size) (hh' : hi' ≤ W.heap.size) :
    Calls Tryz.prog 29 #[.agg #[.int .i64 (n : Int), .int .i64 k, .int .i64 q, .string s, K], .agg #[.int .i64 (n' : Int), .int .i64 k', .int .i64 q', .string s', K']] W fun e w' => e = .returned (.bool (decide (n = n') && eqN t t')) ∧ Below W.heap.size W w' := by
  subst hK hK'
  obtain ⟨W2, hW2⟩ : ∃ U, (W.alloc (.cells #[.int .i64 (n : Int), .int .i64 k, .int .i64 q, .string s, .slice A m c] 48)).alloc (.cells #[.int .i64 (n' : Int), .int .i64 k', .int .i64 q', .string s', .slice A' m' c'] 48) = U := ⟨_, rfl⟩
  have hB2 : Below W.heap.size W W2 := by rw [← hW2]; exact ((Below.refl _ W).alloc (Nat.le_refl _) _).alloc (by rw [World.size_alloc]; omega) _
  have HE := Lib.hid (equal_any t W2 hi hi' t' _ _ (hv.keep (fun b C hb _ => hB2.block b (by omega)) (Nat.le_refl _)) (hv'.keep (fun b C hb _ => hB2.block b (by omega)) (Nat.le_refl _)) (Nat.le_trans hh hB2.size) (Nat.le_trans hh' hB2.size))
  have HB := Lib.hid hB2
  have HW := Lib.hid hW2
  clear hv hv' hB2 hW2
  by_cases hn : n = n'
  · subst hn
    rw [decide_eq_true rfl, Bool.true_and]
    go_enter Tryz.func29, Tryz.ntmps29
    go_wp2_with fail
    rw [HW.out]
    refine HE.out.mono ?_
    rintro e w3 ⟨rfl, hb3⟩
    have HB3 := Lib.hid (HB.out.trans (hb3.mono HB.out.size))
    clear hb3 HE
    go_wp2_with fail
    go_ret
    exact ⟨rfl, HB3.out⟩
  · rw [decide_eq_false hn, Bool.false_and]
    have hz : ((n : Int) == (n' : Int)) = false := by simp; omega
    clear HE hn
    go_enter Tryz.func29, Tryz.ntmps29
    go_wp2_with fail
    rw [HW.out]
    go_ret
    exact ⟨rfl, HB.out⟩
set_option maxRecDepth 100000 in
set_option maxHeartbeats 4000000 in
theorem eqFuncH_any (W : World) (lo lo' : Nat) (l l' : List PS.Hd) (A A' : Option Addr) (c c' : Nat) (cs cs' : List Value) (hm : l.length ≤ 1000000) (h : TR 48 1 lo W A l.length c (hnd2 l) cs) (h' : TR 48 1 lo' W A' l'.length c' (hnd2 l') cs') :
    Calls Tryz.prog 28 #[.slice A l.length c, .slice A' l'.length c', .func (.func 29) #[] #[]] W fun e w' => e = .returned (.bool (eqH l l')) ∧ Below W.heap.size W w' := by
  have eg := enters_of Tryz.func29 (by kernel_rfl) rfl
  by_cases hlen : l.length = l'.length
  · have H := Lib.hid h
    have H' := Lib.hid h'
    obtain ⟨m, hm0⟩ : ∃ m, l.length = m := ⟨_, rfl⟩
    have hm1 : l'.length = m := by omega
    rw [hm0] at hm H ⊢
    rw [hm1] at H' ⊢
    have HM := Lib.hid hm0
    have HM1 := Lib.hid hm1
    clear hm0 hm1 h h' hlen
    go_enter Tryz.func28, Tryz.ntmps28
    go_wp2_with fail
    go_loopw [17] (fun i V => ∃ j : Nat, j ≤ m ∧ i = .int .i64 (j : Int) ∧ Hid (l.take j = l'.take j) ∧ Hid (Below W.heap.size W V)) (fun i _ => m - (intOf i).toNat)
    case atStart => exact ⟨0, by omega, rfl, (show l.take 0 = l'.take 0 from rfl), Below.refl _ _⟩
    case round =>
      obtain ⟨j, hj, rfl, hT, hBl⟩ := hrel
      by_cases hjm : j < m
      · obtain ⟨⟨n, t⟩, htj⟩ : ∃ t, l[j]? = some t := ⟨l[j]'(by rw [HM.out]; exact hjm), List.getElem?_eq_getElem (by rw [HM.out]; exact hjm)⟩
        obtain ⟨⟨n', t'⟩, htj'⟩ : ∃ t, l'[j]? = some t := ⟨l'[j]'(by rw [HM1.out]; exact hjm), List.getElem?_eq_getElem (by rw [HM1.out]; exact hjm)⟩
        obtain ⟨b, kj, nj, sj, Aj, lj, cj, rfl, hbh, hnv, c0, c1, c2, c3, c4⟩ := H.out.hat htj
        obtain ⟨b', kj', nj', sj', Aj', lj', cj', rfl, hbh', hnv', c0', c1', c2', c3', c4'⟩ := H'.out.hat htj'
        have e0 := (hBl.out.cell (p := ⟨b, j * 5, none⟩) hbh).trans c0
        have e1 := (hBl.out.cell (p := ⟨b, j * 5 + 1, none⟩) hbh).trans c1
        have e2 := (hBl.out.cell (p := ⟨b, j * 5 + 2, none⟩) hbh).trans c2
        have e3 := (hBl.out.cell (p := ⟨b, j * 5 + 3, none⟩) hbh).trans c3
        have e4 := (hBl.out.cell (p := ⟨b, j * 5 + 4, none⟩) hbh).trans c4
        have hsz := hBl.out.size
        have hbx : b' < wr.heap.size := by omega
        have f0 := (((Below.refl wr.heap.size wr).alloc (Nat.le_refl _) (.cells #[.int .i64 (n : Int), .int .i64 kj, .int .i64 nj, .string sj, .slice Aj lj cj] 48)).cell (p := ⟨b', j * 5, none⟩) hbx).trans ((hBl.out.cell (p := ⟨b', j * 5, none⟩) hbh').trans c0')
        have f1 := (((Below.refl wr.heap.size wr).alloc (Nat.le_refl _) (.cells #[.int .i64 (n : Int), .int .i64 kj, .int .i64 nj, .string sj, .slice Aj lj cj] 48)).cell (p := ⟨b', j * 5 + 1, none⟩) hbx).trans ((hBl.out.cell (p := ⟨b', j * 5 + 1, none⟩) hbh').trans c1')
        have f2 := (((Below.refl wr.heap.size wr).alloc (Nat.le_refl _) (.cells #[.int .i64 (n : Int), .int .i64 kj, .int .i64 nj, .string sj, .slice Aj lj cj] 48)).cell (p := ⟨b', j * 5 + 2, none⟩) hbx).trans ((hBl.out.cell (p := ⟨b', j * 5 + 2, none⟩) hbh').trans c2')
        have f3 := (((Below.refl wr.heap.size wr).alloc (Nat.le_refl _) (.cells #[.int .i64 (n : Int), .int .i64 kj, .int .i64 nj, .string sj, .slice Aj lj cj] 48)).cell (p := ⟨b', j * 5 + 3, none⟩) hbx).trans ((hBl.out.cell (p := ⟨b', j * 5 + 3, none⟩) hbh').trans c3')
        have f4 := (((Below.refl wr.heap.size wr).alloc (Nat.le_refl _) (.cells #[.int .i64 (n : Int), .int .i64 kj, .int .i64 nj, .string sj, .slice Aj lj cj] 48)).cell (p := ⟨b', j * 5 + 4, none⟩) hbx).trans ((hBl.out.cell (p := ⟨b', j * 5 + 4, none⟩) hbh').trans c4')
        clear c0 c1 c2 c3 c4 c0' c1' c2' c3' c4'
        have hB2 : Below W.heap.size W ((wr.alloc (.cells #[.int .i64 (n : Int), .int .i64 kj, .int .i64 nj, .string sj, .slice Aj lj cj] 48)).alloc (.cells #[.int .i64 (n' : Int), .int .i64 kj', .int .i64 nj', .string sj', .slice Aj' lj' cj'] 48)) := (hBl.out.alloc hsz _).alloc (by rw [World.size_alloc]; omega) _
        have HC := Lib.hid (sameHandler_any _ W.heap.size W.heap.size n n' t t' kj nj kj' nj' sj sj' _ _ Aj Aj' lj cj lj' cj' rfl rfl (hnv.under hB2 (Nat.le_refl _)) (hnv'.under hB2 (Nat.le_refl _)) hB2.size hB2.size)
        have HB2 := Lib.hid hB2
        have HTS := Lib.hid (show (n, t) = (n', t') → l.take (j + 1) = l'.take (j + 1) from fun e => hd_take hT.out htj (e ▸ htj'))
        have HNE := Lib.hid (show (n, t) ≠ (n', t') → eqH l l' = false from fun h => eqH_f (fun e => h (by have := htj; rw [e, htj'] at this; exact (Option.some.inj this).symm)))
        clear hB2 htj htj' hnv hnv'
        go_wp2_with fail
        refine HC.out.mono ?_
        clear HC e0 e1 e2 e3 e4 f0 f1 f2 f3 f4
        rintro e w2 ⟨rfl, hb2⟩
        have HB3 := Lib.hid (HB2.out.trans (hb2.mono HB2.out.size))
        clear hb2
        by_cases hee : (n, t) = (n', t')
        · have hr : (decide (n = n') && eqN t t') = true := by
            injection hee with a1 a2
            rw [decide_eq_true a1, eqN_t a2]
            rfl
          rw [hr]
          have HTN := Lib.hid (HTS.out hee)
          clear HTS HNE hee hr
          go_wp2_with fail
          go_roundw
          case rel => exact ⟨j + 1, by omega, by go_num, HTN.out, HB3.out⟩
          case measure => simp [intOf]; omega
        · have hr : (decide (n = n') && eqN t t') = false := by
            by_cases a1 : n = n'
            · rw [eqN_f (fun a2 => hee (by rw [a1, a2])), Bool.and_false]
            · rw [decide_eq_false a1, Bool.false_and]
          rw [hr]
          have HF := Lib.hid (HNE.out hee)
          clear HTS HNE hee hr
          go_wp2_with fail
          go_ret
          exact ⟨by rw [HF.out]; rfl, HB3.out⟩
      · obtain rfl : j = m := by omega
        have HF := Lib.hid (show eqH l l' = true from eqH_t (by
          have h := hT.out
          rw [List.take_of_length_le (by rw [HM.out]; omega), List.take_of_length_le (by rw [HM1.out]; omega)] at h
          exact h))
        go_wp2_with fail
        go_ret
        exact ⟨by rw [HF.out]; rfl, hBl.out⟩
  · have hF := eqH_f (fun e : l = l' => hlen (by rw [e]))
    rw [hF]
    have hg : ((l.length : Int) != (l'.length : Int)) = true := by simp; omega
    clear hF h h'
    go_enter Tryz.func28, Tryz.ntmps28
    go_wp2_with fail
    go_ret
    exact ⟨rfl, Below.refl _ _⟩
end Go.Proofs.YtlfpaemfhanpiaaGreatDoor

namespace Go.Proofs.YtlfpaemfhanpiaaGreatDoor
open Go Go.RowKit Go.Proofs
attribute [local go_sem] Oper.semAt_some

section
variable {P : Program} {ops : Array Oper} {Q : Exit → Act → List Frame → World → Prop} {a : Act} {cs : List Frame} {w w' : World} {i : Nat} {rest : List Nat} {o : Oper} {v : Value}
theorem s_val (ho : ops[i]? = some o) (hg : o.guard = none) (hrun : (execOp a.eval o).run P w = .ok (.value v) w') (h : wpOpsS P ops Q rest (a.put o.dst v) cs w') : wpOpsS P ops Q (i :: rest) a cs w := by
  unfold wpOpsS
  rw [ho]
  simp only
  rw [if_pos (by unfold Region.wanted; rw [hg]), hrun]
  exact h
theorem s_val2 {a' : Act} (v : Value) (ho : ops[i]? = some o) (hg : o.guard = none) (hrun : (execOp a.eval o).run P w = .ok (.value v) w') (ha : a.put o.dst v = a') (h : wpOpsS P ops Q rest a' cs w') : wpOpsS P ops Q (i :: rest) a cs w := s_val ho hg hrun (ha ▸ h)
theorem s_skip (ho : ops[i]? = some o) (hg : o.guard = none) (hrun : (execOp a.eval o).run P w = .ok .skip w') (h : wpOpsS P ops Q rest (a.put o.dst undef) cs w') : wpOpsS P ops Q (i :: rest) a cs w := by
  unfold wpOpsS
  rw [ho]
  simp only
  rw [if_pos (by unfold Region.wanted; rw [hg]), hrun]
  exact h
theorem s_none (ho : ops[i]? = some o) (hg : o.guard = none) (hrun : (execOp a.eval o).run P w = .ok .recover w') (hr : recoverD cs = none) (h : wpOpsS P ops Q rest (a.put o.dst .nilIface) cs w') : wpOpsS P ops Q (i :: rest) a cs w := by
  unfold wpOpsS
  rw [ho]
  simp only
  rw [if_pos (by unfold Region.wanted; rw [hg]), hrun]
  simp only
  rw [hr]
  exact h
theorem s_some {cs' : List Frame} (ho : ops[i]? = some o) (hg : o.guard = none) (hrun : (execOp a.eval o).run P w = .ok .recover w') (hr : recoverD cs = some (v, cs')) (h : wpOpsS P ops Q rest (a.put o.dst v) cs' w') : wpOpsS P ops Q (i :: rest) a cs w := by
  unfold wpOpsS
  rw [ho]
  simp only
  rw [if_pos (by unfold Region.wanted; rw [hg]), hrun]
  simp only
  rw [hr]
  exact h
end
set_option maxRecDepth 100000 in
set_option maxHeartbeats 2000000 in
theorem catch_idle (p q r : Addr) (w : World) :
    CallsD Tryz.prog 32 #[.pointer (some p), .pointer (some q), .pointer (some r)] .returning w fun e u' w' => e = .returned (.tuple #[]) ∧ u' = .returning ∧ Below w.heap.size w w' := by
  refine callsD_of_wpS Tryz.func32 rfl fun c₀ cs hu => ?_
  apply wpS_seq
  apply wpS_region
  change wpOpsS _ _ _ [0, 1, 2, 3, 4, 5, 6, 7] ⟨#[.pointer (some p), .pointer (some q), .pointer (some r), undef, undef, undef, undef, undef, undef, undef, undef, undef, undef, undef, undef, undef], []⟩ _ _
  refine s_none rfl rfl rfl (by simp [recoverD, hu]) ?_
  change wpOpsS _ _ _ [1, 2, 3, 4, 5, 6, 7] ⟨#[.pointer (some p), .pointer (some q), .pointer (some r), undef, undef, undef, .nilIface, undef, undef, undef, undef, undef, undef, undef, undef, undef], []⟩ _ _
  refine s_val2 (a' := ⟨#[.pointer (some p), .pointer (some q), .pointer (some r), undef, undef, undef, .nilIface, .tuple #[.agg #[.int .i64 0, .int .i64 0], .bool false], undef, undef, undef, undef, undef, undef, undef, undef], []⟩) (w' := w) (.tuple #[.agg #[.int .i64 0, .int .i64 0], .bool false]) rfl rfl (by kernel_rfl) rfl ?_
  refine s_val2 (a' := ⟨#[.pointer (some p), .pointer (some q), .pointer (some r), undef, undef, .tuple #[.agg #[.int .i64 0, .int .i64 0], .bool false], .nilIface, .tuple #[.agg #[.int .i64 0, .int .i64 0], .bool false], undef, undef, undef, undef, undef, undef, undef, undef], []⟩) (w' := w) (.tuple #[.agg #[.int .i64 0, .int .i64 0], .bool false]) rfl rfl (by kernel_rfl) rfl ?_
  refine s_val2 (a' := ⟨#[.pointer (some p), .pointer (some q), .pointer (some r), undef, undef, .tuple #[.agg #[.int .i64 0, .int .i64 0], .bool false], .nilIface, .tuple #[.agg #[.int .i64 0, .int .i64 0], .bool false], .agg #[.int .i64 0, .int .i64 0], undef, undef, undef, undef, undef, undef, undef], []⟩) (w' := w) (.agg #[.int .i64 0, .int .i64 0]) rfl rfl (by kernel_rfl) rfl ?_
  refine s_val2 (a' := ⟨#[.pointer (some p), .pointer (some q), .pointer (some r), undef, undef, .tuple #[.agg #[.int .i64 0, .int .i64 0], .bool false], .nilIface, .tuple #[.agg #[.int .i64 0, .int .i64 0], .bool false], .agg #[.int .i64 0, .int .i64 0], .bool false, undef, undef, undef, undef, undef, undef], []⟩) (w' := w) (.bool false) rfl rfl (by kernel_rfl) rfl ?_
  refine s_val2 (a' := ⟨#[.pointer (some p), .pointer (some q), .pointer (some r), .pointer (some ⟨w.heap.size, 0, none⟩), undef, .tuple #[.agg #[.int .i64 0, .int .i64 0], .bool false], .nilIface, .tuple #[.agg #[.int .i64 0, .int .i64 0], .bool false], .agg #[.int .i64 0, .int .i64 0], .bool false, undef, undef, undef, undef, undef, undef], []⟩) (w' := w.alloc (.cells #[.int .i64 0, .int .i64 0] 66)) (.pointer (some ⟨w.heap.size, 0, none⟩)) rfl rfl (by simp [execOp, go_sem]) rfl ?_
  refine s_skip (w' := w.alloc (.cells #[.int .i64 0, .int .i64 0] 66)) rfl rfl (by simp [execOp, go_sem, Act.eval]) ?_
  change wpOpsS _ _ _ [7] ⟨#[.pointer (some p), .pointer (some q), .pointer (some r), .pointer (some ⟨w.heap.size, 0, none⟩), undef, .tuple #[.agg #[.int .i64 0, .int .i64 0], .bool false], .nilIface, .tuple #[.agg #[.int .i64 0, .int .i64 0], .bool false], .agg #[.int .i64 0, .int .i64 0], .bool false, undef, undef, undef, undef, undef, undef], []⟩ _ _
  refine s_val2 (a' := ⟨#[.pointer (some p), .pointer (some q), .pointer (some r), .pointer (some ⟨w.heap.size, 0, none⟩), .bool false, .tuple #[.agg #[.int .i64 0, .int .i64 0], .bool false], .nilIface, .tuple #[.agg #[.int .i64 0, .int .i64 0], .bool false], .agg #[.int .i64 0, .int .i64 0], .bool false, undef, undef, undef, undef, undef, undef], []⟩) (w' := (w.alloc (.cells #[.int .i64 0, .int .i64 0] 66))) (.bool false) rfl rfl (by kernel_rfl) rfl ?_
  change Code.wpS _ _ _ ⟨#[.pointer (some p), .pointer (some q), .pointer (some r), .pointer (some ⟨w.heap.size, 0, none⟩), .bool false, .tuple #[.agg #[.int .i64 0, .int .i64 0], .bool false], .nilIface, .tuple #[.agg #[.int .i64 0, .int .i64 0], .bool false], .agg #[.int .i64 0, .int .i64 0], .bool false, undef, undef, undef, undef, undef, undef], []⟩ _ _
  apply wpS_seq
  apply wpS_region
  change wpOpsS _ _ _ [0] ⟨#[.pointer (some p), .pointer (some q), .pointer (some r), .pointer (some ⟨w.heap.size, 0, none⟩), .bool false, .tuple #[.agg #[.int .i64 0, .int .i64 0], .bool false], .nilIface, .tuple #[.agg #[.int .i64 0, .int .i64 0], .bool false], .agg #[.int .i64 0, .int .i64 0], .bool false, undef, undef, undef, undef, undef, undef], []⟩ _ _
  refine s_val2 (a' := ⟨#[.pointer (some p), .pointer (some q), .pointer (some r), .pointer (some ⟨w.heap.size, 0, none⟩), .bool false, .tuple #[.agg #[.int .i64 0, .int .i64 0], .bool false], .nilIface, .tuple #[.agg #[.int .i64 0, .int .i64 0], .bool false], .agg #[.int .i64 0, .int .i64 0], .bool false, .bool false, undef, undef, undef, undef, undef], []⟩) (w' := (w.alloc (.cells #[.int .i64 0, .int .i64 0] 66))) (.bool false) rfl rfl (by kernel_rfl) rfl ?_
  change Code.wpS _ _ _ ⟨#[.pointer (some p), .pointer (some q), .pointer (some r), .pointer (some ⟨w.heap.size, 0, none⟩), .bool false, .tuple #[.agg #[.int .i64 0, .int .i64 0], .bool false], .nilIface, .tuple #[.agg #[.int .i64 0, .int .i64 0], .bool false], .agg #[.int .i64 0, .int .i64 0], .bool false, .bool false, undef, undef, undef, undef, undef], []⟩ _ _
  refine wpS_cond (t := false) rfl ?_
  have hB : Below w.heap.size w (w.alloc (.cells #[.int .i64 0, .int .i64 0] 66)) := (Below.refl _ _).alloc (Nat.le_refl _) _
  simp only [Bool.false_eq_true, if_false]
  refine wpS_of_wp (wp_skip ?_)
  cases c₀
  simp_all [bodyPostS, results, Tryz.results32]
end Go.Proofs.YtlfpaemfhanpiaaGreatDoor

namespace Go.Proofs.YtlfpaemfhanpiaaGreatDoor
open Go Go.RowKit Go.Proofs
attribute [local go_sem] Oper.semAt_some

/-- The result cells hold the zero unit and the failure's parts. -/
def Rst (bu ba be : Nat) (w : World) (x y : Int) (w' : World) : Prop := w'.heap[bu]? = some (.cells #[.slice none 0 0, .slice none 0 0, .slice none 0 0] 26 (0, 0)) ∧ w'.heap[ba]? = some (.cells #[.int .i64 x] 3 (0, 0)) ∧ w'.heap[be]? = some (.cells #[.int .i64 y] 38 (0, 0)) ∧ Chg (fun b => b = bu ∨ b = ba ∨ b = be) w w'
theorem cb_world {bu ba be : Nat} {u0 u1 u2 : Value} {x0 y0 : Int} {w : World} (hu : w.heap[bu]? = some (.cells #[u0, u1, u2] 26 (0, 0))) (ha : w.heap[ba]? = some (.cells #[.int .i64 x0] 3 (0, 0))) (he : w.heap[be]? = some (.cells #[.int .i64 y0] 38 (0, 0))) (n1 : bu ≠ ba) (n2 : bu ≠ be) (n3 : ba ≠ be) (x y : Int) : Rst bu ba be w x y (((((((w.setCell ⟨bu, 0, none⟩ (.slice none 0 0)).setCell ⟨bu, 1, none⟩ (.slice none 0 0)).setCell ⟨bu, 2, none⟩ (.slice none 0 0)).setCell ⟨ba, 0, none⟩ (.int .i64 x)).setCell ⟨be, 0, none⟩ (.int .i64 y)).alloc (.cells #[.int .i64 x, .int .i64 y] 66)).drew) := by
  have l1 := heap_lt hu
  have l2 := heap_lt ha
  have l3 := heap_lt he
  have al : ∀ (V : World) (o : Obj) (b : Nat), b < V.heap.size → (V.alloc o).drew.heap[b]? = V.heap[b]? := fun V o b hb => Below.heap_alloc V o b hb
  refine ⟨?_, ?_, ?_, ?_⟩
  · rw [al _ _ _ (by simpa [World.setCell] using l1), Below.heap_setCell _ _ _ _ n2, Below.heap_setCell _ _ _ _ n1]
    exact row_set (row_set (row_set hu _) _) _
  · rw [al _ _ _ (by simpa [World.setCell] using l2), Below.heap_setCell _ _ _ _ n3]
    refine row_set (C := #[.int .i64 x0]) ?_ _
    rw [Below.heap_setCell _ _ _ _ n1.symm, Below.heap_setCell _ _ _ _ n1.symm, Below.heap_setCell _ _ _ _ n1.symm]
    exact ha
  · rw [al _ _ _ (by simpa [World.setCell] using l3)]
    refine row_set (C := #[.int .i64 y0]) ?_ _
    rw [Below.heap_setCell _ _ _ _ n3.symm, Below.heap_setCell _ _ _ _ n2.symm, Below.heap_setCell _ _ _ _ n2.symm, Below.heap_setCell _ _ _ _ n2.symm]
    exact he
  · exact ((((((Chg.refl _ w).setCell (p := ⟨bu, 0, none⟩) (fun _ => .inl rfl) _).setCell (p := ⟨bu, 1, none⟩) (fun _ => .inl rfl) _).setCell (p := ⟨bu, 2, none⟩) (fun _ => .inl rfl) _).setCell (p := ⟨ba, 0, none⟩) (fun _ => .inr (.inl rfl)) _).setCell (p := ⟨be, 0, none⟩) (fun _ => .inr (.inr rfl)) _).alloc _ |>.drew
set_option maxRecDepth 100000 in
set_option maxHeartbeats 2000000 in
theorem catch_panicking (bu ba be : Nat) (u0 u1 u2 : Value) (x0 y0 : Int) (x y : Int) (older : List PanicEntry) (w : World) (hu : w.heap[bu]? = some (.cells #[u0, u1, u2] 26 (0, 0))) (ha : w.heap[ba]? = some (.cells #[.int .i64 x0] 3 (0, 0))) (he : w.heap[be]? = some (.cells #[.int .i64 y0] 38 (0, 0))) (n1 : bu ≠ ba) (n2 : bu ≠ be) (n3 : ba ≠ be) :
    CallsD Tryz.prog 32 #[.pointer (some ⟨bu, 0, none⟩), .pointer (some ⟨ba, 0, none⟩), .pointer (some ⟨be, 0, none⟩)] (.panicking ({ v := .iface 66 (.agg #[.int .i64 x, .int .i64 y]), recovered := false } :: older)) w fun e u' w' => e = .returned (.tuple #[]) ∧ u' = .panicking ({ v := .iface 66 (.agg #[.int .i64 x, .int .i64 y]), recovered := true } :: older) ∧ Rst bu ba be w x y w' := by
  refine callsD_of_wpS Tryz.func32 rfl fun c₀ cs hmode => ?_
  apply wpS_seq
  apply wpS_region
  change wpOpsS _ _ _ [0, 1, 2, 3, 4, 5, 6, 7] ⟨#[.pointer (some ⟨bu, 0, none⟩), .pointer (some ⟨ba, 0, none⟩), .pointer (some ⟨be, 0, none⟩), undef, undef, undef, undef, undef, undef, undef, undef, undef, undef, undef, undef, undef], []⟩ _ _
  refine s_some rfl rfl rfl (by simp [recoverD, hmode]; exact ⟨rfl, rfl⟩) ?_
  change wpOpsS _ _ _ [1, 2, 3, 4, 5, 6, 7] ⟨#[.pointer (some ⟨bu, 0, none⟩), .pointer (some ⟨ba, 0, none⟩), .pointer (some ⟨be, 0, none⟩), undef, undef, undef, .iface 66 (.agg #[.int .i64 x, .int .i64 y]), undef, undef, undef, undef, undef, undef, undef, undef, undef], []⟩ _ _
  refine s_val2 (a' := ⟨#[.pointer (some ⟨bu, 0, none⟩), .pointer (some ⟨ba, 0, none⟩), .pointer (some ⟨be, 0, none⟩), undef, undef, undef, .iface 66 (.agg #[.int .i64 x, .int .i64 y]), .tuple #[.agg #[.int .i64 x, .int .i64 y], .bool true], undef, undef, undef, undef, undef, undef, undef, undef], []⟩) (w' := w) (.tuple #[.agg #[.int .i64 x, .int .i64 y], .bool true]) rfl rfl (by kernel_rfl) rfl ?_
  refine s_val2 (a' := ⟨#[.pointer (some ⟨bu, 0, none⟩), .pointer (some ⟨ba, 0, none⟩), .pointer (some ⟨be, 0, none⟩), undef, undef, .tuple #[.agg #[.int .i64 x, .int .i64 y], .bool true], .iface 66 (.agg #[.int .i64 x, .int .i64 y]), .tuple #[.agg #[.int .i64 x, .int .i64 y], .bool true], undef, undef, undef, undef, undef, undef, undef, undef], []⟩) (w' := w) (.tuple #[.agg #[.int .i64 x, .int .i64 y], .bool true]) rfl rfl (by kernel_rfl) rfl ?_
  refine s_val2 (a' := ⟨#[.pointer (some ⟨bu, 0, none⟩), .pointer (some ⟨ba, 0, none⟩), .pointer (some ⟨be, 0, none⟩), undef, undef, .tuple #[.agg #[.int .i64 x, .int .i64 y], .bool true], .iface 66 (.agg #[.int .i64 x, .int .i64 y]), .tuple #[.agg #[.int .i64 x, .int .i64 y], .bool true], .agg #[.int .i64 x, .int .i64 y], undef, undef, undef, undef, undef, undef, undef], []⟩) (w' := w) (.agg #[.int .i64 x, .int .i64 y]) rfl rfl (by kernel_rfl) rfl ?_
  refine s_val2 (a' := ⟨#[.pointer (some ⟨bu, 0, none⟩), .pointer (some ⟨ba, 0, none⟩), .pointer (some ⟨be, 0, none⟩), undef, undef, .tuple #[.agg #[.int .i64 x, .int .i64 y], .bool true], .iface 66 (.agg #[.int .i64 x, .int .i64 y]), .tuple #[.agg #[.int .i64 x, .int .i64 y], .bool true], .agg #[.int .i64 x, .int .i64 y], .bool true, undef, undef, undef, undef, undef, undef], []⟩) (w' := w) (.bool true) rfl rfl (by kernel_rfl) rfl ?_
  refine s_val2 (a' := ⟨#[.pointer (some ⟨bu, 0, none⟩), .pointer (some ⟨ba, 0, none⟩), .pointer (some ⟨be, 0, none⟩), .pointer (some ⟨w.heap.size, 0, none⟩), undef, .tuple #[.agg #[.int .i64 x, .int .i64 y], .bool true], .iface 66 (.agg #[.int .i64 x, .int .i64 y]), .tuple #[.agg #[.int .i64 x, .int .i64 y], .bool true], .agg #[.int .i64 x, .int .i64 y], .bool true, undef, undef, undef, undef, undef, undef], []⟩) (w' := w.alloc (.cells #[.int .i64 0, .int .i64 0] 66)) (.pointer (some ⟨w.heap.size, 0, none⟩)) rfl rfl (by simp [execOp, go_sem]) rfl ?_
  refine s_skip (w' := w.alloc (.cells #[.int .i64 x, .int .i64 y] 66)) rfl rfl (by simp [execOp, go_sem, Act.eval]) ?_
  change wpOpsS _ _ _ [7] ⟨#[.pointer (some ⟨bu, 0, none⟩), .pointer (some ⟨ba, 0, none⟩), .pointer (some ⟨be, 0, none⟩), .pointer (some ⟨w.heap.size, 0, none⟩), undef, .tuple #[.agg #[.int .i64 x, .int .i64 y], .bool true], .iface 66 (.agg #[.int .i64 x, .int .i64 y]), .tuple #[.agg #[.int .i64 x, .int .i64 y], .bool true], .agg #[.int .i64 x, .int .i64 y], .bool true, undef, undef, undef, undef, undef, undef], []⟩ _ _
  refine s_val2 (a' := ⟨#[.pointer (some ⟨bu, 0, none⟩), .pointer (some ⟨ba, 0, none⟩), .pointer (some ⟨be, 0, none⟩), .pointer (some ⟨w.heap.size, 0, none⟩), .bool true, .tuple #[.agg #[.int .i64 x, .int .i64 y], .bool true], .iface 66 (.agg #[.int .i64 x, .int .i64 y]), .tuple #[.agg #[.int .i64 x, .int .i64 y], .bool true], .agg #[.int .i64 x, .int .i64 y], .bool true, undef, undef, undef, undef, undef, undef], []⟩) (w' := (w.alloc (.cells #[.int .i64 x, .int .i64 y] 66))) (.bool true) rfl rfl (by kernel_rfl) rfl ?_
  change Code.wpS _ _ _ ⟨#[.pointer (some ⟨bu, 0, none⟩), .pointer (some ⟨ba, 0, none⟩), .pointer (some ⟨be, 0, none⟩), .pointer (some ⟨w.heap.size, 0, none⟩), .bool true, .tuple #[.agg #[.int .i64 x, .int .i64 y], .bool true], .iface 66 (.agg #[.int .i64 x, .int .i64 y]), .tuple #[.agg #[.int .i64 x, .int .i64 y], .bool true], .agg #[.int .i64 x, .int .i64 y], .bool true, undef, undef, undef, undef, undef, undef], []⟩ _ _
  apply wpS_seq
  apply wpS_region
  change wpOpsS _ _ _ [0] ⟨#[.pointer (some ⟨bu, 0, none⟩), .pointer (some ⟨ba, 0, none⟩), .pointer (some ⟨be, 0, none⟩), .pointer (some ⟨w.heap.size, 0, none⟩), .bool true, .tuple #[.agg #[.int .i64 x, .int .i64 y], .bool true], .iface 66 (.agg #[.int .i64 x, .int .i64 y]), .tuple #[.agg #[.int .i64 x, .int .i64 y], .bool true], .agg #[.int .i64 x, .int .i64 y], .bool true, undef, undef, undef, undef, undef, undef], []⟩ _ _
  refine s_val2 (a' := ⟨#[.pointer (some ⟨bu, 0, none⟩), .pointer (some ⟨ba, 0, none⟩), .pointer (some ⟨be, 0, none⟩), .pointer (some ⟨w.heap.size, 0, none⟩), .bool true, .tuple #[.agg #[.int .i64 x, .int .i64 y], .bool true], .iface 66 (.agg #[.int .i64 x, .int .i64 y]), .tuple #[.agg #[.int .i64 x, .int .i64 y], .bool true], .agg #[.int .i64 x, .int .i64 y], .bool true, .bool true, undef, undef, undef, undef, undef], []⟩) (w' := (w.alloc (.cells #[.int .i64 x, .int .i64 y] 66))) (.bool true) rfl rfl (by kernel_rfl) rfl ?_
  change Code.wpS _ _ _ ⟨#[.pointer (some ⟨bu, 0, none⟩), .pointer (some ⟨ba, 0, none⟩), .pointer (some ⟨be, 0, none⟩), .pointer (some ⟨w.heap.size, 0, none⟩), .bool true, .tuple #[.agg #[.int .i64 x, .int .i64 y], .bool true], .iface 66 (.agg #[.int .i64 x, .int .i64 y]), .tuple #[.agg #[.int .i64 x, .int .i64 y], .bool true], .agg #[.int .i64 x, .int .i64 y], .bool true, .bool true, undef, undef, undef, undef, undef], []⟩ _ _
  refine wpS_cond (t := true) rfl ?_
  simp only [if_true]
  refine wpS_of_wp ?_
  have l1 := heap_lt hu
  have l2 := heap_lt ha
  have l3 := heap_lt he
  have g0 : w.cell? ⟨bu, 0, none⟩ = some u0 := cell_of_row w _ 0 _ _ (0, 0) hu
  have g1 : w.cell? ⟨bu, 1, none⟩ = some u1 := cell_of_row w _ 1 _ _ (0, 0) hu
  have g2 : w.cell? ⟨bu, 2, none⟩ = some u2 := cell_of_row w _ 2 _ _ (0, 0) hu
  have g3 : w.cell? ⟨ba, 0, none⟩ = some (.int .i64 x0) := cell_of_row w _ 0 _ _ (0, 0) ha
  have g4 : w.cell? ⟨be, 0, none⟩ = some (.int .i64 y0) := cell_of_row w _ 0 _ _ (0, 0) he
  have f0 : w.frozen? ⟨bu, 0, none⟩ = false := by simp [World.frozen?, hu]
  have f1 : w.frozen? ⟨bu, 1, none⟩ = false := by simp [World.frozen?, hu]
  have f2 : w.frozen? ⟨bu, 2, none⟩ = false := by simp [World.frozen?, hu]
  have f3 : w.frozen? ⟨ba, 0, none⟩ = false := by simp [World.frozen?, ha]
  have f4 : w.frozen? ⟨be, 0, none⟩ = false := by simp [World.frozen?, he]
  have hW := cb_world hu ha he n1 n2 n3 x y
  obtain ⟨U, hU⟩ : ∃ U, (((((((w.setCell ⟨bu, 0, none⟩ (.slice none 0 0)).setCell ⟨bu, 1, none⟩ (.slice none 0 0)).setCell ⟨bu, 2, none⟩ (.slice none 0 0)).setCell ⟨ba, 0, none⟩ (.int .i64 x)).setCell ⟨be, 0, none⟩ (.int .i64 y)).alloc (.cells #[.int .i64 x, .int .i64 y] 66)).drew) = U := ⟨_, rfl⟩
  rw [hU] at hW
  have HU := Lib.hid hU
  clear hU hu ha he
  go_region_law (fail)
  all_goals
    rw [HU.out]
    clear g0 g1 g2 g3 g4 f0 f1 f2 f3 f4 HU
    cases c₀
    simp_all [bodyPostS, results, Tryz.results32]
end Go.Proofs.YtlfpaemfhanpiaaGreatDoor

namespace Go.Proofs.YtlfpaemfhanpiaaGreatDoor
open Go Go.RowKit Go.Proofs Go.Proofs.YtlfpaemfhanpiaaGreatDoor.LX
attribute [local go_sem] Oper.semAt_some

theorem tok1_code {L : List UInt8} {c : Nat} (hL : L ≠ []) (h : tok1 L = .bad c) : c ≠ 0 := by
  cases L with
  | nil => exact absurd rfl hL
  | cons x t =>
    simp only [tok1] at h
    repeat' split at h
    all_goals first
      | (injection h with h; omega)
      | cases h
theorem lexF_code : ∀ (f o : Nat) (L : List UInt8) (p c : Nat), L.length < f → lexF f o L = .err p c → c ≠ 0
  | 0, _, _, _, _, h, _ => absurd h (by omega)
  | f + 1, o, L, p, c, hf, h => by
    unfold lexF at h
    have hl := skipS_len false L
    split at h
    · cases h
    · rename_i x t hs
      rw [show skipS false L = x :: t from hs] at hl
      split at h
      · rename_i e he
        injection h with _ h
        subst h
        exact tok1_code (List.cons_ne_nil _ _) he
      · rename_i k n v ht
        have h1 := tok1_len ht
        cases hr : lexF f (o + (L.length - (x :: t).length) + n) ((x :: t).drop n) with
        | ok us => rw [hr] at h; cases h
        | err p' c' =>
          rw [hr] at h
          injection h with _ h
          subst h
          exact lexF_code f _ _ _ _ (by rw [List.length_drop]; omega) hr
theorem lex_code {L : List UInt8} {p c : Nat} (h : lex L = .err p c) : c ≠ 0 := lexF_code _ _ _ _ _ (Nat.lt_succ_self _) h
/-- What Parse gives. -/
def PaRes (w : World) (R : PS.Res) (e : Ending) (w' : World) : Prop := Below w.heap.size w w' ∧ match R with
  | .err p c => e = .returned (.tuple #[.agg #[.slice none 0 0, .slice none 0 0, .slice none 0 0], .int .i64 (p : Int), .int .i64 (c : Int)])
  | .ok u => ∃ v, e = .returned (.tuple #[v, .int .i64 0, .int .i64 0]) ∧ UV3 w.heap.size w' u v
theorem ret_Pa {fn : Func} (hf : fn.results = #[.cell 2 26, .cell 3 3, .cell 4 38]) {V : World} {b0 b1 b2 : Nat} {x0 x1 x2 y z : Value} (tmps : Array Value) (h0 : tmps[2]?.getD undef = .pointer (some ⟨b0, 0, none⟩)) (h1 : tmps[3]?.getD undef = .pointer (some ⟨b1, 0, none⟩)) (h2 : tmps[4]?.getD undef = .pointer (some ⟨b2, 0, none⟩)) (k0 : V.heap[b0]? = some (.cells #[x0, x1, x2] 26 (0, 0))) (k1 : V.heap[b1]? = some (.cells #[y] 3 (0, 0))) (k2 : V.heap[b2]? = some (.cells #[z] 38 (0, 0))) : (results fn tmps).run Tryz.prog V = .ok (.tuple #[.agg #[x0, x1, x2], y, z]) V := by
  have c0 : V.cell? ⟨b0, 0, none⟩ = some x0 := cell_of_row V b0 0 _ _ (0, 0) k0
  have c1 : V.cell? ⟨b0, 1, none⟩ = some x1 := cell_of_row V b0 1 _ _ (0, 0) k0
  have c2 : V.cell? ⟨b0, 2, none⟩ = some x2 := cell_of_row V b0 2 _ _ (0, 0) k0
  have c3 : V.cell? ⟨b1, 0, none⟩ = some y := cell_of_row V b1 0 _ _ (0, 0) k1
  have c4 : V.cell? ⟨b2, 0, none⟩ = some z := cell_of_row V b2 0 _ _ (0, 0) k2
  have ia := Tryz.isAgg26
  have so := Tryz.sizeOf26
  have ia2 := Tryz.isAgg3
  have so2 := Tryz.sizeOf3
  have ia3 := Tryz.isAgg38
  have so3 := Tryz.sizeOf38
  simp only [results, hf]
  simp [go_sem, h0, h1, h2, c0, c1, c2, c3, c4, ia, so, ia2, so2, ia3, so3]
/-- The three result cells lie from block b on. -/
structure R3 (V : World) (b : Nat) (x0 x1 x2 y z : Value) : Prop where
  k0 : V.heap[b]? = some (.cells #[x0, x1, x2] 26 (0, 0))
  k1 : V.heap[b + 1]? = some (.cells #[y] 3 (0, 0))
  k2 : V.heap[b + 1 + 1]? = some (.cells #[z] 38 (0, 0))
section
variable {V : World} {b : Nat} {x0 x1 x2 y z : Value}
theorem R3.s0 (h : R3 V b x0 x1 x2 y z) (v : Value) : R3 (V.setCell ⟨b, 0, none⟩ v) b v x1 x2 y z := ⟨row_set h.k0 v, (Below.heap_setCell _ _ _ _ (by show b + 1 ≠ b; omega)).trans h.k1, (Below.heap_setCell _ _ _ _ (by show b + 1 + 1 ≠ b; omega)).trans h.k2⟩
theorem R3.s1 (h : R3 V b x0 x1 x2 y z) (v : Value) : R3 (V.setCell ⟨b, 1, none⟩ v) b x0 v x2 y z := ⟨row_set h.k0 v, (Below.heap_setCell _ _ _ _ (by show b + 1 ≠ b; omega)).trans h.k1, (Below.heap_setCell _ _ _ _ (by show b + 1 + 1 ≠ b; omega)).trans h.k2⟩
theorem R3.s2 (h : R3 V b x0 x1 x2 y z) (v : Value) : R3 (V.setCell ⟨b, 2, none⟩ v) b x0 x1 v y z := ⟨row_set h.k0 v, (Below.heap_setCell _ _ _ _ (by show b + 1 ≠ b; omega)).trans h.k1, (Below.heap_setCell _ _ _ _ (by show b + 1 + 1 ≠ b; omega)).trans h.k2⟩
theorem R3.sy (h : R3 V b x0 x1 x2 y z) (v : Value) : R3 (V.setCell ⟨b + 1, 0, none⟩ v) b x0 x1 x2 v z := ⟨(Below.heap_setCell _ _ _ _ (by show b ≠ b + 1; omega)).trans h.k0, row_set h.k1 v, (Below.heap_setCell _ _ _ _ (by show b + 1 + 1 ≠ b + 1; omega)).trans h.k2⟩
theorem R3.sz (h : R3 V b x0 x1 x2 y z) (v : Value) : R3 (V.setCell ⟨b + 1 + 1, 0, none⟩ v) b x0 x1 x2 y v := ⟨(Below.heap_setCell _ _ _ _ (by show b ≠ b + 1 + 1; omega)).trans h.k0, (Below.heap_setCell _ _ _ _ (by show b + 1 ≠ b + 1 + 1; omega)).trans h.k1, row_set h.k2 v⟩
theorem R3.keep {V' : World} (h : R3 V b x0 x1 x2 y z) (hk : ∀ c, b ≤ c → c < b + 3 → V'.heap[c]? = V.heap[c]?) : R3 V' b x0 x1 x2 y z := ⟨(hk _ (by omega) (by omega)).trans h.k0, (hk _ (by omega) (by omega)).trans h.k1, (hk _ (by omega) (by omega)).trans h.k2⟩
theorem R3.cells (h : R3 V b x0 x1 x2 y z) : V.cell? ⟨b, 0, none⟩ = some x0 ∧ V.cell? ⟨b, 1, none⟩ = some x1 ∧ V.cell? ⟨b, 2, none⟩ = some x2 ∧ V.cell? ⟨b + 1, 0, none⟩ = some y ∧ V.cell? ⟨b + 1 + 1, 0, none⟩ = some z ∧ V.frozen? ⟨b, 0, none⟩ = false ∧ V.frozen? ⟨b, 1, none⟩ = false ∧ V.frozen? ⟨b, 2, none⟩ = false ∧ V.frozen? ⟨b + 1, 0, none⟩ = false ∧ V.frozen? ⟨b + 1 + 1, 0, none⟩ = false := by
  obtain ⟨k0, k1, k2⟩ := h
  exact ⟨cell_of_row V b 0 _ _ (0, 0) k0, cell_of_row V b 1 _ _ (0, 0) k0, cell_of_row V b 2 _ _ (0, 0) k0, cell_of_row V _ 0 _ _ (0, 0) k1, cell_of_row V _ 0 _ _ (0, 0) k2, by simp [World.frozen?, k0], by simp [World.frozen?, k0], by simp [World.frozen?, k0], by simp [World.frozen?, k1], by simp [World.frozen?, k2]⟩
end
/-- The result cells, laid at the beginning. -/
theorem pa_begin (w : World) (x0 x1 x2 y z : Value) {W : World} (h : ((w.alloc (.cells #[x0, x1, x2] 26)).alloc (.cells #[y] 3)).alloc (.cells #[z] 38) = W) : Below w.heap.size w W ∧ W.heap.size = w.heap.size + 3 ∧ R3 W w.heap.size x0 x1 x2 y z := by
  subst h
  have s1 : (w.alloc (.cells #[x0, x1, x2] 26)).heap.size = w.heap.size + 1 := World.size_alloc _ _
  have s2 : ((w.alloc (.cells #[x0, x1, x2] 26)).alloc (.cells #[y] 3)).heap.size = w.heap.size + 1 + 1 := by rw [World.size_alloc, s1]
  refine ⟨(((Below.refl _ w).alloc (Nat.le_refl _) _).alloc (by omega) _).alloc (by omega) _, by rw [World.size_alloc, s2], ?_, ?_, ?_⟩
  · rw [Below.heap_alloc _ _ _ (by omega), Below.heap_alloc _ _ _ (by omega)]
    exact World.alloc_heap_new w _
  · rw [Below.heap_alloc _ _ _ (by omega), ← s1]
    exact World.alloc_heap_new _ _
  · rw [← s2]
    exact World.alloc_heap_new _ _
set_option maxRecDepth 100000 in
set_option maxHeartbeats 4000000 in
theorem parse_long (s : ByteArray) (w : World) (h3 : 3000 < s.size) : Calls Tryz.prog 15 #[.string s] w (PaRes w (PS.parse (bsOf s))) := by
  have hR : PS.parse (bsOf s) = .err 3000 2 := by
    rw [PS.parse, if_pos (by rw [bs_len]; exact h3)]
  rw [hR]
  have hmf : ∀ (fn : Fn) (first cap : Array Value) (w : World), (Instr.makeFunc fn first cap).run Tryz.prog w = .ok (.func fn first cap) w := fun _ _ _ _ => rfl
  have hg : decide ((3000 : Int) < (s.size : Int)) = true := decide_eq_true (by omega)
  go_enter_defers Tryz.func15, Tryz.ntmps15
  go_wp2_with fail
  obtain ⟨W, hW⟩ : ∃ W, ((w.alloc (.cells #[.slice none 0 0, .slice none 0 0, .slice none 0 0] 26)).alloc (.cells #[.int .i64 3000] 3)).alloc (.cells #[.int .i64 2] 38) = W := ⟨_, rfl⟩
  rw [hW]
  obtain ⟨k1, k2, k3⟩ := pa_begin w _ _ _ _ _ hW
  exact ⟨_, ret_Pa rfl _ rfl rfl rfl k3.k0 k3.k1 k3.k2, k1, rfl⟩
set_option maxRecDepth 100000 in
set_option maxHeartbeats 4000000 in
theorem parse_lexerr (s : ByteArray) (hs : s.size ≤ 1000000000) (w : World) (hE : ErrV w) (h3 : ¬ 3000 < s.size) (p c : Nat) (hl : lex (bsOf s) = .err p c) (hc : c ≠ 0) : Calls Tryz.prog 15 #[.string s] w (PaRes w (PS.parse (bsOf s))) := by
  have hR : PS.parse (bsOf s) = .err p c := by
    rw [PS.parse, if_neg (by rw [bs_len]; exact h3), hl]
  rw [hR]
  have hmf : ∀ (fn : Fn) (first cap : Array Value) (w : World), (Instr.makeFunc fn first cap).run Tryz.prog w = .ok (.func fn first cap) w := fun _ _ _ _ => rfl
  have hg : decide ((3000 : Int) < (s.size : Int)) = false := decide_eq_false (by omega)
  have hcz : ((c : Int) != 0) = true := by simp; omega
  obtain ⟨W, hW⟩ : ∃ W, ((w.alloc (.cells #[.slice none 0 0, .slice none 0 0, .slice none 0 0] 26)).alloc (.cells #[.int .i64 0] 3)).alloc (.cells #[.int .i64 0] 38) = W := ⟨_, rfl⟩
  obtain ⟨k1, k2, k3⟩ := pa_begin w _ _ _ _ _ hW
  have HT := Lib.hid (show Calls Tryz.prog 31 #[.string s] W fun e w' => (∃ A c', e = .returned (.tuple #[.slice A 0 c', .int .i64 (p : Int), .int .i64 (c : Int)])) ∧ Below W.heap.size W w' from (toks_any s hs W (hE.keep k1)).mono (by rw [hl]; rintro e w' ⟨⟨A, c', h, _⟩, hb⟩; exact ⟨⟨A, c', h⟩, hb⟩))
  have HW := Lib.hid hW
  have K1 := Lib.hid k1
  have K3 := Lib.hid (show ∀ U, Below W.heap.size W U → R3 U w.heap.size _ _ _ _ _ from fun U hU => k3.keep fun c h1 h2 => hU.block c (by omega))
  clear hW k1 k3 hl hR hE
  go_enter_defers Tryz.func15, Tryz.ntmps15
  go_wp2_with fail
  rw [HW.out]
  refine HT.out.mono ?_
  clear HT
  rintro e w1 ⟨⟨A, cp, rfl⟩, hb⟩
  obtain ⟨c0, c1, c2, c3, c4, f0, f1, f2, f3, f4⟩ := (K3.out _ hb).cells
  have HB := Lib.hid hb
  clear hb
  go_wp2_with fail
  go_region
  have hr := (((((((K3.out _ HB.out).sy (.int .i64 (p : Int))).sz (.int .i64 (c : Int))).s0 (.slice none 0 0)).s1 (.slice none 0 0)).s2 (.slice none 0 0)).sy (.int .i64 (p : Int))).sz (.int .i64 (c : Int))
  have hB : Below w.heap.size w1 (((((((w1.setCell ⟨w.heap.size + 1, 0, none⟩ (.int .i64 (p : Int))).setCell ⟨w.heap.size + 1 + 1, 0, none⟩ (.int .i64 (c : Int))).setCell ⟨w.heap.size, 0, none⟩ (.slice none 0 0)).setCell ⟨w.heap.size, 1, none⟩ (.slice none 0 0)).setCell ⟨w.heap.size, 2, none⟩ (.slice none 0 0)).setCell ⟨w.heap.size + 1, 0, none⟩ (.int .i64 (p : Int))).setCell ⟨w.heap.size + 1 + 1, 0, none⟩ (.int .i64 (c : Int))) :=
    (((((((Below.refl _ w1).setCell (p := ⟨w.heap.size + 1, 0, none⟩) (show w.heap.size ≤ w.heap.size + 1 from Nat.le_succ _) _).setCell (p := ⟨w.heap.size + 1 + 1, 0, none⟩) (show w.heap.size ≤ w.heap.size + 1 + 1 from Nat.le_add_right _ 2) _).setCell (p := ⟨w.heap.size, 0, none⟩) (Nat.le_refl _) _).setCell (p := ⟨w.heap.size, 1, none⟩) (Nat.le_refl _) _).setCell (p := ⟨w.heap.size, 2, none⟩) (Nat.le_refl _) _).setCell (p := ⟨w.heap.size + 1, 0, none⟩) (show w.heap.size ≤ w.heap.size + 1 from Nat.le_succ _) _).setCell (p := ⟨w.heap.size + 1 + 1, 0, none⟩) (show w.heap.size ≤ w.heap.size + 1 + 1 from Nat.le_add_right _ 2) _
  generalize (((((((w1.setCell ⟨w.heap.size + 1, 0, none⟩ (.int .i64 (p : Int))).setCell ⟨w.heap.size + 1 + 1, 0, none⟩ (.int .i64 (c : Int))).setCell ⟨w.heap.size, 0, none⟩ (.slice none 0 0)).setCell ⟨w.heap.size, 1, none⟩ (.slice none 0 0)).setCell ⟨w.heap.size, 2, none⟩ (.slice none 0 0)).setCell ⟨w.heap.size + 1, 0, none⟩ (.int .i64 (p : Int))).setCell ⟨w.heap.size + 1 + 1, 0, none⟩ (.int .i64 (c : Int))) = U at *
  have hb := K1.out.trans (HB.out.mono (by omega))
  have hb := (hb.trans hB).drew
  have hr : R3 U.drew w.heap.size _ _ _ _ _ := hr.keep fun _ _ _ => rfl
  clear c0 c1 c2 c3 c4 f0 f1 f2 f3 f4
  go_wp2_with fail
  exact ⟨_, ret_Pa rfl _ rfl rfl rfl hr.k0 hr.k1 hr.k2, hb, rfl⟩
theorem own_sliceN {w : World} {base size n c : Nat} {e : TypeId} {A : Option Addr} {xs : List Value} (h : w.ownsRow base e size (.slice A n c) n xs) : n ≤ c ∧ c ≤ maxLen := by
  rcases h.2 with ⟨e1, rfl⟩ | ⟨g, cap, cur, e1, _, _, h1, h2, _⟩
  · injection e1 with _ _ e3
    subst e3
    exact ⟨Nat.le_refl _, by simp [maxLen]⟩
  · injection e1 with _ _ e3
    subst e3
    exact ⟨h1, h2⟩
theorem UV3.keep {lo : Nat} {W U : World} {u : PS.Un} {v : Value} (h : UV3 lo W u v) (hk : ∀ z, lo ≤ z → z < W.heap.size → U.heap[z]? = W.heap[z]?) (hs : W.heap.size ≤ U.heap.size) : UV3 lo U u v := by
  obtain ⟨x, y, A, c, cs, h1, h2, h3, h4, h5, h6, h7⟩ := h
  exact ⟨x, y, A, c, cs, h1, h2.keep fun b hb => hk b (h2.lt b hb).1 (h2.lt b hb).2, h3.keep fun b hb => hk b (h3.lt b hb).1 (h3.lt b hb).2, h4.keep (fun z hz hl => hk z hz hl) hs, h5, h6, h7⟩
theorem UV3.lower {lo lo' : Nat} {W : World} {u : PS.Un} {v : Value} (h : UV3 lo W u v) (hl : lo' ≤ lo) : UV3 lo' W u v := by
  obtain ⟨x, y, A, c, cs, h1, h2, h3, h4, h5, h6, h7⟩ := h
  exact ⟨x, y, A, c, cs, h1, h2.lower hl, h3.lower hl, h4.lower hl, h5, h6, h7⟩
set_option maxRecDepth 100000 in
set_option maxHeartbeats 4000000 in
theorem parse_toks (HS : ∀ tb g mb mv mo, SortsH tb g mb mv mo) (s : ByteArray) (w : World) (hE : ErrV w) (h3 : ¬ 3000 < s.size) (ts : List Tok) (hl : lex (bsOf s) = .ok ts) : Calls Tryz.prog 15 #[.string s] w (PaRes w (PS.parse (bsOf s))) := by
  have hlen := bs_len s
  have hgood := PS.lex_good hl (by omega)
  have hout := PS.prog_fine hgood
  have hbig : ts.length ≤ 4000 := by have := lex_len s; rw [hl] at this; show (outT (.ok ts)).length ≤ 4000; omega
  have hR : PS.parse (bsOf s) = match PS.prog (PS.fuel ts) ts with | .ok u _ => .ok u | .err p e => .err p e | .out => .err 0 0 := by
    rw [PS.parse, if_neg (by omega), hl]
    rfl
  rw [hR]
  clear hR
  obtain ⟨R, hRR⟩ : ∃ R, PS.prog (PS.fuel ts) ts = R := ⟨_, rfl⟩
  rw [hRR] at hout ⊢
  have hpos : 0 < ts.length := hgood.len
  have hmf : ∀ (fn : Fn) (first cap : Array Value) (w : World), (Instr.makeFunc fn first cap).run Tryz.prog w = .ok (.func fn first cap) w := fun _ _ _ _ => rfl
  have hg : decide ((3000 : Int) < (s.size : Int)) = false := decide_eq_false (by omega)
  obtain ⟨W, hW⟩ : ∃ W, ((w.alloc (.cells #[.slice none 0 0, .slice none 0 0, .slice none 0 0] 26)).alloc (.cells #[.int .i64 0] 3)).alloc (.cells #[.int .i64 0] 38) = W := ⟨_, rfl⟩
  obtain ⟨k1, k2, k3⟩ := pa_begin w _ _ _ _ _ hW
  have HT := Lib.hid (show Calls Tryz.prog 31 #[.string s] W fun e w' => (∃ tb c', e = .returned (.tuple #[.slice (some ⟨tb, 0, none⟩) ts.length c', .int .i64 0, .int .i64 0]) ∧ ts.length ≤ c' ∧ c' ≤ maxLen ∧ TBlk w' W.heap.size tb ts) ∧ Below W.heap.size W w' from (toks_any s (by omega) W (hE.keep k1)).mono (by
    rw [hl]
    rintro e w' ⟨⟨A, c', h, hrow⟩, hb⟩
    obtain ⟨tb, rfl, hblk⟩ := tRow_blk hrow hpos
    obtain ⟨e2, e3⟩ := own_sliceN hrow
    exact ⟨⟨tb, c', h, e2, e3, hblk⟩, hb⟩))
  have HW := Lib.hid hW
  have K1 := Lib.hid k1
  have K3 := Lib.hid (show ∀ U, Below W.heap.size W U → R3 U w.heap.size _ _ _ _ _ from fun U hU => k3.keep fun c h1 h2 => hU.block c (by omega))
  have HG := Lib.hid hgood
  have HSS := Lib.hid HS
  clear hW k1 k3 hl hE hgood HS
  go_enter_defers Tryz.func15, Tryz.ntmps15
  go_wp2_with fail
  rw [HW.out]
  refine HT.out.mono ?_
  clear HT
  rintro e w1 ⟨⟨tb, cp, rfl, hc1, hc2, hblk⟩, hb⟩
  have hsz1 := hb.size
  have hR1 := ((K3.out _ hb).sy (.int .i64 0)).sz (.int .i64 0)
  obtain ⟨c0, c1, c2, c3, c4, f0, f1, f2, f3, f4⟩ := (K3.out _ hb).cells
  have hB1 : Below w.heap.size w ((w1.setCell ⟨w.heap.size + 1, 0, none⟩ (.int .i64 0)).setCell ⟨w.heap.size + 1 + 1, 0, none⟩ (.int .i64 0)) := ((K1.out.trans (hb.mono (by omega))).setCell (p := ⟨w.heap.size + 1, 0, none⟩) (show w.heap.size ≤ w.heap.size + 1 from Nat.le_succ _) _).setCell (p := ⟨w.heap.size + 1 + 1, 0, none⟩) (show w.heap.size ≤ w.heap.size + 1 + 1 from Nat.le_add_right _ 2) _
  obtain ⟨W2, hW2⟩ : ∃ U, (w1.setCell ⟨w.heap.size + 1, 0, none⟩ (.int .i64 0)).setCell ⟨w.heap.size + 1 + 1, 0, none⟩ (.int .i64 0) = U := ⟨_, rfl⟩
  have hz2 : W2.heap.size = w1.heap.size := by rw [← hW2]; simp [World.setCell]
  have hT2 : TBlk W2 W.heap.size tb ts := hblk.keep (by
    have := hblk.lo
    rw [← hW2, Below.heap_setCell _ _ _ _ (show tb ≠ w.heap.size + 1 + 1 by omega), Below.heap_setCell _ _ _ _ (show tb ≠ w.heap.size + 1 by omega)]) (Nat.le_of_eq hz2.symm)
  rw [hW2] at hR1 hB1
  have HZ2 := Lib.hid hz2
  have HB1 := Lib.hid hB1
  have HR1 := Lib.hid hR1
  have HT2 := Lib.hid hT2
  have HW2 := Lib.hid hW2
  clear hb hblk hT2 hR1 hB1 hW2 hz2
  go_wp2_with fail
  rw [HW2.out]
  refine (statements_any W2).mono ?_
  rintro e w3 ⟨rfl, hb3, hM⟩
  obtain ⟨mo, hmo1, hmo2⟩ := hM.mo
  have hsz3 := heap_lt hmo1
  have hz2 := HZ2.out
  have hT3 := HT2.out.below hb3
  obtain ⟨W4, hW4⟩ : ∃ U, w3.alloc (.cells #[.slice (some ⟨tb, 0, none⟩) ts.length cp, .int .i64 0, .slice none 0 0, .slice none 0 0, .slice none 0 0, .map (some W2.heap.size)] 71) = U := ⟨_, rfl⟩
  have hP : PAt W4 (Pc.mk tb w3.heap.size (.slice none 0 0) (.slice none 0 0) (.slice none 0 0) (.map (some W2.heap.size)) W2.heap.size mo) ts 0 := by
    have hlt := hT3.lt
    refine ⟨0, cp, ?_, hc1, hc2, ⟨fun i t ht => ?_, ?_, ?_, hbig, HG.out⟩, ?_, ?_⟩
    · rw [← hW4]; exact World.alloc_heap_new w3 _
    · rw [Nat.zero_add]
      exact (hT3.cells i t ht).keep (by rw [← hW4]; exact Below.heap_alloc w3 _ _ hlt)
    · rw [← hW4, World.size_alloc]; exact Nat.lt_succ_of_lt hlt
    · rw [← hW4]; exact (Below.heap_alloc w3 _ _ hsz3).trans hmo1
    · show tb ≠ w3.heap.size; omega
    · show W2.heap.size ≠ w3.heap.size; omega
  have hsz4 : W4.heap.size = w3.heap.size + 1 := by rw [← hW4, World.size_alloc]
  have hb4 : Below W2.heap.size W2 W4 := by rw [← hW4]; exact hb3.alloc (by omega) _
  have HPG := Lib.hid (program_any W4 tb w3.heap.size W2.heap.size _ mo rfl hmo2 (HSS.out tb w3.heap.size W2.heap.size _ mo) (PS.fuel ts) ts hP (by intro e; rw [← hRR, e] at hout; exact hout))
  rw [hRR] at HPG
  have HW4 := Lib.hid hW4
  have HB4 := Lib.hid hb4
  clear hM hmo1 hmo2 hT3 hP hb3 hW4 HSS hb4 HT2 HG hz2
  go_wp2_with fail
  rw [HW4.out]
  refine HPG.out.mono ?_
  clear HPG
  cases R with
  | out => exact hout.elim
  | err p c =>
    rintro e w5 ⟨hC5, rfl⟩
    have hz5 := hC5.size
    have hz4 := HB4.out.size
    have hz2 := HZ2.out
    have hr5 := HR1.out.keep (V' := w5) fun c h1 h2 => (hC5.block c (by omega) (by omega)).trans (HB4.out.block c (by omega))
    have hB5 : Below w.heap.size w w5 := HB1.out.trans ((HB4.out.mono (show w.heap.size ≤ W2.heap.size by omega)).trans (hC5.below (fun x _ e => by omega) (by omega)))
    refine leaves_cons (f := 32) (args := #[.pointer (some ⟨w.heap.size, 0, none⟩), .pointer (some ⟨w.heap.size + 1, 0, none⟩), .pointer (some ⟨w.heap.size + 1 + 1, 0, none⟩)]) (by simp) (by simp [go_sem]) ?_
    refine (catch_panicking w.heap.size (w.heap.size + 1) (w.heap.size + 1 + 1) _ _ _ _ _ (p : Int) (c : Int) [] w5 hr5.k0 hr5.k1 hr5.k2 (by omega) (by omega) (by omega)).mono ?_
    rintro e u' w6 ⟨rfl, rfl, r1, r2, r3, hC6⟩
    show Leaves _ _ _ _ [] (settle _) w6
    simp only [settle]
    exact ⟨_, ret_Pa rfl _ rfl rfl rfl r1 r2 r3, hB5.trans (hC6.below (fun x _ e => by omega) (by omega)), rfl⟩
  | ok u r =>
    rintro e w5 ⟨hC5, v, rfl, hv⟩
    have hz5 := hC5.size
    have hz4 := HB4.out.size
    have hz2 := HZ2.out
    have hr5 := HR1.out.keep (V' := w5) fun c h1 h2 => (hC5.block c (by omega) (by omega)).trans (HB4.out.block c (by omega))
    have hB5 : Below w.heap.size w w5 := HB1.out.trans ((HB4.out.mono (show w.heap.size ≤ W2.heap.size by omega)).trans (hC5.below (fun x _ e => by omega) (by omega)))
    obtain ⟨c0, c1, c2, c3, c4, f0, f1, f2, f3, f4⟩ := hr5.cells
    have hv' := hv
    obtain ⟨x, y, A, c, cs, rfl, hx, hy, _⟩ := hv'
    obtain ⟨Ax, cx, rfl, _⟩ := hx.form
    obtain ⟨Ay, cy, rfl, _⟩ := hy.form
    clear hx hy
    have hlo : w.heap.size + 3 ≤ W4.heap.size := by omega
    have HV := Lib.hid hv
    have HR5 := Lib.hid hr5
    have HB5 := Lib.hid hB5
    clear hv hr5 hB5 hC5 HB4 HW4 HZ2 HB1 HR1 HW2 K1 K3 HW hz2 hz4
    go_wp2_with fail
    obtain ⟨U, hU⟩ : ∃ U, ((((w5.setCell ⟨w.heap.size, 0, none⟩ (.slice Ax u.dur.length cx)).setCell ⟨w.heap.size, 1, none⟩ (.slice Ay u.vol.length cy)).setCell ⟨w.heap.size, 2, none⟩ (.slice A u.on.length c)).setCell ⟨w.heap.size + 1, 0, none⟩ (.int .i64 0)).setCell ⟨w.heap.size + 1 + 1, 0, none⟩ (.int .i64 0) = U := ⟨_, rfl⟩
    have hrU := ((((HR5.out.s0 (.slice Ax u.dur.length cx)).s1 (.slice Ay u.vol.length cy)).s2 (.slice A u.on.length c)).sy (.int .i64 0)).sz (.int .i64 0)
    rw [hU] at hrU ⊢
    have hzU : U.heap.size = w5.heap.size := by rw [← hU]; simp [World.setCell]
    have hkU : ∀ z, w.heap.size + 3 ≤ z → U.heap[z]? = w5.heap[z]? := fun z hz => by
      rw [← hU, Below.heap_setCell _ _ _ _ (show z ≠ w.heap.size + 1 + 1 by omega), Below.heap_setCell _ _ _ _ (show z ≠ w.heap.size + 1 by omega), Below.heap_setCell _ _ _ _ (show z ≠ w.heap.size by omega), Below.heap_setCell _ _ _ _ (show z ≠ w.heap.size by omega), Below.heap_setCell _ _ _ _ (show z ≠ w.heap.size by omega)]
    have hbU : Below w.heap.size w U := HB5.out.trans (by
      rw [← hU]
      exact (((((Below.refl _ w5).setCell (p := ⟨w.heap.size, 0, none⟩) (Nat.le_refl _) _).setCell (p := ⟨w.heap.size, 1, none⟩) (Nat.le_refl _) _).setCell (p := ⟨w.heap.size, 2, none⟩) (Nat.le_refl _) _).setCell (p := ⟨w.heap.size + 1, 0, none⟩) (show w.heap.size ≤ w.heap.size + 1 from Nat.le_succ _) _).setCell (p := ⟨w.heap.size + 1 + 1, 0, none⟩) (show w.heap.size ≤ w.heap.size + 1 + 1 from Nat.le_add_right _ 2) _)
    clear hU
    refine leaves_cons (f := 32) (args := #[.pointer (some ⟨w.heap.size, 0, none⟩), .pointer (some ⟨w.heap.size + 1, 0, none⟩), .pointer (some ⟨w.heap.size + 1 + 1, 0, none⟩)]) (by simp) (by simp [go_sem]) ?_
    refine (catch_idle ⟨w.heap.size, 0, none⟩ ⟨w.heap.size + 1, 0, none⟩ ⟨w.heap.size + 1 + 1, 0, none⟩ _).mono ?_
    rintro e u' w6 ⟨rfl, rfl, hb6⟩
    show Leaves _ _ _ _ [] (settle _) w6
    simp only [settle]
    have hr6 := hrU.keep (V' := w6) fun z h1 h2 => hb6.block z (by omega)
    refine ⟨_, ret_Pa rfl _ rfl rfl rfl hr6.k0 hr6.k1 hr6.k2, hbU.trans (hb6.mono (by omega)), _, rfl, ?_⟩
    refine UV3.lower (UV3.keep HV.out (fun z h1 h2 => (hb6.block z (by omega)).trans (hkU z (by omega))) (by have := hb6.size; omega)) (by omega)
/-- Parse, given the library's sort. -/
theorem parse_any (HS : ∀ tb g mb mv mo, SortsH tb g mb mv mo) (s : ByteArray) (hs : s.size ≤ 1000000000) (w : World) (hE : ErrV w) : Calls Tryz.prog 15 #[.string s] w (PaRes w (PS.parse (bsOf s))) := by
  by_cases h3 : 3000 < s.size
  · exact parse_long s w h3
  · cases hl : lex (bsOf s) with
    | ok ts => exact parse_toks HS s w hE h3 ts hl
    | err p c => exact parse_lexerr s hs w hE h3 p c hl (lex_code hl)
end Go.Proofs.YtlfpaemfhanpiaaGreatDoor
