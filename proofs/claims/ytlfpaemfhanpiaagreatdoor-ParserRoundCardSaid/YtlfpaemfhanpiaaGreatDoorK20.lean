/-
  The program's Equal of trees, by slices.EqualFunc. No condition but that the values are trees.
-/
import Derived.Test.YtlfpaemfhanpiaaGreatDoorK3
import Derived.Shelf.Abstract
import Derived.Lib.Strings

namespace Go.Proofs.YtlfpaemfhanpiaaGreatDoor
open Go Go.RowKit Go.Proofs
attribute [local go_sem] Oper.semAt_some

noncomputable def eqN (a b : TY.Nd) : Bool := @decide (a = b) (Classical.propDecidable _)
noncomputable def eqL (a b : List TY.Nd) : Bool := @decide (a = b) (Classical.propDecidable _)
theorem eqN_t {a b : TY.Nd} (h : a = b) : eqN a b = true := @decide_eq_true _ (Classical.propDecidable _) h
theorem eqN_f {a b : TY.Nd} (h : a ≠ b) : eqN a b = false := @decide_eq_false _ (Classical.propDecidable _) h
theorem eqL_t {a b : List TY.Nd} (h : a = b) : eqL a b = true := @decide_eq_true _ (Classical.propDecidable _) h
theorem eqL_f {a b : List TY.Nd} (h : a ≠ b) : eqL a b = false := @decide_eq_false _ (Classical.propDecidable _) h
theorem eqN_mk (k n : Int) (s : ByteArray) (l l' : List TY.Nd) : eqN (.mk k n s l) (.mk k n s l') = eqL l l' := by
  by_cases h : l = l'
  · rw [eqL_t h, eqN_t (by rw [h])]
  · rw [eqL_f h, eqN_f (fun e => h (by injection e))]
theorem str_ne {s t : ByteArray} (h : s ≠ t) : (s.toList == t.toList) = false := by
  rw [beq_eq_false_iff_ne]
  intro e
  rw [Lib.toList_data, Lib.toList_data] at e
  exact h (ByteArray.ext (Array.toList_inj.1 e))
/-- What Equal does at the tree t. -/
def EqAt (f : FuncId) (t : TY.Nd) : Prop := ∀ (W : World) (hi hi' : Nat) (t' : TY.Nd) (v v' : Value), NdV W hi t v → NdV W hi' t' v' → hi ≤ W.heap.size → hi' ≤ W.heap.size →
  Calls Tryz.prog f #[v, v'] W fun e w' => e = .returned (.bool (eqN t t')) ∧ Below W.heap.size W w'
theorem Kd.treeE {W : World} {hi hi' : Nat} {A : Option Addr} {vs : List Value} {t : TY.Nd} {v : Value} (h : Kd W hi A vs) {i : Nat} (hv : vs[i]? = some v) (ht : NdV W hi' t v) : ∃ (b off : Nat) (k n : Int) (s : ByteArray) (A' : Option Addr) (m' c' : Nat), A = some ⟨b, off, none⟩ ∧ b < hi ∧ v = ndv k n s (.slice A' m' c') ∧
    W.cell? ⟨b, off + i * 4, none⟩ = some (.int .i64 k) ∧ W.cell? ⟨b, off + i * 4 + 1, none⟩ = some (.int .i64 n) ∧ W.cell? ⟨b, off + i * 4 + 2, none⟩ = some (.string s) ∧ W.cell? ⟨b, off + i * 4 + 3, none⟩ = some (.slice A' m' c') := by
  obtain ⟨b, off, k, n, s, K, e, hb, rfl, c0, c1, c2, c3⟩ := h.at_ hv
  obtain ⟨k', n', s', l⟩ := t
  obtain ⟨A', c', _, e2, _⟩ := ht.open_
  injection e2 with e2
  injection e2 with e2
  injection e2 with _ e2
  injection e2 with _ e2
  injection e2 with _ e2
  injection e2 with e2 _
  subst e2
  exact ⟨b, off, k, n, s, A', _, c', e, hb, rfl, c0, c1, c2, c3⟩
theorem take_same {l l' : List TY.Nd} {j : Nat} {t : TY.Nd} (h : l.take j = l'.take j) (h1 : l[j]? = some t) (h2 : l'[j]? = some t) : l.take (j + 1) = l'.take (j + 1) := by
  rw [List.take_add_one, List.take_add_one, h, h1, h2]
set_option maxRecDepth 100000 in
set_option maxHeartbeats 4000000 in
theorem eqFunc_any {f : FuncId} (eg : ∀ args w, (callFunc f args).run Tryz.prog w = .ok (.enter f args) w) (l : List TY.Nd) (hl : ∀ t ∈ l, EqAt f t) (W : World) (hi hi' : Nat) (l' : List TY.Nd) (A A' : Option Addr) (c c' : Nat) (vs vs' : List Value) (h1 : vs.length = l.length) (h1' : vs'.length = l'.length) (hc : l.length ≤ c) (hc' : l'.length ≤ c') (hm : l.length ≤ 1000000)
    (hk : Kd W hi A vs) (hk' : Kd W hi' A' vs') (ht : ∀ (i : Nat) (t : TY.Nd) (v : Value), l[i]? = some t → vs[i]? = some v → NdV W hi t v) (ht' : ∀ (i : Nat) (t : TY.Nd) (v : Value), l'[i]? = some t → vs'[i]? = some v → NdV W hi' t v) (hh : hi ≤ W.heap.size) (hh' : hi' ≤ W.heap.size) :
    Calls Tryz.prog 26 #[.slice A l.length c, .slice A' l'.length c', .func (.func f) #[] #[]] W fun e w' => e = .returned (.bool (eqL l l')) ∧ Below W.heap.size W w' := by
  by_cases hlen : l.length = l'.length
  · obtain ⟨m, hm0⟩ : ∃ m, l.length = m := ⟨_, rfl⟩
    have hm1 : l'.length = m := by omega
    rw [hm0] at hc hm ⊢
    rw [hm1] at hc' ⊢
    have HM := Lib.hid hm0
    have HM1 := Lib.hid hm1
    have HVL := Lib.hid h1
    have HVL' := Lib.hid h1'
    have HL := Lib.hid hl
    have HK := Lib.hid hk
    have HK' := Lib.hid hk'
    have HT := Lib.hid ht
    have HT' := Lib.hid ht'
    clear hm0 hm1 h1 h1' hl hk hk' ht ht' hlen
    go_enter Tryz.func26, Tryz.ntmps26
    go_wp2_with fail
    go_loopw [17] (fun i V => ∃ j : Nat, j ≤ m ∧ i = .int .i64 (j : Int) ∧ Hid (l.take j = l'.take j) ∧ Hid (Below W.heap.size W V)) (fun i _ => m - (intOf i).toNat)
    case atStart => exact ⟨0, by omega, rfl, (show l.take 0 = l'.take 0 from rfl), Below.refl _ _⟩
    case round =>
      obtain ⟨j, hj, rfl, hT, hBl⟩ := hrel
      by_cases hjm : j < m
      · obtain ⟨t, htj⟩ : ∃ t, l[j]? = some t := ⟨l[j]'(by rw [HM.out]; exact hjm), List.getElem?_eq_getElem (by rw [HM.out]; exact hjm)⟩
        obtain ⟨t', htj'⟩ : ∃ t, l'[j]? = some t := ⟨l'[j]'(by rw [HM1.out]; exact hjm), List.getElem?_eq_getElem (by rw [HM1.out]; exact hjm)⟩
        obtain ⟨vj, hvj⟩ : ∃ x, vs[j]? = some x := ⟨vs[j]'(by rw [HVL.out, HM.out]; exact hjm), List.getElem?_eq_getElem (by rw [HVL.out, HM.out]; exact hjm)⟩
        obtain ⟨vj', hvj'⟩ : ∃ x, vs'[j]? = some x := ⟨vs'[j]'(by rw [HVL'.out, HM1.out]; exact hjm), List.getElem?_eq_getElem (by rw [HVL'.out, HM1.out]; exact hjm)⟩
        have hnv := HT.out j t vj htj hvj
        have hnv' := HT'.out j t' vj' htj' hvj'
        obtain ⟨b, off, kj, nj, sj, Aj, lj, cj, rfl, hbh, rfl, c0, c1, c2, c3⟩ := Kd.treeE HK.out hvj hnv
        obtain ⟨b', off', kj', nj', sj', Aj', lj', cj', rfl, hbh', rfl, c0', c1', c2', c3'⟩ := Kd.treeE HK'.out hvj' hnv'
        have e0 := (hBl.out.cell (p := ⟨b, off + j * 4, none⟩) (show b < W.heap.size by omega)).trans c0
        have e1 := (hBl.out.cell (p := ⟨b, off + j * 4 + 1, none⟩) (show b < W.heap.size by omega)).trans c1
        have e2 := (hBl.out.cell (p := ⟨b, off + j * 4 + 2, none⟩) (show b < W.heap.size by omega)).trans c2
        have e3 := (hBl.out.cell (p := ⟨b, off + j * 4 + 3, none⟩) (show b < W.heap.size by omega)).trans c3
        have hsz := hBl.out.size
        have hbx : b' < wr.heap.size := by omega
        have f0 := (((Below.refl wr.heap.size wr).alloc (Nat.le_refl _) (.cells #[.int .i64 kj, .int .i64 nj, .string sj, .slice Aj lj cj] 33)).cell (p := ⟨b', off' + j * 4, none⟩) hbx).trans ((hBl.out.cell (p := ⟨b', off' + j * 4, none⟩) (show b' < W.heap.size by omega)).trans c0')
        have f1 := (((Below.refl wr.heap.size wr).alloc (Nat.le_refl _) (.cells #[.int .i64 kj, .int .i64 nj, .string sj, .slice Aj lj cj] 33)).cell (p := ⟨b', off' + j * 4 + 1, none⟩) hbx).trans ((hBl.out.cell (p := ⟨b', off' + j * 4 + 1, none⟩) (show b' < W.heap.size by omega)).trans c1')
        have f2 := (((Below.refl wr.heap.size wr).alloc (Nat.le_refl _) (.cells #[.int .i64 kj, .int .i64 nj, .string sj, .slice Aj lj cj] 33)).cell (p := ⟨b', off' + j * 4 + 2, none⟩) hbx).trans ((hBl.out.cell (p := ⟨b', off' + j * 4 + 2, none⟩) (show b' < W.heap.size by omega)).trans c2')
        have f3 := (((Below.refl wr.heap.size wr).alloc (Nat.le_refl _) (.cells #[.int .i64 kj, .int .i64 nj, .string sj, .slice Aj lj cj] 33)).cell (p := ⟨b', off' + j * 4 + 3, none⟩) hbx).trans ((hBl.out.cell (p := ⟨b', off' + j * 4 + 3, none⟩) (show b' < W.heap.size by omega)).trans c3')
        clear c0 c1 c2 c3 c0' c1' c2' c3'
        have hB2 : Below W.heap.size W ((wr.alloc (.cells #[.int .i64 kj, .int .i64 nj, .string sj, .slice Aj lj cj] 33)).alloc (.cells #[.int .i64 kj', .int .i64 nj', .string sj', .slice Aj' lj' cj'] 33)) := (hBl.out.alloc hsz _).alloc (by rw [World.size_alloc]; omega) _
        have HC := Lib.hid (HL.out t (List.mem_of_getElem? htj) _ hi hi' t' _ _ (hnv.under (hB2.mono hh) (Nat.le_refl _)) (hnv'.under (hB2.mono hh') (Nat.le_refl _)) (Nat.le_trans hh hB2.size) (Nat.le_trans hh' hB2.size))
        have HB2 := Lib.hid hB2
        have HTS := Lib.hid (show t = t' → l.take (j + 1) = l'.take (j + 1) from fun e => take_same hT.out htj (e ▸ htj'))
        have HNE := Lib.hid (show t ≠ t' → eqL l l' = false from fun h => eqL_f (fun e => h (by have := htj; rw [e, htj'] at this; exact (Option.some.inj this).symm)))
        clear hB2 htj htj' hvj hvj' hnv hnv'
        go_wp2_with fail
        refine HC.out.mono ?_
        clear HC e0 e1 e2 e3 f0 f1 f2 f3
        rintro e w2 ⟨rfl, hb2⟩
        have HB3 := Lib.hid (HB2.out.trans (hb2.mono HB2.out.size))
        clear hb2
        by_cases hee : t = t'
        · rw [eqN_t hee]
          have HTN := Lib.hid (HTS.out hee)
          clear HTS HNE hee
          go_wp2_with fail
          go_roundw
          case rel => exact ⟨j + 1, by omega, by go_num, HTN.out, HB3.out⟩
          case measure => simp [intOf]; omega
        · rw [eqN_f hee]
          have HF := Lib.hid (HNE.out hee)
          clear HTS HNE hee
          go_wp2_with fail
          go_ret
          exact ⟨by rw [HF.out]; rfl, HB3.out⟩
      · obtain rfl : j = m := by omega
        have HF := Lib.hid (show eqL l l' = true from eqL_t (by
          have h := hT.out
          rw [List.take_of_length_le (by rw [HM.out]; omega), List.take_of_length_le (by rw [HM1.out]; omega)] at h
          exact h))
        go_wp2_with fail
        go_ret
        exact ⟨by rw [HF.out]; rfl, hBl.out⟩
  · have hF := eqL_f (fun e : l = l' => hlen (by rw [e]))
    rw [hF]
    have hg : ((l.length : Int) != (l'.length : Int)) = true := by simp; omega
    clear hF hl hk hk' ht ht' h1 h1'
    go_enter Tryz.func26, Tryz.ntmps26
    go_wp2_with fail
    go_ret
    exact ⟨rfl, Below.refl _ _⟩
set_option maxRecDepth 100000 in
set_option maxHeartbeats 4000000 in
theorem equal_any : ∀ t, EqAt 11 t := by
  intro t
  induction t using TY.Nd.ind with
  | h k n s l ih =>
    intro W hi hi' t' v v' hv hv' hh hh'
    obtain ⟨k', n', s', l'⟩ := t'
    obtain ⟨A, c, vs, rfl, h1, hc, _, hm, _, hk, ht⟩ := hv.open_
    obtain ⟨A', c', vs', rfl, h1', hc', _, hm', _, hk', ht'⟩ := hv'.open_
    have eg := enters_of Tryz.func11 (by kernel_rfl) rfl
    obtain ⟨W2, hW2⟩ : ∃ U, (W.alloc (.cells #[.int .i64 k, .int .i64 n, .string s, .slice A l.length c] 33)).alloc (.cells #[.int .i64 k', .int .i64 n', .string s', .slice A' l'.length c'] 33) = U := ⟨_, rfl⟩
    have hB2 : Below W.heap.size W W2 := by rw [← hW2]; exact ((Below.refl _ W).alloc (Nat.le_refl _) _).alloc (by rw [World.size_alloc]; omega) _
    have kp : ∀ (b : Nat) (C : Array Value), b < hi → W.heap[b]? = some (.cells C 33 (0, 0)) → W2.heap[b]? = W.heap[b]? := fun b C hb _ => hB2.block b (by omega)
    have kp' : ∀ (b : Nat) (C : Array Value), b < hi' → W.heap[b]? = some (.cells C 33 (0, 0)) → W2.heap[b]? = W.heap[b]? := fun b C hb _ => hB2.block b (by omega)
    have HF := Lib.hid (eqFunc_any eg l ih W2 hi hi' l' A A' c c' vs vs' h1 h1' hc hc' hm (hk.keep kp (Nat.le_refl _)) (hk'.keep kp' (Nat.le_refl _)) (fun i t v a b => (ht i t v a b).keep kp (Nat.le_refl _)) (fun i t v a b => (ht' i t v a b).keep kp' (Nat.le_refl _)) (Nat.le_trans hh hB2.size) (Nat.le_trans hh' hB2.size))
    have HB := Lib.hid hB2
    have HW := Lib.hid hW2
    clear kp kp' hB2 hW2 ht ht' hk hk' hv hv' ih
    by_cases e1 : k = k'
    · by_cases e2 : n = n'
      · by_cases e3 : s = s'
        · subst e1 e2 e3
          rw [eqN_mk]
          go_enter Tryz.func11, Tryz.ntmps11
          go_wp2_with fail
          rw [HW.out]
          refine HF.out.mono ?_
          rintro e w3 ⟨rfl, hb3⟩
          have HB3 := Lib.hid (HB.out.trans (hb3.mono HB.out.size))
          clear hb3 HF
          go_wp2_with fail
          go_ret
          exact ⟨rfl, HB3.out⟩
        · subst e1 e2
          have hr : eqN (.mk k n s l) (.mk k n s' l') = false := eqN_f (fun e => e3 (by injection e))
          rw [hr]
          have hz : (s.toList == s'.toList) = false := str_ne e3
          have hz2 : ¬ s.toList = s'.toList := by simpa using hz
          clear hr HF
          go_enter Tryz.func11, Tryz.ntmps11
          go_wp2_with fail
          rw [HW.out]
          go_ret
          exact ⟨rfl, HB.out⟩
      · subst e1
        have hr : eqN (.mk k n s l) (.mk k n' s' l') = false := eqN_f (fun e => e2 (by injection e))
        rw [hr]
        have hz : (n == n') = false := by simpa using e2
        clear hr HF e2
        go_enter Tryz.func11, Tryz.ntmps11
        go_wp2_with fail
        rw [HW.out]
        go_ret
        exact ⟨rfl, HB.out⟩
    · have hr : eqN (.mk k n s l) (.mk k' n' s' l') = false := eqN_f (fun e => e1 (by injection e))
      rw [hr]
      have hz : (k == k') = false := by simpa using e1
      clear hr HF e1
      go_enter Tryz.func11, Tryz.ntmps11
      go_wp2_with fail
      rw [HW.out]
      go_ret
      exact ⟨rfl, HB.out⟩
end Go.Proofs.YtlfpaemfhanpiaaGreatDoor
