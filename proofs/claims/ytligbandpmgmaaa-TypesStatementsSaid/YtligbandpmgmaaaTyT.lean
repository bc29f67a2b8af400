/-
  The contract of typeOf, by induction over the tree: with apply, its closure and slices.EqualFunc at it. Conditions: the value is a tree, the maps hold the rules.
-/
import Derived.Test.YtligbandpmgmaaaTyRl
import Derived.Shelf.Abstract
namespace Go.Proofs.Ytligbandpmgmaaa
open Go Go.RowKit Go.Proofs Go.Shelf
attribute [local go_sem] Oper.semAt_some

abbrev rulesV (mu mb : Nat) : Value := .agg #[.map (some mu), .map (some mb)]
/-- What typeOf does at the tree t. -/
def TyAt (mu mb : Nat) (t : TY.Nd) : Prop := ∀ (W : World) (hi : Nat) (v : Value), NdV W hi t v → Rul W hi mu mb → hi ≤ W.heap.size →
  Calls Try.prog 14 #[rulesV mu mb, v] W fun e w' => e = .returned (.int .i64 (TY.tyOf t : Int)) ∧ Below W.heap.size W w'
/-- A box that holds the rules. -/
def RBox (W : World) (B mu mb : Nat) : Prop := W.heap[B]? = some (.cells #[.map (some mu), .map (some mb)] 48 (0, 0))
theorem RBox.cells {W : World} {B mu mb : Nat} (h : RBox W B mu mb) : W.cell? ⟨B, 0, none⟩ = some (.map (some mu)) ∧ W.cell? ⟨B, 1, none⟩ = some (.map (some mb)) := ⟨cell_of_row W B 0 _ _ (0, 0) h, cell_of_row W B 1 _ _ (0, 0) h⟩
theorem RBox.below {W W' : World} {B mu mb hi : Nat} (h : RBox W B mu mb) (hB : B < hi) (hb : Below hi W W') : RBox W' B mu mb := (hb.block B hB).trans h
set_option maxHeartbeats 2000000 in
theorem fits_any {mu mb : Nat} {t : TY.Nd} (ht : TyAt mu mb t) (W : World) (hi B x : Nat) (v : Value) (hv : NdV W hi t v) (hr : Rul W hi mu mb) (hh : hi ≤ W.heap.size) (hbx : RBox W B mu mb) (hB : B < W.heap.size) :
    Calls Try.prog 27 #[v, .int .i64 (x : Int), .pointer (some ⟨B, 0, none⟩)] W fun e w' => e = .returned (.bool (decide (TY.tyOf t = x))) ∧ Below W.heap.size W w' := by
  obtain ⟨k, n, s, l⟩ := t
  obtain ⟨A, c, vs, rfl, _⟩ := hv.open_
  obtain ⟨W1, hW1⟩ : ∃ V, W.alloc (.cells #[.int .i64 k, .int .i64 n, .string s, .slice A l.length c] 25) = V := ⟨_, rfl⟩
  have hb1 : Below W.heap.size W W1 := by rw [← hW1]; exact (Below.refl _ _).alloc (Nat.le_refl _) _
  have hc := ht W1 hi _ (hv.under (hb1.mono hh) (Nat.le_refl _)) (hr.below (hb1.mono hh)) (Nat.le_trans hh hb1.size)
  obtain ⟨c0, c1⟩ := (hbx.below hB hb1).cells
  have ho := World.alloc_heap_new W (.cells #[.int .i64 k, .int .i64 n, .string s, .slice A l.length c] 25)
  rw [hW1] at ho
  have d0 : W1.cell? ⟨W.heap.size, 0, none⟩ = some (.int .i64 k) := cell_of_row W1 _ 0 _ _ (0, 0) ho
  have d1 : W1.cell? ⟨W.heap.size, 1, none⟩ = some (.int .i64 n) := cell_of_row W1 _ 1 _ _ (0, 0) ho
  have d2 : W1.cell? ⟨W.heap.size, 2, none⟩ = some (.string s) := cell_of_row W1 _ 2 _ _ (0, 0) ho
  have d3 : W1.cell? ⟨W.heap.size, 3, none⟩ = some (.slice A l.length c) := cell_of_row W1 _ 3 _ _ (0, 0) ho
  obtain ⟨y, hy⟩ : ∃ y, TY.tyOf (.mk k n s l) = y := ⟨_, rfl⟩
  rw [hy] at hc ⊢
  have HC := Lib.hid hc
  have HB1 := Lib.hid hb1
  have HW1 := Lib.hid hW1
  have HEQ := Lib.hid (show ((y : Int) == (x : Int)) = decide (y = x) by rw [Bool.eq_iff_iff, beq_iff_eq, decide_eq_true_iff]; omega)
  rw [← hW1] at c0 c1 d0 d1 d2 d3
  clear hc hb1 hW1 hbx hv hr ht ho hy
  go_enter Try.func27, Try.ntmps27
  go_wp2_with (first
    | (rw [HW1.out]; go_at_call 14; refine HC.out.mono ?_; clear HC; rintro e w2 ⟨rfl, hb2⟩))
  go_ret
  rw [HEQ.out]
  exact ⟨rfl, HB1.out.trans (hb2.mono HB1.out.size)⟩
/-- Child i, a tree, in memory. -/
theorem Kd.tree {W : World} {hi hi' : Nat} {A : Option Addr} {vs : List Value} {t : TY.Nd} {v : Value} (h : Kd W hi A vs) {i : Nat} (hv : vs[i]? = some v) (ht : NdV W hi' t v) : ∃ (b off : Nat) (k n : Int) (s : ByteArray) (A' : Option Addr) (m' c' : Nat), A = some ⟨b, off, none⟩ ∧ b < hi ∧ v = ndv k n s (.slice A' m' c') ∧
    W.cell? ⟨b, off + i * 4, none⟩ = some (.int .i64 k) ∧ W.cell? ⟨b, off + i * 4 + 1, none⟩ = some (.int .i64 n) ∧ W.cell? ⟨b, off + i * 4 + 2, none⟩ = some (.string s) ∧ W.cell? ⟨b, off + i * 4 + 3, none⟩ = some (.slice A' m' c') := by
  obtain ⟨b, off, k, n, s, K, e, hb, rfl, c0, c1, c2, c3⟩ := h.at_ hv
  obtain ⟨k', n', s', l⟩ := t
  obtain ⟨A', c', _, e2, _⟩ := ht.open_
  injection e2 with e2
  injection e2 with e2
  injection e2 with _ e2
  injection e2 with _ e2
  injection e2 with _ e2
  injection e2 with e2 _
  subst e2
  exact ⟨b, off, k, n, s, A', _, c', e, hb, rfl, c0, c1, c2, c3⟩
theorem map_take_snoc {l : List TY.Nd} {ts : List Nat} {j : Nat} {t : TY.Nd} {x : Nat} (ht : l[j]? = some t) (hx : ts[j]? = some x) (h : (l.map TY.tyOf).take j = ts.take j) (e : TY.tyOf t = x) : (l.map TY.tyOf).take (j + 1) = ts.take (j + 1) := by
  rw [List.take_add_one, List.take_add_one, h, List.getElem?_map, ht, hx]
  simp [e]
set_option maxHeartbeats 2000000 in
theorem equal_any {mu mb : Nat} {k n : Int} {s : ByteArray} {l : List TY.Nd} (hl : ∀ t ∈ l, TyAt mu mb t) (W : World) (hi B : Nat) (v : Value) (K : Value) (ts : List Nat) (hv : NdV W hi (.mk k n s l) v) (hr : Rul W hi mu mb) (hh : hi ≤ W.heap.size) (hK : Opr W hi K ts) (hbx : RBox W B mu mb) (hB : B < W.heap.size) (A : Option Addr) (c : Nat) (hvA : v = ndv k n s (.slice A l.length c)) :
    Calls Try.prog 28 #[.slice A l.length c, K, .func (.func 27) #[] #[.pointer (some ⟨B, 0, none⟩)]] W fun e w' => e = .returned (.bool (decide (l.map TY.tyOf = ts))) ∧ Below W.heap.size W w' := by
  obtain ⟨A', c', vs, e, hvl, hlc, hcm, hlm, _, hkd, hkids⟩ := hv.open_
  rw [hvA] at e
  injection e with e
  injection e with e
  injection e with _ e
  injection e with _ e
  injection e with _ e
  injection e with e _
  injection e with eA _ ec
  subst eA ec
  clear hvA hv
  obtain ⟨A2, c2, rfl, htc, htm, hts⟩ := hK
  have eg := enters_of Try.func27 (by kernel_rfl) rfl
  by_cases hlen : l.length = ts.length
  · have hne : ((l.length : Int) != (ts.length : Int)) = false := by rw [hlen]; simp
    obtain ⟨m, hm⟩ : ∃ m, l.length = m := ⟨_, rfl⟩
    obtain ⟨m2, hm2⟩ : ∃ m, ts.length = m := ⟨_, rfl⟩
    have HM := Lib.hid hm
    have HM2 := Lib.hid hm2
    have hmm : m = m2 := by omega
    rw [hm] at hne hlc hlm hvl ⊢
    rw [hm2] at hne htc hts ⊢
    have HVL := Lib.hid hvl
    have HKD := Lib.hid hkd
    have HKI := Lib.hid hkids
    have HL := Lib.hid hl
    have HTS := Lib.hid hts
    have HR := Lib.hid hr
    have HBX := Lib.hid hbx
    clear hm hm2 hvl hkd hkids hl hts hr hbx hlen
    go_enter Try.func28, Try.ntmps28
    go_wp2_with fail
    go_loopw [17] (fun i V => ∃ j : Nat, j ≤ m ∧ i = .int .i64 (j : Int) ∧ Hid ((l.map TY.tyOf).take j = ts.take j) ∧ Hid (Below W.heap.size W V)) (fun i _ => m - (intOf i).toNat)
    case atStart => exact ⟨0, by omega, rfl, (show (l.map TY.tyOf).take 0 = ts.take 0 from rfl), Below.refl _ _⟩
    case round =>
      obtain ⟨j, hj, rfl, hT, hBl⟩ := hrel
      by_cases hjm : j < m
      · obtain ⟨t, ht⟩ : ∃ t, l[j]? = some t := ⟨l[j]'(by rw [HM.out]; exact hjm), List.getElem?_eq_getElem (by rw [HM.out]; exact hjm)⟩
        obtain ⟨x, hx⟩ : ∃ x, ts[j]? = some x := ⟨ts[j]'(by rw [HM2.out]; omega), List.getElem?_eq_getElem (by rw [HM2.out]; omega)⟩
        obtain ⟨vj, hvj⟩ : ∃ x, vs[j]? = some x := ⟨vs[j]'(by rw [HVL.out]; exact hjm), List.getElem?_eq_getElem (by rw [HVL.out]; exact hjm)⟩
        have hnv := HKI.out j t vj ht hvj
        obtain ⟨b, off, kj, nj, sj, Aj, lj, cj, rfl, hbh, rfl, c0, c1, c2', c3⟩ := HKD.out.tree hvj hnv
        obtain ⟨b2, off2, rfl, hb2, hcx⟩ := HTS.out.at_ (by omega)
        have hbW : b < W.heap.size := by omega
        have hb2W : b2 < W.heap.size := by omega
        have e0 := (hBl.out.cell (p := ⟨b, off + j * 4, none⟩) hbW).trans c0
        have e1 := (hBl.out.cell (p := ⟨b, off + j * 4 + 1, none⟩) hbW).trans c1
        have e2 := (hBl.out.cell (p := ⟨b, off + j * 4 + 2, none⟩) hbW).trans c2'
        have e3 := (hBl.out.cell (p := ⟨b, off + j * 4 + 3, none⟩) hbW).trans c3
        have ex := (hBl.out.cell (p := ⟨b2, off2 + j, none⟩) hb2W).trans (hcx j (by omega))
        rw [List.getElem?_map, hx] at ex
        simp only [Option.map_some, Option.getD_some] at ex
        have hszl := hBl.out.size
        have exA : ∀ o : Obj, (wr.alloc o).cell? ⟨b2, off2 + j, none⟩ = some (.int .i64 (x : Int)) := fun o => (World.cell?_of_block (Below.heap_alloc wr o b2 (by omega))).trans ex
        have HFT := Lib.hid (fun V (hV : Below W.heap.size W V) => fits_any (HL.out t (List.mem_of_getElem? ht)) V hi B x (ndv kj nj sj (.slice Aj lj cj)) (hnv.under (hV.mono hh) (Nat.le_refl _)) (HR.out.below (hV.mono hh)) (Nat.le_trans hh hV.size) (HBX.out.below hB hV) (by have := hV.size; omega))
        have HSN := Lib.hid (fun e => map_take_snoc ht hx hT.out e)
        have HNO := Lib.hid (show TY.tyOf t ≠ x → l.map TY.tyOf ≠ ts from fun hn e => hn (by
          have h1 : (l.map TY.tyOf)[j]? = some (TY.tyOf t) := by rw [List.getElem?_map, ht]; rfl
          rw [e, hx] at h1
          injection h1 with h1
          exact h1.symm))
        obtain ⟨y, hy⟩ : ∃ y, TY.tyOf t = y := ⟨_, rfl⟩
        rw [hy] at HSN HNO
        simp only [hy] at HFT
        clear hnv c0 c1 c2' c3 hcx ht hvj hy hx
        have HBA := Lib.hid (fun o : Obj => hBl.out.alloc hBl.out.size o)
        by_cases hyx : y = x
        · have HS := Lib.hid (HSN.out hyx)
          have HF := Lib.hid (fun V hV => by have := HFT.out V hV; rw [decide_eq_true hyx] at this; exact this)
          clear HFT HSN HNO hyx
          go_wp2_with (first
            | (go_at_call 27; refine (HF.out _ (HBA.out _)).mono ?_; clear HF; rintro e w2 ⟨rfl, hb2⟩; have HB2 := Lib.hid ((HBA.out _).trans (hb2.mono (HBA.out _).size)); clear hb2))
          go_roundw
          case rel => exact ⟨j + 1, by omega, by go_num, HS.out, HB2.out⟩
          case measure => simp [intOf]; omega
        · have HN := Lib.hid (HNO.out hyx)
          have HF := Lib.hid (fun V hV => by have := HFT.out V hV; rw [decide_eq_false hyx] at this; exact this)
          clear HFT HSN HNO hyx
          go_wp2_with (first
            | (go_at_call 27; refine (HF.out _ (HBA.out _)).mono ?_; clear HF; rintro e w2 ⟨rfl, hb2⟩; have HB2 := Lib.hid ((HBA.out _).trans (hb2.mono (HBA.out _).size)); clear hb2))
          go_ret
          rw [decide_eq_false HN.out]
          exact ⟨rfl, HB2.out⟩
      · obtain rfl : j = m := by omega
        have HY := Lib.hid (show l.map TY.tyOf = ts by
          have := hT.out
          rwa [List.take_of_length_le (by rw [List.length_map, HM.out]; exact Nat.le_refl _), List.take_of_length_le (by rw [HM2.out]; omega)] at this)
        go_wp2_with fail
        go_ret
        rw [decide_eq_true HY.out]
        exact ⟨rfl, hBl.out⟩
  · have hne : ((l.length : Int) != (ts.length : Int)) = true := by rw [bne_iff_ne]; omega
    have HN := Lib.hid (show l.map TY.tyOf ≠ ts from fun e => hlen (by rw [← e, List.length_map]))
    clear hkids hl hkd hr hbx
    go_enter Try.func28, Try.ntmps28
    go_wp2_with fail
    go_ret
    rw [decide_eq_false HN.out]
    exact ⟨rfl, Below.refl _ _⟩
end Go.Proofs.Ytligbandpmgmaaa
