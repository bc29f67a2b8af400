/-
  The contract of successors: the sorted rows of the edges' ends. Condition: the edges' ends are vertices; what Sort and Compact do at own rows is taken from their contracts.
  The contract of predecessors: for each vertex, in increasing order, those from which edges lead to it. Condition: each row is strictly increasing and names vertices.
  The contracts of the heap's own methods: Len, Less, Swap, Push, Pop. Conditions: the places lie in the heap; it holds at most 1000 vertices.
  The contracts of container/heap's Push and Pop at the heap of vertices, and of its own method Pop. Condition: at most 1000 vertices.
  The contracts of container/heap's down, Push and Pop at the heap of vertices. Condition: at most 1000 vertices.
  The contracts of container/heap's Push and Pop at the heap of vertices. Condition: at most 900 vertices.
-/
import Derived.Test.YtlgdcbhdmffnoaaDoorK7
import Derived.Test.YtlgdcbhdmffnoaaDoorK4
import Derived.Test.YtlgdcbhdmffnoaaDoorK2
import Derived.BigRegion
import Derived.Deep.RegionLaw
import Derived.Deep.AppendLies

namespace Go.Proofs.YtlgdcbhdmffnoaaDoor
open Go Go.RowKit

def appRow (E : List (Nat × Nat)) (v : Nat) : List Nat := (E.filter fun e => decide (e.1 = v)).map (·.2)
def appRows (n : Nat) (E : List (Nat × Nat)) : List (List Nat) := (List.range n).map (appRow E)
theorem appRows_len (n : Nat) (E : List (Nat × Nat)) : (appRows n E).length = n := by simp [appRows]
theorem appRows_at (n : Nat) (E : List (Nat × Nat)) {v : Nat} (h : v < n) : (appRows n E)[v]? = some (appRow E v) := by simp [appRows, h]
theorem appRow_len (E : List (Nat × Nat)) (v : Nat) : (appRow E v).length ≤ E.length := by
  unfold appRow
  rw [List.length_map]
  exact List.length_filter_le _ _
theorem appRows_nil (n : Nat) : appRows n [] = List.replicate n [] := by
  unfold appRows appRow
  apply List.ext_getElem?
  intro i
  by_cases h : i < n
  · simp [h]
  · simp [h]
theorem appRow_snoc (E : List (Nat × Nat)) (x y v : Nat) : appRow (E ++ [(x, y)]) v = if x = v then appRow E v ++ [y] else appRow E v := by
  unfold appRow
  rw [List.filter_append, List.map_append]
  by_cases h : x = v <;> simp [h]
theorem appRows_snoc (n : Nat) (E : List (Nat × Nat)) (x y : Nat) : appRows n (E ++ [(x, y)]) = (appRows n E).set x (appRow E x ++ [y]) := by
  apply List.ext_getElem?
  intro i
  by_cases hi : i < n
  · rw [appRows_at n _ hi, appRow_snoc]
    by_cases h : x = i
    · subst h
      rw [List.getElem?_set_self (by rw [appRows_len]; exact hi), if_pos rfl]
    · rw [List.getElem?_set_ne h, appRows_at n _ hi, if_neg h]
  · rw [List.getElem?_eq_none (by rw [appRows_len]; omega), List.getElem?_eq_none (by rw [List.length_set, appRows_len]; omega)]
theorem take_snoc' {α : Type} {l : List α} {k : Nat} {x : α} (h : l[k]? = some x) : l.take (k + 1) = l.take k ++ [x] := by
  rw [List.take_add_one, h]
  rfl
theorem appRow_mem (E : List (Nat × Nat)) (v w : Nat) : w ∈ appRow E v ↔ (v, w) ∈ E := by
  unfold appRow
  simp only [List.mem_map, List.mem_filter, decide_eq_true_eq]
  constructor
  · rintro ⟨⟨a, b⟩, ⟨h1, h2⟩, h3⟩
    simp only at h2 h3
    subst h2 h3
    exact h1
  · exact fun h => ⟨(v, w), ⟨h, rfl⟩, rfl⟩

/-- What lies in a cell. -/
def valOf (p : Addr) (W : World) : Value := (W.cell? p).getD undef
theorem valOf_eq {p : Addr} {W : World} {v : Value} (h : W.cell? p = some v) : valOf p W = v := by
  unfold valOf
  rw [h]
  rfl
theorem valOf_cell {p : Addr} {W : World} {v : Value} (h : W.cell? p = some v) : W.cell? p = some (valOf p W) := by rw [valOf_eq h, h]

/-- The first loop's memory. -/
def S1 (n : Nat) (E : List (Nat × Nat)) (g : Nat) (w wr : World) (k : Nat) : Prop :=
  ∃ cs, Rows2 wr w.heap.size wr.heap.size g cs (appRows n (E.take k)) ∧ Below w.heap.size w wr
theorem S1.start (n : Nat) (E : List (Nat × Nat)) (w : World) : S1 n E w.heap.size w (w.alloc (.cells (Array.replicate n (.slice none 0 0)) 22)) 0 := by
  have hx : ∀ (i : Nat) (l : List Nat), (appRows n (E.take 0))[i]? = some l → l = [] := fun i l h => by
    rw [List.take_zero, appRows_nil, List.getElem?_replicate] at h
    split at h
    · injection h with h; exact h.symm
    · cases h
  have hc : ∀ (i : Nat) (v : Value), (Array.replicate n (Value.slice none 0 0))[i]? = some v → v = .slice none 0 0 := fun i v h => by
    rw [Array.getElem?_replicate] at h
    split at h
    · injection h with h; exact h.symm
    · cases h
  refine ⟨_, ⟨by simp [appRows_len], World.alloc_heap_new w _, ⟨Nat.le_refl _, by simp⟩, fun i v l hv hl => ?_, fun i v b hv hb => ?_, fun i j v v' b _ hv _ hb _ => ?_⟩, (Below.refl _ _).alloc (Nat.le_refl _) _⟩
  · rw [hc i v hv, hx i l hl]
    exact Own.nil _ _
  · rw [hc i v hv] at hb
    cases hb
  · rw [hc i v hv] at hb
    cases hb

theorem S1.step {n k x y g : Nat} {E : List (Nat × Nat)} {w wr wx w1 : World} {cs : Array Value} {v v' : Value} {l : List Nat} {o o' : Obj} (hR : Rows2 wr w.heap.size wr.heap.size g cs (appRows n (E.take k))) (hB : Below w.heap.size w wr)
    (hk : E[k]? = some (x, y)) (hv : cs[x]? = some v) (ho : Own wr w.heap.size v l) (hl : Hid (appRow (E.take k) x = l)) (hwx : Hid (wx = wr.alloc o)) (hg : (wx.alloc o').drew.grownBy w1 v.ownBlock)
    (hown : w1.ownsRow w.heap.size 3 1 v' (l.length + 1) (l.map nv ++ [nv y])) (hv' : ∃ b, v'.ownBlock = some b ∧ (v.ownBlock = some b ∨ b = wx.heap.size + 1) ∧ b < w1.heap.size) :
    S1 n E g w (w1.setCell ⟨g, x, none⟩ v') (k + 1) := by
  have hl := hl.out
  have hwx := hwx.out
  have hsz := hB.size
  have hwz : wx.heap.size = wr.heap.size + 1 := by rw [hwx]; simp
  have h1 : ∀ b, b < wr.heap.size → v.ownBlock ≠ some b → w1.heap[b]? = wr.heap[b]? := fun b hb hne => by
    rw [hg.block b (by simp; omega) (Ne.symm hne)]
    show (wx.alloc o').heap[b]? = _
    rw [Below.heap_alloc _ _ _ (by omega), hwx, Below.heap_alloc _ _ _ hb]
  have hgs := hg.size
  simp at hgs
  have hgin := hR.gin
  have hw1 : w.heap.size ≤ w1.heap.size := by omega
  obtain ⟨b0, hb0, hb1, hb2⟩ := hv'
  have hstep := hR.upd (hi' := w1.heap.size) hv (by omega) (fun b _ hb hne => h1 b hb hne) (v' := v') (l := l ++ [y]) (by
      show w1.ownsRow _ _ _ _ _ _
      rw [List.length_append, List.map_append]
      exact hown) (fun b hb => by
      rw [hb0] at hb
      injection hb with hb
      subst hb
      rcases hb1 with h | h
      · exact .inl h
      · exact .inr (by omega)) (fun b hb => by
      rw [hb0] at hb
      injection hb with hb
      omega)
  refine ⟨cs.setIfInBounds x v', ?_, ?_⟩
  · rw [take_snoc' hk, appRows_snoc, hl]
    have e : (w1.setCell ⟨g, x, none⟩ v').heap.size = w1.heap.size := by simp [World.setCell]
    rw [e]
    exact hstep
  · refine (Below.trans hB ⟨hg.os.trans (by rw [hwx]; rfl), hg.tape.trans (by rw [hwx]; rfl), hg.output.trans (by rw [hwx]; rfl), by omega, fun b hb => h1 b (by omega) (fun e => ?_)⟩).setCell (p := ⟨g, x, none⟩) hgin.1 _
    have := ho.lt b e
    omega

/-- What the contracts of Sort and Compact say of a row of the call's own. -/
def SortOwn : Prop := ∀ (base : Nat) (v : Value) (zs : List Int) (W : World), OwnI W base v zs → zs.length ≤ 100000 →
  Calls Tryd.prog 63 #[v] W fun e W' => e = .returned (.tuple #[]) ∧ OwnI W' base v (zs.mergeSort fun x y => decide (x ≤ y)) ∧ W.grownBy W' v.ownBlock
def CompactOwn : Prop := ∀ (base : Nat) (v : Value) (zs : List Int) (W : World), OwnI W base v zs → zs.length ≤ 100000 →
  Calls Tryd.prog 70 #[v] W fun e W' => ∃ v', e = .returned v' ∧ OwnI W' base v' (Lib.compact zs) ∧ W.grownBy W' v.ownBlock ∧ ∀ b, v'.ownBlock = some b → v.ownBlock = some b
/-- The second loop's memory. -/
def sRows (n : Nat) (E : List (Nat × Nat)) (k : Nat) : List (List Nat) := (List.range n).map fun v => if v < k then succRow n E v else appRow E v
theorem sRows_len (n : Nat) (E : List (Nat × Nat)) (k : Nat) : (sRows n E k).length = n := by simp [sRows]
theorem sRows_at (n : Nat) (E : List (Nat × Nat)) (k : Nat) {v : Nat} (h : v < n) : (sRows n E k)[v]? = some (if v < k then succRow n E v else appRow E v) := by simp [sRows, h]
theorem sRows_zero (n : Nat) (E : List (Nat × Nat)) : sRows n E 0 = appRows n E := by simp [sRows, appRows]
theorem sRows_all (n : Nat) (E : List (Nat × Nat)) : sRows n E n = succs n E := by
  unfold sRows succs
  exact List.map_congr_left fun v hv => if_pos (List.mem_range.1 hv)
theorem sRows_succ (n : Nat) (E : List (Nat × Nat)) (k : Nat) : sRows n E (k + 1) = (sRows n E k).set k (succRow n E k) := by
  apply List.ext_getElem?
  intro i
  by_cases hi : i < n
  · rw [sRows_at n _ _ hi]
    by_cases h : k = i
    · subst h
      rw [List.getElem?_set_self (by rw [sRows_len]; exact hi), if_pos (by omega)]
    · rw [List.getElem?_set_ne h, sRows_at n _ _ hi]
      by_cases h2 : i < k
      · rw [if_pos h2, if_pos (by omega)]
      · rw [if_neg h2, if_neg (by omega)]
  · rw [List.getElem?_eq_none (by rw [sRows_len]; omega), List.getElem?_eq_none (by rw [List.length_set, sRows_len]; omega)]
def S2 (n : Nat) (E : List (Nat × Nat)) (g : Nat) (w wr : World) (k : Nat) : Prop :=
  ∃ cs, Rows2 wr w.heap.size wr.heap.size g cs (sRows n E k) ∧ Below w.heap.size w wr
theorem succRow_int (n : Nat) (E : List (Nat × Nat)) (hd : ∀ e ∈ E, e.1 < n ∧ e.2 < n) (v : Nat) :
    Lib.compact (((appRow E v).map fun n : Nat => (n : Int)).mergeSort fun x y => decide (x ≤ y)) = (succRow n E v).map fun n : Nat => (n : Int) := by
  refine compact_sort _ _ ?_ fun x => ?_
  · rw [List.pairwise_map]
    exact (filter_sorted _ (range_sorted n)).imp (by intro a b h; omega)
  · simp only [List.mem_map, appRow_mem]
    unfold succRow
    simp only [List.mem_filter, List.mem_range, decide_eq_true_eq]
    constructor
    · rintro ⟨a, ⟨_, h⟩, e⟩
      exact ⟨a, h, e⟩
    · rintro ⟨a, h, e⟩
      exact ⟨a, ⟨(hd _ h).2, h⟩, e⟩
theorem S2.step {n k g : Nat} {E : List (Nat × Nat)} {w wr w1 w2 : World} {cs : Array Value} {v v' : Value} (hd : ∀ e ∈ E, e.1 < n ∧ e.2 < n) (hkn : k < n) (hR : Rows2 wr w.heap.size wr.heap.size g cs (sRows n E k)) (hB : Below w.heap.size w wr)
    (hv : cs[k]? = some v) (h1 : wr.grownBy w1 v.ownBlock) (h2 : w1.grownBy w2 v.ownBlock) (ho : OwnI w2 w.heap.size v' (Lib.compact (((appRow E k).map fun n : Nat => (n : Int)).mergeSort fun x y => decide (x ≤ y)))) (hb : ∀ b, v'.ownBlock = some b → v.ownBlock = some b) :
    S2 n E g w (w2.setCell ⟨g, k, none⟩ v') (k + 1) := by
  rw [succRow_int n E hd] at ho
  have ho := own_iff.2 ho
  have hs1 := h1.size
  have hs2 := h2.size
  have hgin := hR.gin
  have hov := hR.row k v _ hv (sRows_at n E k hkn)
  have hk : ∀ b, b < wr.heap.size → v.ownBlock ≠ some b → w2.heap[b]? = wr.heap[b]? := fun b hb hne => (h2.block b (by omega) (Ne.symm hne)).trans (h1.block b hb (Ne.symm hne))
  have hstep := hR.upd (hi' := w2.heap.size) hv (by omega) (fun b _ hb hne => hk b hb hne) ho (fun b hb' => .inl (hb b hb')) (fun b hb' => (ho.lt b hb').2)
  refine ⟨cs.setIfInBounds k v', ?_, ?_⟩
  · rw [sRows_succ n E k]
    have e : (w2.setCell ⟨g, k, none⟩ v').heap.size = w2.heap.size := by simp [World.setCell]
    rw [e]
    exact hstep
  · refine (Below.trans hB ⟨h2.os.trans h1.os, h2.tape.trans h1.tape, h2.output.trans h1.output, by omega, fun b hb => hk b (by have := hB.size; omega) (fun e => ?_)⟩).setCell (p := ⟨g, k, none⟩) hgin.1 _
    have := hov.lt b e
    omega

set_option maxRecDepth 100000 in
set_option maxHeartbeats 2000000 in
theorem successors_any (HS : SortOwn) (HC : CompactOwn) (n m c : Nat) (A : Option Addr) (E : List (Nat × Nat)) (w : World) (hn : n ≤ 1000) (hm : m ≤ 1000) (hE : Edg w w.heap.size A m E) (hd : ∀ e ∈ E, e.1 < n ∧ e.2 < n) :
    Calls Tryd.prog 56 #[.int .i64 n, .slice A m c] w fun e w' => ∃ g cs, e = .returned (.slice (some ⟨g, 0, none⟩) n n) ∧ Rows2 w' w.heap.size w'.heap.size g cs (succs n E) ∧ Below w.heap.size w w' := by
  have hmk := make_ints2 n (by omega)
  obtain ⟨i0, hi0, hz0, hz1, hz2⟩ := info_parts info_int
  have hlen := Lib.hid hE.1
  have hst := S1.start n E w
  obtain ⟨w1, hw1⟩ : ∃ W, W = w.alloc (.cells (Array.replicate n (.slice none 0 0)) 22) := ⟨_, rfl⟩
  rw [← hw1] at hst
  have HW1 := Lib.hid hw1
  clear hw1
  go_enter Tryd.func56, Tryd.ntmps56
  go_wp2_with fail
  rw [← HW1.out]
  go_loopw [15] (fun i wr => ∃ k : Nat, k ≤ m ∧ i = .int .i64 k ∧ S1 n E w.heap.size w wr k) (fun i _ => m - (intOf i).toNat)
  case atStart => exact ⟨0, Nat.zero_le _, rfl, hst⟩
  case round =>
    obtain ⟨k, hk, rfl, cs, hR, hB⟩ := hrel
    by_cases hlt : k < m
    · obtain ⟨b, off, x, y, rfl, hbl, hxy, hc1, hc2⟩ := hE.at_ hlt
      obtain ⟨hx, hy⟩ := hd (x, y) (List.mem_of_getElem? hxy)
      have k1 : wr.cell? ⟨b, off + k * 2, none⟩ = some (.int .i64 (x : Int)) := (hB.cell (p := ⟨b, off + k * 2, none⟩) hbl).trans hc1
      have k2 : wr.cell? ⟨b, off + k * 2 + 1, none⟩ = some (.int .i64 (y : Int)) := (hB.cell (p := ⟨b, off + k * 2 + 1, none⟩) hbl).trans hc2
      have h0x : (0 : Int) ≤ x := by omega
      have h0y : (0 : Int) ≤ y := by omega
      have h1x : (x : Int) < n := by omega
      have h1y : (y : Int) < n := by omega
      clear hc1 hc2
      go_wp2_with (go_at_call 62; refine (isVertex_yes _ _ _ (by assumption) (by assumption)).mono ?_; rintro e w' ⟨rfl, rfl⟩)
      obtain ⟨v, l, hv, hl, ho, hcv⟩ := hR.at_ (i := x) (by rw [appRows_len]; exact hx)
      rw [appRows_at n _ hx] at hl
      injection hl with hl
      have hll : l.length ≤ 1000 := by
        rw [← hl]
        have h1 := appRow_len (E.take k) x
        have h2 := List.length_take_le k E
        omega
      have hgl := hR.gin.2
      have hfz := hR.frozen x
      have hvg := own_ne_g hR ho
      have hbv := ho.lt
      obtain ⟨wx, hwx⟩ : ∃ W, W = wr.alloc (Obj.cells #[Value.int IntKind.i64 ↑x, Value.int IntKind.i64 ↑y] 23) := ⟨_, rfl⟩
      have e1 : wx.cell? ⟨wr.heap.size, 0, none⟩ = some (.int .i64 (x : Int)) := by rw [hwx]; simp
      have e2 : wx.cell? ⟨wr.heap.size, 1, none⟩ = some (.int .i64 (y : Int)) := by rw [hwx]; simp
      have e3 : wx.cell? ⟨w.heap.size, x, none⟩ = some v := by rw [hwx, World.cell?_alloc_lt _ _ _ (by show w.heap.size < _; omega)]; exact hcv
      have e4 : wx.frozen? ⟨w.heap.size, x, none⟩ = false := by rw [hwx, World.frozen?_alloc_old _ _ _ (by show w.heap.size ≠ _; omega)]; exact hfz
      have e5 : Own wx w.heap.size v l := ho.keep fun b hb => by rw [hwx]; exact Below.heap_alloc _ _ _ (hbv b hb).2
      have e6 : wx.heap.size = wr.heap.size + 1 := by rw [hwx]; simp
      have hsz := hB.size
      have E5 := Lib.hid e5
      have E6 := Lib.hid e6
      rw [← hwx]
      have HWX := Lib.hid hwx
      have HL := Lib.hid hl
      have E3 := Lib.hid e3
      have al : ∀ (o : Obj) (p : Addr), p.block < wx.heap.size → (wx.alloc o).cell? p = wx.cell? p := fun o p h => World.cell?_alloc_lt wx o p h
      have AL := Lib.hid al
      have l1 : wr.heap.size < wx.heap.size := by omega
      have l2 : w.heap.size < wx.heap.size := by omega
      have n1 : w.heap.size ≠ wr.heap.size := by omega
      have hw0 : ∀ b, v.ownBlock = some b → b < wx.heap.size := fun b hb => by have := hbv b hb; omega
      have HW0 := Lib.hid hw0
      have HBV := Lib.hid hbv
      clear hwx hl e5 e6 hcv hfz k1 k2 al hw0 hbv
      go_region_law (refine step_append_lies _ rfl (.tmp 36) (.tmp 39) 22 rfl w.heap.size 3 i0 _ 1 8 Tryd.underlying22 hi0 hz0 hz1 hz2 rfl (by decide) v l.length (l.map nv) (by simp [Act.eval]) (own_of_block E5.out (fun b hb => Below.heap_alloc _ _ _ (HW0.out b hb))) ⟨wx.heap.size, 0, none⟩ 1 1 [.int .i64 (y : Int)] (by simp [Act.eval]) rfl (fun j u hu => cell_one_new wx _ _ j u hu) (by simp [Value.oneCell']) (by decide) (by simp only [maxLen]; omega) (by omega) (by simp; omega) _ rfl ?_; intro gg cap w1 hown1 hgrow hat hlt; have c1 := hgrow.cell ((AL.out _ _ l1).trans e1) (fun e => by have := HBV.out _ e.symm; simp at this); have c3 := hgrow.cell ((AL.out _ _ l2).trans E3.out) (Ne.symm hvg); have hf1 : w1.frozen? ⟨w.heap.size, x, none⟩ = false := (World.frozen?_of_block (hgrow.block w.heap.size (by simp; omega) (Ne.symm hvg))).trans ((World.frozen?_alloc_old wx _ _ (by show w.heap.size ≠ _; omega)).trans e4))
      all_goals
        go_wp2_with fail
        go_roundw
        case rel => exact ⟨k + 1, by omega, by go_num, S1.step hR hB hxy hv ho HL HWX hgrow hown1 ⟨gg, rfl, hat.imp id (fun h => h.trans (by simp)), hlt⟩⟩
        case measure => simp [intOf]; omega
    · obtain rfl : m = k := by omega
      have hR2 : Rows2 wr w.heap.size wr.heap.size w.heap.size cs (sRows n E 0) := by
        rw [sRows_zero]
        rw [List.take_of_length_le (by rw [hlen.out]; exact Nat.le_refl _)] at hR
        exact hR
      have HR2 := Lib.hid hR2
      clear hR hR2 hst
      go_wp2_with fail
      obtain ⟨wo, hwo⟩ : ∃ W, W = wr := ⟨_, rfl⟩
      subst hwo
      go_loopw [45] (fun i wr => ∃ k : Nat, k ≤ n ∧ i = .int .i64 k ∧ S2 n E w.heap.size w wr k) (fun i _ => n - (intOf i).toNat)
      case atStart => exact ⟨0, Nat.zero_le _, rfl, cs, HR2.out, hB⟩
      case round =>
        obtain ⟨j, hj, rfl, ds, hR, hB2⟩ := hrel
        by_cases hlt : j < n
        · obtain ⟨v, l, hv, hl, ho, hcv⟩ := hR.at_ (i := j) (by rw [sRows_len]; exact hlt)
          rw [sRows_at n _ _ hlt, if_neg (Nat.lt_irrefl _)] at hl
          injection hl with hl
          subst hl
          have hll : (appRow E j).length ≤ 1000 := by
            have h1 := appRow_len E j
            have h2 := hlen.out
            omega
          have HS1 := Lib.hid (HS w.heap.size v _ wr (own_iff.1 ho) (by rw [List.length_map]; omega))
          have hfz := hR.frozen j
          have hne := own_ne_g hR ho
          have hgl := hR.gin.2
          have HX := Lib.hid hR
          have HCV := Lib.hid hcv
          clear hR ho
          go_wp2_with fail
          refine HS1.out.mono ?_
          rintro e w2 ⟨rfl, ho2, hg2⟩
          have HC1 := Lib.hid (HC w.heap.size v _ w2 ho2 (by rw [List.length_mergeSort, List.length_map]; omega))
          have hcv2 := hg2.cell HCV.out (Ne.symm hne)
          go_wp2_with fail
          refine HC1.out.mono ?_
          rintro e w3 ⟨v3, rfl, ho3, hg3, hb3⟩
          have hcv3 := hg3.cell hcv2 (Ne.symm hne)
          obtain ⟨A3, cc3, rfl, _, _⟩ := own_slice ho3
          have hs2 := hg2.size
          have hfz3 : w3.frozen? ⟨w.heap.size, j, none⟩ = false := (World.frozen?_of_block ((hg3.block _ (by show w.heap.size < _; omega) (Ne.symm hne)).trans (hg2.block _ hgl (Ne.symm hne)))).trans hfz
          go_wp2_with fail
          go_roundw
          case rel => exact ⟨j + 1, by omega, by go_num, S2.step hd hlt HX.out hB2 hv hg2 hg3 ho3 hb3⟩
          case measure => simp [intOf]; omega
        · obtain rfl : n = j := by omega
          rw [sRows_all] at hR
          go_wp2_with fail
          go_ret
          exact ⟨_, ds, rfl, hR, hB2⟩
end Go.Proofs.YtlgdcbhdmffnoaaDoor

namespace Go.Proofs.YtlgdcbhdmffnoaaDoor
open Go Go.RowKit

def S0 (n : Nat) (F : List (Nat × Nat)) (g : Nat) (w wr : World) : Prop :=
  ∃ cs, Rows2 wr w.heap.size wr.heap.size g cs (appRows n F) ∧ Below w.heap.size w wr
theorem S0.start (n : Nat) (w : World) : S0 n [] w.heap.size w (w.alloc (.cells (Array.replicate n (.slice none 0 0)) 22)) := S1.start n [] w
theorem S0.step {n x y g : Nat} {F : List (Nat × Nat)} {w wr wx w1 : World} {cs : Array Value} {v v' : Value} {l : List Nat} (hR : Rows2 wr w.heap.size wr.heap.size g cs (appRows n F)) (hB : Below w.heap.size w wr)
    (hv : cs[x]? = some v) (ho : Own wr w.heap.size v l) (hl : Hid (appRow F x = l)) (hwx : Below wr.heap.size wr wx) (hg : wx.grownBy w1 v.ownBlock)
    (hown : w1.ownsRow w.heap.size 3 1 v' (l.length + 1) (l.map nv ++ [nv y])) (hv' : ∃ b, v'.ownBlock = some b ∧ (v.ownBlock = some b ∨ b = wx.heap.size) ∧ b < w1.heap.size) :
    S0 n (F ++ [(x, y)]) g w (w1.setCell ⟨g, x, none⟩ v') := by
  have hl := hl.out
  have hsz := hB.size
  have hwz := hwx.size
  have h1 : ∀ b, b < wr.heap.size → v.ownBlock ≠ some b → w1.heap[b]? = wr.heap[b]? := fun b hb hne => by
    rw [hg.block b (by omega) (Ne.symm hne)]
    exact hwx.block b hb
  have hgs := hg.size
  have hgin := hR.gin
  have hw1 : w.heap.size ≤ w1.heap.size := by omega
  obtain ⟨b0, hb0, hb1, hb2⟩ := hv'
  have hstep := hR.upd (hi' := w1.heap.size) hv (by omega) (fun b _ hb hne => h1 b hb hne) (v' := v') (l := l ++ [y]) (by
      show w1.ownsRow _ _ _ _ _ _
      rw [List.length_append, List.map_append]
      exact hown) (fun b hb => by
      rw [hb0] at hb
      injection hb with hb
      subst hb
      rcases hb1 with h | h
      · exact .inl h
      · exact .inr (by omega)) (fun b hb => by
      rw [hb0] at hb
      injection hb with hb
      omega)
  refine ⟨cs.setIfInBounds x v', ?_, ?_⟩
  · rw [appRows_snoc, hl]
    have e : (w1.setCell ⟨g, x, none⟩ v').heap.size = w1.heap.size := by simp [World.setCell]
    rw [e]
    exact hstep
  · refine (Below.trans hB ⟨hg.os.trans hwx.os, hg.tape.trans hwx.tape, hg.output.trans hwx.output, by omega, fun b hb => h1 b (by omega) (fun e => ?_)⟩).setCell (p := ⟨g, x, none⟩) hgin.1 _
    have := ho.lt b e
    omega

/-- The edges turned round, up to row k, and j of row k. -/
def revTo (nx : List (List Nat)) (k : Nat) : List (Nat × Nat) := (List.range k).flatMap fun v => (nb nx v).map fun w => (w, v)
def revAt (nx : List (List Nat)) (k j : Nat) : List (Nat × Nat) := revTo nx k ++ ((nb nx k).take j).map fun w => (w, k)
theorem revAt_zero (nx : List (List Nat)) (k : Nat) : revAt nx k 0 = revTo nx k := by simp [revAt]
theorem revAt_all (nx : List (List Nat)) (k : Nat) : revAt nx k (nb nx k).length = revTo nx (k + 1) := by
  unfold revAt revTo
  rw [List.take_length, List.range_succ, List.flatMap_append]
  simp
theorem revAt_succ (nx : List (List Nat)) (k j : Nat) {x : Nat} (h : (nb nx k)[j]? = some x) : revAt nx k (j + 1) = revAt nx k j ++ [(x, k)] := by
  unfold revAt
  rw [take_snoc' h, List.map_append, List.append_assoc]
  rfl
theorem nb_short (nx : List (List Nat)) (hg : Good nx) (v : Nat) : (nb nx v).length ≤ nx.length := by
  unfold nb
  rcases Nat.lt_or_ge v nx.length with h | h
  · rw [List.getElem?_eq_getElem h]
    have hs := hg _ (List.getElem_mem h)
    have := List.Nodup.length_le_of_subset (l₁ := nx[v]) (l₂ := List.range nx.length) (hs.1.imp (S := (· ≠ ·)) (fun h => Nat.ne_of_lt h)) (fun a ha => List.mem_range.2 (hs.2 a ha))
    rwa [List.length_range] at this
  · rw [List.getElem?_eq_none h]
    exact Nat.zero_le _
theorem revTo_len (nx : List (List Nat)) (N : Nat) (h : ∀ v, (nb nx v).length ≤ N) (k : Nat) : (revTo nx k).length ≤ k * N := by
  induction k with
  | zero => simp [revTo]
  | succ k ih =>
    have e : revTo nx (k + 1) = revTo nx k ++ (nb nx k).map fun w => (w, k) := by
      unfold revTo
      rw [List.range_succ, List.flatMap_append]
      simp
    rw [e, List.length_append, List.length_map, Nat.add_mul, Nat.one_mul]
    have := h k
    omega
theorem revAt_len (nx : List (List Nat)) (N : Nat) (h : ∀ v, (nb nx v).length ≤ N) (k j : Nat) : (revAt nx k j).length ≤ k * N + N := by
  unfold revAt
  rw [List.length_append, List.length_map]
  have h1 := revTo_len nx N h k
  have h2 := List.length_take_le j (nb nx k)
  have h3 := h k
  have h4 : ((nb nx k).take j).length ≤ (nb nx k).length := List.length_take_le' _ _
  omega
theorem filter_eq_mem {l : List Nat} (h : l.Pairwise (· < ·)) (x : Nat) : l.filter (fun w => decide (w = x)) = if x ∈ l then [x] else [] := by
  induction l with
  | nil => rfl
  | cons y ys ih =>
    rw [List.pairwise_cons] at h
    rw [List.filter_cons, ih h.2]
    by_cases e : y = x
    · subst e
      have : ¬ y ∈ ys := fun hm => by have := h.1 y hm; omega
      simp [this]
    · have e' : ¬ x = y := fun e' => e e'.symm
      simp [e, e']
theorem appRow_append (F G : List (Nat × Nat)) (x : Nat) : appRow (F ++ G) x = appRow F x ++ appRow G x := by simp [appRow]
theorem appRow_rev (nx : List (List Nat)) (hg : Good nx) (x : Nat) (k : Nat) : appRow (revTo nx k) x = (List.range k).filter fun v => decide (x ∈ nb nx v) := by
  induction k with
  | zero => rfl
  | succ k ih =>
    have e : revTo nx (k + 1) = revTo nx k ++ (nb nx k).map fun w => (w, k) := by
      unfold revTo
      rw [List.range_succ, List.flatMap_append]
      simp
    rw [e, appRow_append, ih, List.range_succ, List.filter_append]
    congr 1
    have hs : (nb nx k).Pairwise (· < ·) := by
      unfold nb
      rcases Nat.lt_or_ge k nx.length with h | h
      · rw [List.getElem?_eq_getElem h]
        exact (hg _ (List.getElem_mem h)).1
      · rw [List.getElem?_eq_none h]
        exact List.Pairwise.nil
    have e2 : appRow ((nb nx k).map fun w => (w, k)) x = ((nb nx k).filter fun w => decide (w = x)).map fun _ => k := by
      unfold appRow
      rw [List.filter_map, List.map_map]
      rfl
    rw [e2, filter_eq_mem hs]
    by_cases h : x ∈ nb nx k <;> simp [h]
theorem rev_preds (nx : List (List Nat)) (hg : Good nx) : appRows nx.length (revTo nx nx.length) = preds nx := by
  unfold appRows preds
  exact List.map_congr_left fun v _ => appRow_rev nx hg v nx.length

end Go.Proofs.YtlgdcbhdmffnoaaDoor

namespace Go.Proofs.YtlgdcbhdmffnoaaDoor
open Go Go.RowKit

/-- Block hb is the heap of the list l, its data in v. -/
structure Hp (W : World) (lo hb : Nat) (v : Value) (l : List Nat) : Prop where
  box : W.heap[hb]? = some (.cells #[v] 93 (0, 0))
  own : Own W lo v l
section
variable {W W' : World} {lo hb : Nat} {v : Value} {l : List Nat}
theorem Hp.cell (h : Hp W lo hb v l) : W.cell? ⟨hb, 0, none⟩ = some v := cell_of_row W hb 0 _ _ (0, 0) h.box
theorem Hp.free (h : Hp W lo hb v l) : W.frozen? ⟨hb, 0, none⟩ = false := by simp [World.frozen?, h.box]
theorem Hp.ne (h : Hp W lo hb v l) : v.ownBlock ≠ some hb := by
  rcases h.own.2 with ⟨rfl, _⟩ | ⟨g, cap, cur, rfl, _, h2, _⟩
  · simp [Value.ownBlock]
  · intro e
    have e : g = hb := by simpa [Value.ownBlock] using e
    subst e
    exact heapT_ne h.box h2 (by decide) rfl
theorem Hp.lt (h : Hp W lo hb v l) : hb < W.heap.size := heap_lt h.box
theorem Hp.keep (h : Hp W lo hb v l) (hk : ∀ b, b = hb ∨ v.ownBlock = some b → W'.heap[b]? = W.heap[b]?) : Hp W' lo hb v l :=
  ⟨(hk _ (.inl rfl)).trans h.box, h.own.keep fun b hb => hk b (.inr hb)⟩
theorem own_setCell {g c i x : Nat} (h : Own W lo (.slice (some ⟨g, 0, none⟩) l.length c) l) : Own (W.setCell ⟨g, i, none⟩ (nv x)) lo (.slice (some ⟨g, 0, none⟩) (l.set i x).length c) (l.set i x) := by
  rcases h.2 with ⟨e, _⟩ | ⟨g', cap, cur, e, h1, h2, h3, h4, h5, h6⟩
  · cases e
  · injection e with e1 e2 e3
    injection e1 with e1
    injection e1 with e1 e4
    subst e1 e3
    refine ⟨by simp, .inr ⟨g, c, cur.setIfInBounds i (nv x), by rw [List.length_set], h1, ?_, by rw [List.length_set]; exact h3, h4, by simpa using h5, ?_⟩⟩
    · simp only [World.setCell, Array.getElem?_modify]
      simp [h2]
    · rw [List.length_set, Array.toList_setIfInBounds, List.take_set, h6, List.map_set]
end
theorem hAt_cell {W : World} {lo g n c i : Nat} {l : List Nat} (h : Own W lo (.slice (some ⟨g, 0, none⟩) n c) l) (hi : i < l.length) : W.cell? ⟨g, i, none⟩ = some (.int .i64 (hAt l i : Int)) := h.cell hi

theorem hlen_any (lo hb : Nat) (v : Value) (l : List Nat) (w : World) (h : Hp w lo hb v l) :
    Calls Tryd.prog 58 #[.pointer (some ⟨hb, 0, none⟩)] w fun e w' => e = .returned (.int .i64 (l.length : Int)) ∧ w' = w := by
  have hc := h.cell
  obtain ⟨A, c, rfl, _, _⟩ := h.own.slice
  clear h
  go_enter Tryd.func58, Tryd.ntmps58
  go_wp2
  go_ret
  exact ⟨rfl, rfl⟩
set_option maxHeartbeats 1000000 in
theorem hless_any (lo hb i j : Nat) (v : Value) (l : List Nat) (w : World) (h : Hp w lo hb v l) (hi : i < l.length) (hj : j < l.length) :
    Calls Tryd.prog 112 #[.pointer (some ⟨hb, 0, none⟩), .int .i64 (i : Int), .int .i64 (j : Int)] w fun e w' => e = .returned (.bool (decide (hAt l i < hAt l j))) ∧ w' = w.drew := by
  have hc := h.cell
  obtain ⟨g, c, rfl, _, _, _, _⟩ := h.own.form (by omega)
  have c1 := hAt_cell h.own hi
  have c2 := hAt_cell h.own hj
  obtain ⟨a, ha⟩ : ∃ a, hAt l i = a := ⟨_, rfl⟩
  obtain ⟨b, hb'⟩ : ∃ b, hAt l j = b := ⟨_, rfl⟩
  rw [ha] at c1 ⊢
  rw [hb'] at c2 ⊢
  have hi0 : (0 : Int) ≤ (i : Int) := by omega
  have hi1 : (i : Int) < (l.length : Int) := by omega
  have hj0 : (0 : Int) ≤ (j : Int) := by omega
  have hj1 : (j : Int) < (l.length : Int) := by omega
  clear h ha hb'
  go_enter Tryd.func112, Tryd.ntmps112
  go_wp2
  go_region
  go_wp2
  go_ret
  exact ⟨rfl, rfl⟩
theorem swp_own {W : World} {lo g c i j : Nat} {l : List Nat} (h : Own W lo (.slice (some ⟨g, 0, none⟩) l.length c) l) : Own ((W.setCell ⟨g, i, none⟩ (nv (hAt l j))).setCell ⟨g, j, none⟩ (nv (hAt l i))) lo (.slice (some ⟨g, 0, none⟩) l.length c) (swp l i j) := by
  have h1 := own_setCell (i := i) (x := hAt l j) h
  have h2 := own_setCell (i := j) (x := hAt l i) h1
  rw [List.length_set, List.length_set] at h2
  exact h2
set_option maxHeartbeats 4000000 in
theorem hswap_any (lo hb i j : Nat) (v : Value) (l : List Nat) (w : World) (h : Hp w lo hb v l) (hi : i < l.length) (hj : j < l.length) :
    Calls Tryd.prog 115 #[.pointer (some ⟨hb, 0, none⟩), .int .i64 (i : Int), .int .i64 (j : Int)] w fun e w' => e = .returned (.tuple #[]) ∧ Hp w' lo hb v (swp l i j) ∧ Chg (fun b => v.ownBlock = some b) w w' := by
  have hc := h.cell
  have hne := h.ne
  have HH := Lib.hid h
  obtain ⟨g, c, rfl, _, _, _, _⟩ := h.own.form (by omega)
  have hgb : g ≠ hb := fun e => hne (by rw [e]; rfl)
  have c1 := hAt_cell h.own hi
  have c2 := hAt_cell h.own hj
  have c3 := h.own.frozen i
  have c4 := h.own.frozen j
  obtain ⟨a, ha⟩ : ∃ a, hAt l i = a := ⟨_, rfl⟩
  obtain ⟨b, hb'⟩ : ∃ b, hAt l j = b := ⟨_, rfl⟩
  rw [ha] at c1
  rw [hb'] at c2
  have HA := Lib.hid ha
  have HB := Lib.hid hb'
  have HNE := Lib.hid hgb
  have hi0 : (0 : Int) ≤ (i : Int) := by omega
  have hi1 : (i : Int) < (l.length : Int) := by omega
  have hj0 : (0 : Int) ≤ (j : Int) := by omega
  have hj1 : (j : Int) < (l.length : Int) := by omega
  have d4 : (w.setCell ⟨g, i, none⟩ (.int .i64 (b : Int))).frozen? ⟨g, j, none⟩ = false := by
    rw [World.frozen?_setCell]
    exact c4
  obtain ⟨u, d5⟩ : ∃ u, (w.setCell ⟨g, i, none⟩ (.int .i64 (b : Int))).cell? ⟨g, j, none⟩ = some u := by
    by_cases e : i = j
    · subst e
      exact ⟨_, World.cell?_setCell_same' _ _ _ (by rw [c1]; rfl)⟩
    · exact ⟨_, (World.cell?_setCell_other _ _ _ _ (by intro h; injection h with _ h; exact e h)).trans c2⟩
  clear h ha hb' hgb hne
  go_enter Tryd.func115, Tryd.ntmps115
  go_region
  go_wp2
  go_end0
  refine ⟨rfl, ⟨?_, ?_⟩, ?_⟩
  · exact (Below.heap_setCell _ _ _ hb (Ne.symm HNE.out)).trans ((Below.heap_setCell _ _ _ hb (Ne.symm HNE.out)).trans HH.out.box)
  · rw [← HA.out, ← HB.out]
    exact Own.keep (swp_own HH.out.own) fun _ _ => rfl
  · exact (((Chg.refl (fun b => (Value.slice (some ⟨g, 0, none⟩) l.length c).ownBlock = some b) w).setCell (p := ⟨g, i, none⟩) (fun _ => rfl) _).setCell (p := ⟨g, j, none⟩) (fun _ => rfl) _).drew
theorem far_kept {w w' : World} {g i : Nat} {v u : Value} {x : Value} {t : TypeId} (h : (w.alloc (.cells #[x] t)).drew.grownBy w' v.ownBlock) (hne : v.ownBlock ≠ some g) (hc : w.cell? ⟨g, i, none⟩ = some u) (hf : w.frozen? ⟨g, i, none⟩ = false) : w'.cell? ⟨g, i, none⟩ = some u ∧ w'.frozen? ⟨g, i, none⟩ = false := by
  have hlt := World.block_lt_of_cell? w _ hc
  have e : w'.heap[g]? = w.heap[g]? := (h.block g (by show g < (w.alloc _).heap.size; simp; exact Nat.lt_succ_of_lt hlt) (Ne.symm hne)).trans (Below.heap_alloc _ _ _ hlt)
  exact ⟨(World.cell?_of_block (w := w) e).trans hc, (World.frozen?_of_block (w := w) e).trans hf⟩
theorem own_alloc_drew {w : World} {lo : Nat} {v : Value} {l : List Nat} (h : Own w lo v l) (o : Obj) : (w.alloc o).drew.ownsRow lo 3 1 v l.length (l.map nv) := Own.keep (w' := (w.alloc o).drew) h fun b hb => Below.heap_alloc w o b (h.lt b hb).2
theorem hbox_set {W : World} {b : Nat} {v u : Value} (h : W.heap[b]? = some (.cells #[v] 93 (0, 0))) : (W.setCell ⟨b, 0, none⟩ u).heap[b]? = some (.cells #[u] 93 (0, 0)) := by
  simp only [World.setCell, Array.getElem?_modify]
  simp [h]
theorem push_done {w w4 : World} {lo hb n g4 c4 : Nat} {v : Value} {l : List Nat} (h : Hp w lo hb v l) (ho : w4.ownsRow lo 3 1 (.slice (some ⟨g4, 0, none⟩) (l.length + 1) c4) (l.length + 1) (l.map nv ++ [.int .i64 (n : Int)]))
    (hg : (w.alloc (.cells #[.int .i64 (n : Int)] 3)).drew.grownBy w4 v.ownBlock) (hor : v.ownBlock = some g4 ∨ g4 = (w.alloc (.cells #[.int .i64 (n : Int)] 3)).drew.heap.size) :
    ∃ v', Hp (w4.setCell ⟨hb, 0, none⟩ (.slice (some ⟨g4, 0, none⟩) (l.length + 1) c4)) lo hb v' (l ++ [n]) ∧ (∀ b, v'.ownBlock = some b → v.ownBlock = some b ∨ w.heap.size ≤ b) ∧ Chg (fun b => b = hb ∨ v.ownBlock = some b) w (w4.setCell ⟨hb, 0, none⟩ (.slice (some ⟨g4, 0, none⟩) (l.length + 1) c4)) := by
  have hlt := h.lt
  have hbig : (w.alloc (.cells #[.int .i64 (n : Int)] 3)).drew.heap.size = w.heap.size + 1 := by
    show (w.alloc _).heap.size = _
    simp
  have hne : g4 ≠ hb := by
    rcases hor with e | e
    · intro e2
      exact h.ne (by rw [e, e2])
    · omega
  have hbx : w4.heap[hb]? = w.heap[hb]? := (hg.block hb (by omega) (Ne.symm h.ne)).trans (Below.heap_alloc w _ hb hlt)
  refine ⟨_, ⟨hbox_set (hbx.trans h.box), ?_⟩, fun b hb' => ?_, ?_⟩
  · have h1 : Own w4 lo (.slice (some ⟨g4, 0, none⟩) (l.length + 1) c4) (l ++ [n]) := by
      unfold Own
      rw [List.length_append, List.map_append]
      exact ho
    exact h1.keep fun b hb' => Below.heap_setCell w4 _ _ b (by
      have e : g4 = b := by simpa [Value.ownBlock] using hb'
      show b ≠ hb
      omega)
  · have e : g4 = b := by simpa [Value.ownBlock] using hb'
    subst e
    rcases hor with e | e
    · exact .inl e
    · exact .inr (by omega)
  · refine Chg.setCell ?_ (fun _ => .inl rfl) _
    exact (((Chg.refl _ w).alloc _).drew).grown hg fun k hk _ => .inr hk
theorem assert_int (n : Int) : ∀ W : World, (Instr.typeAssert (.iface 3 (.int .i64 n)) 20 3 false).run Tryd.prog W = .ok (.int .i64 n) W := fun _ => by kernel_rfl
set_option maxHeartbeats 4000000 in
theorem hpush_any (lo hb n : Nat) (v : Value) (l : List Nat) (w : World) (h : Hp w lo hb v l) (hl : l.length ≤ 1000) (hlo : lo ≤ w.heap.size) :
    Calls Tryd.prog 114 #[.pointer (some ⟨hb, 0, none⟩), .iface 3 (.int .i64 (n : Int))] w fun e w' => e = .returned (.tuple #[]) ∧ ∃ v', Hp w' lo hb v' (l ++ [n]) ∧ (∀ b, v'.ownBlock = some b → v.ownBlock = some b ∨ w.heap.size ≤ b) ∧ Chg (fun b => b = hb ∨ v.ownBlock = some b) w w' := by
  obtain ⟨i0, hi0, hz0, hz1, hz2⟩ := info_parts info_int
  have hc := h.cell
  have hf := h.free
  have hne := h.ne
  have HH := Lib.hid h
  have HNE := Lib.hid hne
  have hlt := h.lt
  have hta := assert_int (n : Int)
  obtain ⟨A, c, rfl, _, _⟩ := h.own.slice
  clear h hne
  go_enter Tryd.func114, Tryd.ntmps114
  go_region_law (refine step_append_lies _ rfl (.tmp 8) (.tmp 11) 22 rfl lo 3 i0 _ 1 8 Tryd.underlying22 hi0 hz0 hz1 hz2 rfl (by decide) (.slice A l.length c) l.length _ (by simp [Act.eval]) (own_alloc_drew HH.out.own _) ⟨w.heap.size, 0, none⟩ 1 1 [_] (by simp [Act.eval]) rfl (fun j u hu => cell_one_new w _ _ j u hu) (by simp [Value.oneCell']) (by decide) (by simp only [maxLen]; omega) (by omega) (by simp; omega) _ rfl ?_; intro g4 c4 w4 hown4 hgrow4 hor4 _; have f1 := far_kept hgrow4 HNE.out hc hf)
  all_goals
    go_end0
    exact ⟨rfl, push_done HH.out hown4 hgrow4 hor4⟩
end Go.Proofs.YtlgdcbhdmffnoaaDoor

namespace Go.Proofs.YtlgdcbhdmffnoaaDoor
open Go Go.RowKit

set_option maxHeartbeats 1000000 in
theorem hpop_any (lo hb n : Nat) (v : Value) (l : List Nat) (w : World) (h : Hp w lo hb v l) (hl : l.length = n + 1) (hn : n ≤ 1000) :
    Calls Tryd.prog 113 #[.pointer (some ⟨hb, 0, none⟩)] w fun e w' => e = .returned (.iface 3 (.int .i64 (hAt l n : Int))) ∧ ∃ v', Hp w' lo hb v' (l.take n) ∧ v'.ownBlock = v.ownBlock ∧ Chg (fun b => b = hb) w w' := by
  have hc := h.cell
  have hf := h.free
  have HNE := Lib.hid h.ne
  have HH := Lib.hid h
  have hlen : (l.take n).length = n := by rw [List.length_take]; omega
  have h0 := h.own
  obtain ⟨g, c, rfl, hgl, hgw, hlc, hcm⟩ := h.own.form (by omega)
  have c1 := hAt_cell h.own (show n < l.length by omega)
  obtain ⟨a, ha⟩ : ∃ a, hAt l n = a := ⟨_, rfl⟩
  rw [ha] at c1 ⊢
  have hcut : Own w lo (.slice (some ⟨g, 0, none⟩) n c) (l.take n) := by
    rcases h0.2 with ⟨e, _⟩ | ⟨g', cap, cur, e, k1, k2, k3, k4, k5, k6⟩
    · cases e
    · injection e with e1 e2 e3
      injection e1 with e1
      injection e1 with e1 e4
      subst e1 e3
      refine ⟨by simp, .inr ⟨g, c, cur, by rw [hlen], k1, k2, by omega, k4, k5, ?_⟩⟩
      have k7 := congrArg (List.take n) k6
      rw [List.take_take, ← List.map_take, show min n (l.length * 1) = n by omega] at k7
      rw [hlen, Nat.mul_one]
      exact k7
  have HC := Lib.hid hcut
  rw [hl] at hc HNE
  have hn1 : ((n + 1 : Nat) : Int) - 1 = (n : Int) := by omega
  have hlc' : n + 1 ≤ c := by omega
  clear h ha hcut h0
  go_enter Tryd.func113, Tryd.ntmps113
  go_wp2
  go_ret
  have hgb : ∀ b, some g = some b → b ≠ hb := fun b e e2 => HNE.out (by
    show some g = some hb
    rw [e, e2])
  exact ⟨rfl, _, ⟨hbox_set HH.out.box, HC.out.keep fun b hb' => Below.heap_setCell w _ _ b (hgb b hb')⟩, rfl, (Chg.refl (fun b => b = hb) w).setCell (p := ⟨hb, 0, none⟩) (fun _ => rfl) _⟩

/-- The heap as an interface value. -/
def hIf (hb : Nat) : Value := .iface 95 (.pointer (some ⟨hb, 0, none⟩))
/- 248: the program's 145 types and 100. -/
theorem na_less (hb : Nat) : ∀ W : World, (nilAhead 248 95 (.pointer (some ⟨hb, 0, none⟩)) "Less").run Tryd.prog W = .ok (some false) W := fun _ => by kernel_rfl
theorem na_swap (hb : Nat) : ∀ W : World, (nilAhead 248 95 (.pointer (some ⟨hb, 0, none⟩)) "Swap").run Tryd.prog W = .ok (some false) W := fun _ => by kernel_rfl
theorem na_len (hb : Nat) : ∀ W : World, (nilAhead 248 95 (.pointer (some ⟨hb, 0, none⟩)) "Len").run Tryd.prog W = .ok (some false) W := fun _ => by kernel_rfl
theorem na_push (hb : Nat) : ∀ W : World, (nilAhead 248 95 (.pointer (some ⟨hb, 0, none⟩)) "Push").run Tryd.prog W = .ok (some false) W := fun _ => by kernel_rfl
theorem na_pop (hb : Nat) : ∀ W : World, (nilAhead 248 95 (.pointer (some ⟨hb, 0, none⟩)) "Pop").run Tryd.prog W = .ok (some false) W := fun _ => by kernel_rfl
theorem me_less (hb : Nat) : ∀ W : World, (method 248 95 (.pointer (some ⟨hb, 0, none⟩)) "Less").run Tryd.prog W = .ok (112, .pointer (some ⟨hb, 0, none⟩)) W := fun _ => by kernel_rfl
theorem me_swap (hb : Nat) : ∀ W : World, (method 248 95 (.pointer (some ⟨hb, 0, none⟩)) "Swap").run Tryd.prog W = .ok (115, .pointer (some ⟨hb, 0, none⟩)) W := fun _ => by kernel_rfl
theorem me_len (hb : Nat) : ∀ W : World, (method 248 95 (.pointer (some ⟨hb, 0, none⟩)) "Len").run Tryd.prog W = .ok (58, .pointer (some ⟨hb, 0, none⟩)) W := fun _ => by kernel_rfl
theorem me_push (hb : Nat) : ∀ W : World, (method 248 95 (.pointer (some ⟨hb, 0, none⟩)) "Push").run Tryd.prog W = .ok (114, .pointer (some ⟨hb, 0, none⟩)) W := fun _ => by kernel_rfl
theorem me_pop (hb : Nat) : ∀ W : World, (method 248 95 (.pointer (some ⟨hb, 0, none⟩)) "Pop").run Tryd.prog W = .ok (113, .pointer (some ⟨hb, 0, none⟩)) W := fun _ => by kernel_rfl
set_option maxHeartbeats 4000000 in
theorem up_any (lo hb j : Nat) (v : Value) (l : List Nat) (w : World) (h : Hp w lo hb v l) (hj : j < l.length) (hl : l.length ≤ 1000) (hu : UpTo l j) :
    Calls Tryd.prog 71 #[hIf hb, .int .i64 (j : Int)] w fun e w' => e = .returned (.tuple #[]) ∧ ∃ l', Hp w' lo hb v l' ∧ l'.Perm l ∧ IsHeap l' l'.length ∧ Chg (fun b => v.ownBlock = some b) w w' := by
  unfold hIf
  have HH := Lib.hid h
  have HU := Lib.hid hu
  have n1 := na_less hb
  have n2 := na_swap hb
  have m1 := me_less hb
  have m2 := me_swap hb
  clear h hu
  go_enter Tryd.func71, Tryd.ntmps71
  go_wp2_with fail
  go_loopw [1] (fun i wr => ∃ (k : Nat) (m : List Nat), i = .int .i64 (k : Int) ∧ Hid (k < m.length ∧ m.length = l.length) ∧ Hp wr lo hb v m ∧ m.Perm l ∧ UpTo m k ∧ Chg (fun b => v.ownBlock = some b) w wr) (fun i _ => (intOf i).toNat)
  case atStart => exact ⟨j, l, rfl, ⟨hj, rfl⟩, HH.out, List.Perm.refl _, HU.out, Chg.refl _ _⟩
  case round =>
    obtain ⟨k, m, rfl, hkm, hp, hperm, hut, hch⟩ := hrel
    have HP := Lib.hid hp
    have HPERM := Lib.hid hperm
    have HUT := Lib.hid hut
    have hk1 := hkm.out.1
    have hk2 := hkm.out.2
    clear hp hperm hut
    rcases Nat.eq_zero_or_pos k with e | e
    · subst e
      go_wp2_with fail
      go_end0
      exact ⟨rfl, m, HP.out, HPERM.out, up_done HUT.out (.inl rfl), hch⟩
    · obtain ⟨q, hq⟩ : ∃ q, (k - 1) / 2 = q := ⟨_, rfl⟩
      have hdiv : ((k : Int) - 1).tdiv 2 = (q : Int) := by
        rw [Int.tdiv_eq_ediv_of_nonneg (by omega)]
        omega
      have hne : ((q : Int) == (k : Int)) = false := by simp; omega
      have HQ := Lib.hid hq
      have hql : q < m.length := by omega
      have HL := Lib.hid (hless_any lo hb k q v m wr HP.out hk1 hql)
      by_cases hlt : hAt m k < hAt m q
      · rw [decide_eq_true hlt] at HL
        have HS := Lib.hid (hswap_any lo hb q k v m wr.drew (HP.out.keep fun _ _ => rfl) hql hk1)
        go_wp2_with (first
          | (go_at_call 112; refine HL.out.mono ?_; rintro e w1 ⟨rfl, rfl⟩)
          | (go_at_call 115; refine HS.out.mono ?_; rintro e w2 ⟨rfl, hp2, hc2⟩))
        go_roundw
        case rel => exact ⟨q, swp m q k, rfl, ⟨by rw [swp_len]; exact hql, by rw [swp_len]; exact hk2⟩, hp2, (swp_perm m hql hk1).trans HPERM.out, up_round HUT.out HQ.out (by omega) hk1 hlt, hch.drew.trans hc2 (fun _ _ h => h)⟩
        case measure => simp [intOf]; omega
      · rw [decide_eq_false hlt] at HL
        go_wp2_with (go_at_call 112; refine HL.out.mono ?_; rintro e w1 ⟨rfl, rfl⟩)
        go_end0
        exact ⟨rfl, m, HP.out.keep fun _ _ => rfl, HPERM.out, up_done HUT.out (.inr (by rw [HQ.out]; omega)), hch.drew⟩
end Go.Proofs.YtlgdcbhdmffnoaaDoor

namespace Go.Proofs.YtlgdcbhdmffnoaaDoor
open Go Go.RowKit

set_option maxHeartbeats 4000000 in
theorem hdown_any (lo hb n : Nat) (v : Value) (l : List Nat) (w : World) (h : Hp w lo hb v l) (hnl : n ≤ l.length) (hl : l.length ≤ 1000) (hd : DownTo l 0 n) :
    Calls Tryd.prog 72 #[hIf hb, .int .i64 0, .int .i64 (n : Int)] w fun e w' => ∃ b, e = .returned (.bool b) ∧ ∃ l', Hp w' lo hb v l' ∧ l'.Perm l ∧ IsHeap l' n ∧ (∀ x, n ≤ x → hAt l' x = hAt l x) ∧ Chg (fun b => v.ownBlock = some b) w w' := by
  unfold hIf
  have HH := Lib.hid h
  have HU := Lib.hid hd
  have n1 := na_less hb
  have n2 := na_swap hb
  have m1 := me_less hb
  have m2 := me_swap hb
  clear h hd
  go_enter Tryd.func72, Tryd.ntmps72
  go_wp2_with fail
  go_loopw [7] (fun i wr => ∃ (k : Nat) (m : List Nat), i = .int .i64 (k : Int) ∧ Hid (k ≤ n ∧ m.length = l.length) ∧ Hp wr lo hb v m ∧ m.Perm l ∧ (∀ x, n ≤ x → hAt m x = hAt l x) ∧ DownTo m k n ∧ Chg (fun b => v.ownBlock = some b) w wr) (fun i _ => n - (intOf i).toNat)
  case atStart => exact ⟨0, l, rfl, ⟨Nat.zero_le _, rfl⟩, HH.out, List.Perm.refl _, fun _ _ => rfl, HU.out, Chg.refl _ _⟩
  case round =>
    obtain ⟨k, m, rfl, hkm, hp, hperm, hkeep, hdt, hch⟩ := hrel
    have HP := Lib.hid hp
    have HPERM := Lib.hid hperm
    have HD := Lib.hid hdt
    have HKEEP := Lib.hid hkeep
    have HCH := Lib.hid hch
    have hkn := hkm.out.1
    have hml := hkm.out.2
    clear hp hperm hdt hkeep hch
    obtain ⟨a, ha⟩ : ∃ a, 2 * k + 1 = a := ⟨_, rfl⟩
    obtain ⟨b, hb'⟩ : ∃ b, a + 1 = b := ⟨_, rfl⟩
    have hja : 2 * (k : Int) + 1 = (a : Int) := by omega
    have hjb : (a : Int) + 1 = (b : Int) := by omega
    rcases Nat.lt_or_ge a n with han | han
    · rcases Nat.lt_or_ge b n with hbn | hbn
      · have HL1 := Lib.hid (hless_any lo hb b a v m wr HP.out (by omega) (by omega))
        by_cases hba : hAt m b < hAt m a
        · rw [decide_eq_true hba] at HL1
          have HMIN := Lib.hid (show ∀ x, x = 2 * k + 1 ∨ x = 2 * k + 2 → x < n → hAt m b ≤ hAt m x from fun x hx _ => by
            rcases hx with rfl | rfl
            · rw [ha]; omega
            · rw [show 2 * k + 2 = b by omega]; exact Nat.le_refl _)
          have HL2 := Lib.hid (hless_any lo hb b k v m wr.drew (HP.out.keep fun _ _ => rfl) (by omega) (by omega))
          have HS := Lib.hid (hswap_any lo hb k b v m wr.drew.drew (HP.out.keep fun _ _ => rfl) (by omega) (by omega))
          by_cases hlt : hAt m b < hAt m k
          · rw [decide_eq_true hlt] at HL2
            go_wp2_with (first
              | (go_at_call 112; refine HL1.out.mono ?_; rintro e w0 ⟨rfl, rfl⟩; clear HL1)
              | (go_at_call 112; refine HL2.out.mono ?_; rintro e w1 ⟨rfl, rfl⟩)
              | (go_at_call 115; refine HS.out.mono ?_; rintro e w2 ⟨rfl, hp2, hc2⟩))
            go_roundw
            case rel => exact ⟨b, swp m k b, rfl, ⟨by omega, by rw [swp_len]; exact hml⟩, hp2, (swp_perm m (by omega) (by omega)).trans HPERM.out, fun x hx => by rw [hAt_swp m x (by omega) (by omega), if_neg (by omega), if_neg (by omega)]; exact HKEEP.out x hx, down_round HD.out (by omega) (by omega) (.inr (by omega)) hlt HMIN.out, HCH.out.drew.drew.trans hc2 (fun _ _ h => h)⟩
            case measure => simp [intOf]; omega
          · rw [decide_eq_false hlt] at HL2
            go_wp2_with (first
              | (go_at_call 112; refine HL1.out.mono ?_; rintro e w0 ⟨rfl, rfl⟩; clear HL1)
              | (go_at_call 112; refine HL2.out.mono ?_; rintro e w1 ⟨rfl, rfl⟩))
            go_ret
            exact ⟨_, rfl, m, HP.out.keep fun _ _ => rfl, HPERM.out, down_done HD.out (fun x hx hxn => by have := HMIN.out x hx hxn; omega), HKEEP.out, HCH.out.drew.drew⟩
        · rw [decide_eq_false hba] at HL1
          have HMIN := Lib.hid (show ∀ x, x = 2 * k + 1 ∨ x = 2 * k + 2 → x < n → hAt m a ≤ hAt m x from fun x hx _ => by
            rcases hx with rfl | rfl
            · rw [ha]; exact Nat.le_refl _
            · rw [show 2 * k + 2 = b by omega]; omega)
          have HL2 := Lib.hid (hless_any lo hb a k v m wr.drew (HP.out.keep fun _ _ => rfl) (by omega) (by omega))
          have HS := Lib.hid (hswap_any lo hb k a v m wr.drew.drew (HP.out.keep fun _ _ => rfl) (by omega) (by omega))
          by_cases hlt : hAt m a < hAt m k
          · rw [decide_eq_true hlt] at HL2
            go_wp2_with (first
              | (go_at_call 112; refine HL1.out.mono ?_; rintro e w0 ⟨rfl, rfl⟩; clear HL1)
              | (go_at_call 112; refine HL2.out.mono ?_; rintro e w1 ⟨rfl, rfl⟩)
              | (go_at_call 115; refine HS.out.mono ?_; rintro e w2 ⟨rfl, hp2, hc2⟩))
            go_roundw
            case rel => exact ⟨a, swp m k a, rfl, ⟨by omega, by rw [swp_len]; exact hml⟩, hp2, (swp_perm m (by omega) (by omega)).trans HPERM.out, fun x hx => by rw [hAt_swp m x (by omega) (by omega), if_neg (by omega), if_neg (by omega)]; exact HKEEP.out x hx, down_round HD.out (by omega) (by omega) (.inl (by omega)) hlt HMIN.out, HCH.out.drew.drew.trans hc2 (fun _ _ h => h)⟩
            case measure => simp [intOf]; omega
          · rw [decide_eq_false hlt] at HL2
            go_wp2_with (first
              | (go_at_call 112; refine HL1.out.mono ?_; rintro e w0 ⟨rfl, rfl⟩; clear HL1)
              | (go_at_call 112; refine HL2.out.mono ?_; rintro e w1 ⟨rfl, rfl⟩))
            go_ret
            exact ⟨_, rfl, m, HP.out.keep fun _ _ => rfl, HPERM.out, down_done HD.out (fun x hx hxn => by have := HMIN.out x hx hxn; omega), HKEEP.out, HCH.out.drew.drew⟩
      · have HMIN := Lib.hid (show ∀ x, x = 2 * k + 1 ∨ x = 2 * k + 2 → x < n → hAt m a ≤ hAt m x from fun x hx hxn => by
          rcases hx with rfl | rfl
          · rw [ha]; exact Nat.le_refl _
          · omega)
        have HL2 := Lib.hid (hless_any lo hb a k v m wr (HP.out.keep fun _ _ => rfl) (by omega) (by omega))
        have HS := Lib.hid (hswap_any lo hb k a v m wr.drew (HP.out.keep fun _ _ => rfl) (by omega) (by omega))
        by_cases hlt : hAt m a < hAt m k
        · rw [decide_eq_true hlt] at HL2
          go_wp2_with (first
            | (go_at_call 112; refine HL2.out.mono ?_; rintro e w1 ⟨rfl, rfl⟩)
            | (go_at_call 115; refine HS.out.mono ?_; rintro e w2 ⟨rfl, hp2, hc2⟩))
          go_roundw
          case rel => exact ⟨a, swp m k a, rfl, ⟨by omega, by rw [swp_len]; exact hml⟩, hp2, (swp_perm m (by omega) (by omega)).trans HPERM.out, fun x hx => by rw [hAt_swp m x (by omega) (by omega), if_neg (by omega), if_neg (by omega)]; exact HKEEP.out x hx, down_round HD.out (by omega) (by omega) (.inl (by omega)) hlt HMIN.out, HCH.out.drew.trans hc2 (fun _ _ h => h)⟩
          case measure => simp [intOf]; omega
        · rw [decide_eq_false hlt] at HL2
          go_wp2_with (first
            | (go_at_call 112; refine HL2.out.mono ?_; rintro e w1 ⟨rfl, rfl⟩))
          go_ret
          exact ⟨_, rfl, m, HP.out.keep fun _ _ => rfl, HPERM.out, down_done HD.out (fun x hx hxn => by have := HMIN.out x hx hxn; omega), HKEEP.out, HCH.out.drew⟩
    · go_wp2_with fail
      go_ret
      exact ⟨_, rfl, m, HP.out, HPERM.out, down_done HD.out (fun x hx hxn => by omega), HKEEP.out, HCH.out⟩
end Go.Proofs.YtlgdcbhdmffnoaaDoor

namespace Go.Proofs.YtlgdcbhdmffnoaaDoor
open Go Go.RowKit

set_option maxHeartbeats 4000000 in
theorem heapPush_any (lo hb n : Nat) (v : Value) (l : List Nat) (w : World) (h : Hp w lo hb v l) (hh : IsHeap l l.length) (hl : l.length ≤ 900) (hlo : lo ≤ w.heap.size) :
    Calls Tryd.prog 57 #[hIf hb, .iface 3 (.int .i64 (n : Int))] w fun e w' => e = .returned (.tuple #[]) ∧ ∃ v' l', Hp w' lo hb v' l' ∧ l'.Perm (l ++ [n]) ∧ IsHeap l' l'.length ∧ (∀ b, v'.ownBlock = some b → v.ownBlock = some b ∨ w.heap.size ≤ b) ∧ Chg (fun b => b = hb ∨ v.ownBlock = some b) w w' := by
  have HPU := Lib.hid (hpush_any lo hb n v l w h (by omega) hlo)
  have HH := Lib.hid hh
  have n1 := na_push hb
  have n2 := na_len hb
  have m1 := me_push hb
  have m2 := me_len hb
  have hjl : (l.length : Int) + 1 - 1 = (l.length : Int) := by omega
  unfold hIf
  clear h hh
  go_enter Tryd.func57, Tryd.ntmps57
  go_wp2_with (first
    | (go_at_call 114
       refine HPU.out.mono ?_
       rintro e w1 ⟨rfl, v1, hp1, hb1, hc1⟩
       have HLE := Lib.hid (hlen_any lo hb v1 _ w1 hp1)
       rw [show (((l ++ [n]).length : Nat) : Int) = (l.length : Int) + 1 by simp] at HLE
       have HUP := Lib.hid (up_any lo hb l.length v1 (l ++ [n]) w1 hp1 (by simp) (by simp; omega) (up_start l n HH.out))
       unfold hIf at HUP
       have HB1 := Lib.hid hb1
       have HC1 := Lib.hid hc1
       clear hp1 hb1 hc1)
    | (go_at_call 58
       refine HLE.out.mono ?_
       rintro e w2 ⟨rfl, rfl⟩)
    | (go_at_call 71
       refine HUP.out.mono ?_
       rintro e w3 ⟨rfl, l', hp3, hq3, hh3, hc3⟩
       have HP3 := Lib.hid hp3
       have HQ3 := Lib.hid hq3
       have HH3 := Lib.hid hh3
       have HC3 := Lib.hid hc3
       clear hp3 hq3 hh3 hc3))
  go_end0
  exact ⟨rfl, v1, l', HP3.out, HQ3.out, HH3.out, HB1.out, HC1.out.trans HC3.out fun x hx hxv => .inr (by
    rcases HB1.out x hxv with e | e
    · exact e
    · omega)⟩
set_option maxHeartbeats 4000000 in
theorem heapPop_any (lo hb n : Nat) (v : Value) (l : List Nat) (w : World) (h : Hp w lo hb v l) (hh : IsHeap l l.length) (hl : l.length = n + 1) (hn : n ≤ 900) :
    Calls Tryd.prog 59 #[hIf hb] w fun e w' => e = .returned (.iface 3 (.int .i64 (hAt l 0 : Int))) ∧ ∃ v' l', Hp w' lo hb v' l' ∧ (hAt l 0 :: l').Perm l ∧ IsHeap l' l'.length ∧ v'.ownBlock = v.ownBlock ∧ Chg (fun b => b = hb ∨ v.ownBlock = some b) w w' := by
  have HLE := Lib.hid (hlen_any lo hb v l w h)
  rw [hl, show (((n + 1 : Nat)) : Int) = (n : Int) + 1 by simp] at HLE
  have HSW := Lib.hid (hswap_any lo hb 0 n v l w h (by omega) (by omega))
  have HH := Lib.hid hh
  have n1 := na_pop hb
  have n2 := na_len hb
  have n3 := na_swap hb
  have m1 := me_pop hb
  have m2 := me_len hb
  have m3 := me_swap hb
  have hjl : (n : Int) + 1 - 1 = (n : Int) := by omega
  unfold hIf
  clear h hh
  go_enter Tryd.func59, Tryd.ntmps59
  go_wp2_with (first
    | (go_at_call 58
       refine HLE.out.mono ?_
       rintro e w2 ⟨rfl, rfl⟩)
    | (go_at_call 115
       refine HSW.out.mono ?_
       rintro e w3 ⟨rfl, hp3, hc3⟩
       have HDO := Lib.hid (hdown_any lo hb n v (swp l 0 n) w3 hp3 (by rw [swp_len]; omega) (by rw [swp_len]; omega) (down_start HH.out hl))
       unfold hIf at HDO
       have HC3 := Lib.hid hc3
       clear hp3 hc3)
    | (go_at_call 72
       refine HDO.out.mono ?_
       rintro e w4 ⟨b4, rfl, l4, hp4, hq4, hh4, hk4, hc4⟩
       have hl4 : l4.length = n + 1 := by rw [hq4.length_eq, swp_len]; exact hl
       have hr4 : hAt l4 n = hAt l 0 := by rw [hk4 n (Nat.le_refl _), hAt_swp l n (by omega) (by omega), if_pos rfl]
       have HPO := Lib.hid (hpop_any lo hb n v l4 w4 hp4 hl4 (by omega))
       rw [hr4] at HPO
       have HQ4 := Lib.hid hq4
       have HH4 := Lib.hid hh4
       have HR4 := Lib.hid hr4
       have HC4 := Lib.hid hc4
       clear hp4 hq4 hh4 hk4 hc4 hr4)
    | (go_at_call 113
       refine HPO.out.mono ?_
       rintro e w5 ⟨rfl, v5, hp5, hv5, hc5⟩
       have HP5 := Lib.hid hp5
       have HC5 := Lib.hid hc5
       clear hp5 hc5))
  go_ret
  refine ⟨rfl, v5, _, HP5.out, ?_, heap_take HH4.out (by omega), hv5, ((HC3.out.mono (fun _ _ h => .inr h)).trans HC4.out (fun _ _ h => .inr h)).trans HC5.out (fun _ _ h => .inl h)⟩
  have h1 := last_take hl4
  rw [HR4.out] at h1
  have h2 : (hAt l 0 :: l4.take n).Perm l4 := by
    conv => rhs; rw [h1]
    exact (List.perm_append_singleton _ _).symm
  exact h2.trans (HQ4.out.trans (swp_perm l (by omega) (by omega)))
end Go.Proofs.YtlgdcbhdmffnoaaDoor
