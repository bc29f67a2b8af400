/-
  Facts of the program's types, the laws of make at them, small functions. No condition.
  The contract of successors: the sorted rows of the edges' ends. Condition: the edges' ends are vertices; what Sort and Compact do at own rows is taken from their contracts.
  The contract of math/bits.TrailingZeros64 for small numbers. Conditions: the number is positive and less than 1024; the library's table lies as its text lays it.
  The contracts of groupsOf and verticesFrom for few vertices: one group, one word. Condition: the vertices are less than 10.
  The contract of verticesFrom for few vertices: one word. Condition: there are 1 to 10 vertices.
  The contract of appendTaken for few vertices: the bits that are taken from one word, in order. Conditions: words of at most 10 bits; the library's table lies as its text lays it.
-/
import Derived.Test.YtdebnnigbbjbcaaDoorK2
import Derived.Test.YtdebnnigbbjbcaaDoorK3
import Derived.Deep.RegionHeld3
import Derived.Deep.RegionLaw
import Derived.Deep.AppendLies
import Derived.Laws.MakeOwn
import Derived.Lib.SliceRun
import Derived.RegionTactic
import Derived.Laws.BitsAllLaws
import Derived.IntWalk

namespace Go.Proofs.YtdebnnigbbjbcaaDoor
open Go Go.RowKit

theorem info_int : (Tryd.prog.info? 3).map (fun i => (i.zero, i.size, i.bytes)) = some (some (.int .i64 0), 1, 8) := by kernel_rfl
theorem info_ints : (Tryd.prog.info? 22).map (fun i => (i.zero, i.size, i.bytes)) = some (some (.slice none 0 0), 1, 24) := by kernel_rfl
theorem made_one (z : Value) (n : Nat) (h : z.cells = #[z]) : madeCells z.cells n = Array.replicate n z := by
  apply Array.ext
  · simp [size_madeCells]
  · intro i h1 h2
    simp [madeCells, h, Nat.mod_one]
theorem run_make_rowN {P : Program} (t e : TypeId) (i : TypeInfo) (z : Value) (ht : P.underlying t = some (.slice e)) (hi : P.info? e = some i) (hz : i.zero = some z)
    (kl kc : IntKind) (n c : Nat) (hnc : n ≤ c) (hbytes : i.bytes * c ≤ 281474976710656) (h63 : c ≤ 9223372036854775807) (w : World) :
    (Instr.makeSlice t (.int kl (n : Int)) (.int kc (c : Int))).run P w = .ok (.slice (some ⟨w.heap.size, 0, none⟩) n c) (w.alloc (.cells (madeCells z.cells (c * i.size)) e)) := by
  have hb : (i.bytes : Int) * (c : Int) ≤ 281474976710656 := by
    have h : ((i.bytes * c : Nat) : Int) ≤ 281474976710656 := by omega
    rwa [Int.natCast_mul] at h
  have hr := run_make (P := P) w t e i z ht hi hz kl kc n c (by omega) (by omega) hb (by omega)
  simp only [Int.toNat_natCast] at hr
  exact hr
/-- make([][]int, n). -/
theorem make_ints2 (n : Nat) (hn : n ≤ 100000) : ∀ W : World, (Instr.makeSlice 37 (.int .i64 (n : Int)) (.int .i64 (n : Int))).run Tryd.prog W = .ok (.slice (some ⟨W.heap.size, 0, none⟩) n n) (W.alloc (.cells (Array.replicate n (.slice none 0 0)) 22)) := by
  obtain ⟨i, hi, hz, h1, h2⟩ := info_parts info_ints
  intro W
  have h := run_make_rowN 37 22 i _ Tryd.underlying37 hi hz .i64 .i64 n n (Nat.le_refl _) (by rw [h2]; omega) (by omega) W
  rw [h1, Nat.mul_one, made_one _ _ rfl] at h
  exact h
/-- make([]int, n, c). -/
theorem make_ints (n c : Nat) (hn : n ≤ c) (hc : c ≤ 100000) : ∀ W : World, (Instr.makeSlice 22 (.int .i64 (n : Int)) (.int .i64 (c : Int))).run Tryd.prog W = .ok (.slice (some ⟨W.heap.size, 0, none⟩) n c) (W.alloc (.cells (Array.replicate c (.int .i64 0)) 3)) := by
  obtain ⟨i, hi, hz, h1, h2⟩ := info_parts info_int
  intro W
  have h := run_make_rowN 22 3 i _ Tryd.underlying22 hi hz .i64 .i64 n c hn (by rw [h2]; omega) (by omega) W
  rw [h1, Nat.mul_one, made_one _ _ rfl] at h
  exact h
theorem own_made (W : World) (base c n : Nat) (hn : n ≤ c) (hc : c ≤ 100000) (hb : base ≤ W.heap.size) : Own (W.alloc (.cells (Array.replicate c (.int .i64 0)) 3)) base (.slice (some ⟨W.heap.size, 0, none⟩) n c) (List.replicate n 0) := by
  refine ⟨by simp, .inr ⟨_, c, _, by simp, hb, World.alloc_heap_new W _, by simpa using hn, by simp [maxLen]; omega, by simp, ?_⟩⟩
  simp [List.take_replicate, Nat.min_eq_left hn, nv]
theorem isVertex_any (n v : Int) (w : World) : Calls Tryd.prog 36 #[.int .i64 n, .int .i64 v] w fun e w' => e = .returned (.bool (decide (0 ≤ v ∧ v < n))) ∧ w = w' := by
  obtain ⟨b, hb⟩ : ∃ b, decide (0 ≤ v ∧ v < n) = b := ⟨_, rfl⟩
  rw [hb]
  by_cases h0 : 0 ≤ v
  · by_cases h1 : v < n
    · have hb2 : true = b := by rw [← hb, decide_eq_true (show 0 ≤ v ∧ v < n from ⟨h0, h1⟩)]
      clear hb
      subst hb2
      go_enter Tryd.func36, Tryd.ntmps36
      go_wp2
      go_ret
      exact ⟨rfl, rfl⟩
    · have hb2 : false = b := by rw [← hb, decide_eq_false (show ¬ (0 ≤ v ∧ v < n) from fun h => h1 h.2)]
      clear hb
      subst hb2
      go_enter Tryd.func36, Tryd.ntmps36
      go_wp2
      go_ret
      exact ⟨rfl, rfl⟩
  · have hb2 : false = b := by rw [← hb, decide_eq_false (show ¬ (0 ≤ v ∧ v < n) from fun h => h0 h.1)]
    clear hb
    subst hb2
    go_enter Tryd.func36, Tryd.ntmps36
    go_wp2
    go_ret
    exact ⟨rfl, rfl⟩
theorem isVertex_yes (n v : Int) (w : World) (h0 : 0 ≤ v) (h1 : v < n) : Calls Tryd.prog 36 #[.int .i64 n, .int .i64 v] w fun e w' => e = .returned (.bool true) ∧ w = w' :=
  (isVertex_any n v w).mono fun _ _ ⟨e, h⟩ => ⟨by rw [e, decide_eq_true ⟨h0, h1⟩], h⟩
end Go.Proofs.YtdebnnigbbjbcaaDoor

namespace Go.Proofs.YtdebnnigbbjbcaaDoor
open Go Go.RowKit

def appRow (E : List (Nat × Nat)) (v : Nat) : List Nat := (E.filter fun e => decide (e.1 = v)).map (·.2)
def appRows (n : Nat) (E : List (Nat × Nat)) : List (List Nat) := (List.range n).map (appRow E)
theorem appRows_len (n : Nat) (E : List (Nat × Nat)) : (appRows n E).length = n := by simp [appRows]
theorem appRows_at (n : Nat) (E : List (Nat × Nat)) {v : Nat} (h : v < n) : (appRows n E)[v]? = some (appRow E v) := by simp [appRows, h]
theorem appRow_len (E : List (Nat × Nat)) (v : Nat) : (appRow E v).length ≤ E.length := by
  unfold appRow
  rw [List.length_map]
  exact List.length_filter_le _ _
theorem appRows_nil (n : Nat) : appRows n [] = List.replicate n [] := by
  unfold appRows appRow
  apply List.ext_getElem?
  intro i
  by_cases h : i < n
  · simp [h]
  · simp [h]
theorem appRow_snoc (E : List (Nat × Nat)) (x y v : Nat) : appRow (E ++ [(x, y)]) v = if x = v then appRow E v ++ [y] else appRow E v := by
  unfold appRow
  rw [List.filter_append, List.map_append]
  by_cases h : x = v <;> simp [h]
theorem appRows_snoc (n : Nat) (E : List (Nat × Nat)) (x y : Nat) : appRows n (E ++ [(x, y)]) = (appRows n E).set x (appRow E x ++ [y]) := by
  apply List.ext_getElem?
  intro i
  by_cases hi : i < n
  · rw [appRows_at n _ hi, appRow_snoc]
    by_cases h : x = i
    · subst h
      rw [List.getElem?_set_self (by rw [appRows_len]; exact hi), if_pos rfl]
    · rw [List.getElem?_set_ne h, appRows_at n _ hi, if_neg h]
  · rw [List.getElem?_eq_none (by rw [appRows_len]; omega), List.getElem?_eq_none (by rw [List.length_set, appRows_len]; omega)]
theorem take_snoc' {α : Type} {l : List α} {k : Nat} {x : α} (h : l[k]? = some x) : l.take (k + 1) = l.take k ++ [x] := by
  rw [List.take_add_one, h]
  rfl
theorem appRow_mem (E : List (Nat × Nat)) (v w : Nat) : w ∈ appRow E v ↔ (v, w) ∈ E := by
  unfold appRow
  simp only [List.mem_map, List.mem_filter, decide_eq_true_eq]
  constructor
  · rintro ⟨⟨a, b⟩, ⟨h1, h2⟩, h3⟩
    simp only at h2 h3
    subst h2 h3
    exact h1
  · exact fun h => ⟨(v, w), ⟨h, rfl⟩, rfl⟩

/-- What lies in a cell. -/
def valOf (p : Addr) (W : World) : Value := (W.cell? p).getD undef
theorem valOf_eq {p : Addr} {W : World} {v : Value} (h : W.cell? p = some v) : valOf p W = v := by
  unfold valOf
  rw [h]
  rfl
theorem valOf_cell {p : Addr} {W : World} {v : Value} (h : W.cell? p = some v) : W.cell? p = some (valOf p W) := by rw [valOf_eq h, h]

/-- The first loop's memory. -/
def S1 (n : Nat) (E : List (Nat × Nat)) (g : Nat) (w wr : World) (k : Nat) : Prop :=
  ∃ cs, Rows2 wr w.heap.size wr.heap.size g cs (appRows n (E.take k)) ∧ Below w.heap.size w wr
theorem S1.start (n : Nat) (E : List (Nat × Nat)) (w : World) : S1 n E w.heap.size w (w.alloc (.cells (Array.replicate n (.slice none 0 0)) 22)) 0 := by
  have hx : ∀ (i : Nat) (l : List Nat), (appRows n (E.take 0))[i]? = some l → l = [] := fun i l h => by
    rw [List.take_zero, appRows_nil, List.getElem?_replicate] at h
    split at h
    · injection h with h; exact h.symm
    · cases h
  have hc : ∀ (i : Nat) (v : Value), (Array.replicate n (Value.slice none 0 0))[i]? = some v → v = .slice none 0 0 := fun i v h => by
    rw [Array.getElem?_replicate] at h
    split at h
    · injection h with h; exact h.symm
    · cases h
  refine ⟨_, ⟨by simp [appRows_len], World.alloc_heap_new w _, ⟨Nat.le_refl _, by simp⟩, fun i v l hv hl => ?_, fun i v b hv hb => ?_, fun i j v v' b _ hv _ hb _ => ?_⟩, (Below.refl _ _).alloc (Nat.le_refl _) _⟩
  · rw [hc i v hv, hx i l hl]
    exact Own.nil _ _
  · rw [hc i v hv] at hb
    cases hb
  · rw [hc i v hv] at hb
    cases hb

theorem S1.step {n k x y g : Nat} {E : List (Nat × Nat)} {w wr wx w1 : World} {cs : Array Value} {v v' : Value} {l : List Nat} {o o' : Obj} (hR : Rows2 wr w.heap.size wr.heap.size g cs (appRows n (E.take k))) (hB : Below w.heap.size w wr)
    (hk : E[k]? = some (x, y)) (hv : cs[x]? = some v) (ho : Own wr w.heap.size v l) (hl : Hid (appRow (E.take k) x = l)) (hwx : Hid (wx = wr.alloc o)) (hg : (wx.alloc o').drew.grownBy w1 v.ownBlock)
    (hown : w1.ownsRow w.heap.size 3 1 v' (l.length + 1) (l.map nv ++ [nv y])) (hv' : ∃ b, v'.ownBlock = some b ∧ (v.ownBlock = some b ∨ b = wx.heap.size + 1) ∧ b < w1.heap.size) :
    S1 n E g w (w1.setCell ⟨g, x, none⟩ v') (k + 1) := by
  have hl := hl.out
  have hwx := hwx.out
  have hsz := hB.size
  have hwz : wx.heap.size = wr.heap.size + 1 := by rw [hwx]; simp
  have h1 : ∀ b, b < wr.heap.size → v.ownBlock ≠ some b → w1.heap[b]? = wr.heap[b]? := fun b hb hne => by
    rw [hg.block b (by simp; omega) (Ne.symm hne)]
    show (wx.alloc o').heap[b]? = _
    rw [Below.heap_alloc _ _ _ (by omega), hwx, Below.heap_alloc _ _ _ hb]
  have hgs := hg.size
  simp at hgs
  have hgin := hR.gin
  have hw1 : w.heap.size ≤ w1.heap.size := by omega
  obtain ⟨b0, hb0, hb1, hb2⟩ := hv'
  have hstep := hR.upd (hi' := w1.heap.size) hv (by omega) (fun b _ hb hne => h1 b hb hne) (v' := v') (l := l ++ [y]) (by
      show w1.ownsRow _ _ _ _ _ _
      rw [List.length_append, List.map_append]
      exact hown) (fun b hb => by
      rw [hb0] at hb
      injection hb with hb
      subst hb
      rcases hb1 with h | h
      · exact .inl h
      · exact .inr (by omega)) (fun b hb => by
      rw [hb0] at hb
      injection hb with hb
      omega)
  refine ⟨cs.setIfInBounds x v', ?_, ?_⟩
  · rw [take_snoc' hk, appRows_snoc, hl]
    have e : (w1.setCell ⟨g, x, none⟩ v').heap.size = w1.heap.size := by simp [World.setCell]
    rw [e]
    exact hstep
  · refine (Below.trans hB ⟨hg.os.trans (by rw [hwx]; rfl), hg.tape.trans (by rw [hwx]; rfl), hg.output.trans (by rw [hwx]; rfl), by omega, fun b hb => h1 b (by omega) (fun e => ?_)⟩).setCell (p := ⟨g, x, none⟩) hgin.1 _
    have := ho.lt b e
    omega

/-- What the contracts of Sort and Compact say of a row of the call's own. -/
def SortOwn : Prop := ∀ (base : Nat) (v : Value) (zs : List Int) (W : World), OwnI W base v zs → zs.length ≤ 100000 →
  Calls Tryd.prog 37 #[v] W fun e W' => e = .returned (.tuple #[]) ∧ OwnI W' base v (zs.mergeSort fun x y => decide (x ≤ y)) ∧ W.grownBy W' v.ownBlock
def CompactOwn : Prop := ∀ (base : Nat) (v : Value) (zs : List Int) (W : World), OwnI W base v zs → zs.length ≤ 100000 →
  Calls Tryd.prog 45 #[v] W fun e W' => ∃ v', e = .returned v' ∧ OwnI W' base v' (Lib.compact zs) ∧ W.grownBy W' v.ownBlock ∧ ∀ b, v'.ownBlock = some b → v.ownBlock = some b
/-- The second loop's memory. -/
def sRows (n : Nat) (E : List (Nat × Nat)) (k : Nat) : List (List Nat) := (List.range n).map fun v => if v < k then succRow n E v else appRow E v
theorem sRows_len (n : Nat) (E : List (Nat × Nat)) (k : Nat) : (sRows n E k).length = n := by simp [sRows]
theorem sRows_at (n : Nat) (E : List (Nat × Nat)) (k : Nat) {v : Nat} (h : v < n) : (sRows n E k)[v]? = some (if v < k then succRow n E v else appRow E v) := by simp [sRows, h]
theorem sRows_zero (n : Nat) (E : List (Nat × Nat)) : sRows n E 0 = appRows n E := by simp [sRows, appRows]
theorem sRows_all (n : Nat) (E : List (Nat × Nat)) : sRows n E n = succs n E := by
  unfold sRows succs
  exact List.map_congr_left fun v hv => if_pos (List.mem_range.1 hv)
theorem sRows_succ (n : Nat) (E : List (Nat × Nat)) (k : Nat) : sRows n E (k + 1) = (sRows n E k).set k (succRow n E k) := by
  apply List.ext_getElem?
  intro i
  by_cases hi : i < n
  · rw [sRows_at n _ _ hi]
    by_cases h : k = i
    · subst h
      rw [List.getElem?_set_self (by rw [sRows_len]; exact hi), if_pos (by omega)]
    · rw [List.getElem?_set_ne h, sRows_at n _ _ hi]
      by_cases h2 : i < k
      · rw [if_pos h2, if_pos (by omega)]
      · rw [if_neg h2, if_neg (by omega)]
  · rw [List.getElem?_eq_none (by rw [sRows_len]; omega), List.getElem?_eq_none (by rw [List.length_set, sRows_len]; omega)]
def S2 (n : Nat) (E : List (Nat × Nat)) (g : Nat) (w wr : World) (k : Nat) : Prop :=
  ∃ cs, Rows2 wr w.heap.size wr.heap.size g cs (sRows n E k) ∧ Below w.heap.size w wr
theorem succRow_int (n : Nat) (E : List (Nat × Nat)) (hd : ∀ e ∈ E, e.1 < n ∧ e.2 < n) (v : Nat) :
    Lib.compact (((appRow E v).map fun n : Nat => (n : Int)).mergeSort fun x y => decide (x ≤ y)) = (succRow n E v).map fun n : Nat => (n : Int) := by
  refine compact_sort _ _ ?_ fun x => ?_
  · rw [List.pairwise_map]
    exact (filter_sorted _ (range_sorted n)).imp (by intro a b h; omega)
  · simp only [List.mem_map, appRow_mem]
    unfold succRow
    simp only [List.mem_filter, List.mem_range, decide_eq_true_eq]
    constructor
    · rintro ⟨a, ⟨_, h⟩, e⟩
      exact ⟨a, h, e⟩
    · rintro ⟨a, h, e⟩
      exact ⟨a, ⟨(hd _ h).2, h⟩, e⟩
theorem S2.step {n k g : Nat} {E : List (Nat × Nat)} {w wr w1 w2 : World} {cs : Array Value} {v v' : Value} (hd : ∀ e ∈ E, e.1 < n ∧ e.2 < n) (hkn : k < n) (hR : Rows2 wr w.heap.size wr.heap.size g cs (sRows n E k)) (hB : Below w.heap.size w wr)
    (hv : cs[k]? = some v) (h1 : wr.grownBy w1 v.ownBlock) (h2 : w1.grownBy w2 v.ownBlock) (ho : OwnI w2 w.heap.size v' (Lib.compact (((appRow E k).map fun n : Nat => (n : Int)).mergeSort fun x y => decide (x ≤ y)))) (hb : ∀ b, v'.ownBlock = some b → v.ownBlock = some b) :
    S2 n E g w (w2.setCell ⟨g, k, none⟩ v') (k + 1) := by
  rw [succRow_int n E hd] at ho
  have ho := own_iff.2 ho
  have hs1 := h1.size
  have hs2 := h2.size
  have hgin := hR.gin
  have hov := hR.row k v _ hv (sRows_at n E k hkn)
  have hk : ∀ b, b < wr.heap.size → v.ownBlock ≠ some b → w2.heap[b]? = wr.heap[b]? := fun b hb hne => (h2.block b (by omega) (Ne.symm hne)).trans (h1.block b hb (Ne.symm hne))
  have hstep := hR.upd (hi' := w2.heap.size) hv (by omega) (fun b _ hb hne => hk b hb hne) ho (fun b hb' => .inl (hb b hb')) (fun b hb' => (ho.lt b hb').2)
  refine ⟨cs.setIfInBounds k v', ?_, ?_⟩
  · rw [sRows_succ n E k]
    have e : (w2.setCell ⟨g, k, none⟩ v').heap.size = w2.heap.size := by simp [World.setCell]
    rw [e]
    exact hstep
  · refine (Below.trans hB ⟨h2.os.trans h1.os, h2.tape.trans h1.tape, h2.output.trans h1.output, by omega, fun b hb => hk b (by have := hB.size; omega) (fun e => ?_)⟩).setCell (p := ⟨g, k, none⟩) hgin.1 _
    have := hov.lt b e
    omega

set_option maxRecDepth 100000 in
set_option maxHeartbeats 2000000 in
theorem successors_any (HS : SortOwn) (HC : CompactOwn) (n m c : Nat) (A : Option Addr) (E : List (Nat × Nat)) (w : World) (hn : n ≤ 1000) (hm : m ≤ 1000) (hE : Edg w w.heap.size A m E) (hd : ∀ e ∈ E, e.1 < n ∧ e.2 < n) :
    Calls Tryd.prog 29 #[.int .i64 n, .slice A m c] w fun e w' => ∃ g cs, e = .returned (.slice (some ⟨g, 0, none⟩) n n) ∧ Rows2 w' w.heap.size w'.heap.size g cs (succs n E) ∧ Below w.heap.size w w' := by
  have hmk := make_ints2 n (by omega)
  obtain ⟨i0, hi0, hz0, hz1, hz2⟩ := info_parts info_int
  have hlen := Lib.hid hE.1
  have hst := S1.start n E w
  obtain ⟨w1, hw1⟩ : ∃ W, W = w.alloc (.cells (Array.replicate n (.slice none 0 0)) 22) := ⟨_, rfl⟩
  rw [← hw1] at hst
  have HW1 := Lib.hid hw1
  clear hw1
  go_enter Tryd.func29, Tryd.ntmps29
  go_wp2_with fail
  rw [← HW1.out]
  go_loopw [15] (fun i wr => ∃ k : Nat, k ≤ m ∧ i = .int .i64 k ∧ S1 n E w.heap.size w wr k) (fun i _ => m - (intOf i).toNat)
  case atStart => exact ⟨0, Nat.zero_le _, rfl, hst⟩
  case round =>
    obtain ⟨k, hk, rfl, cs, hR, hB⟩ := hrel
    by_cases hlt : k < m
    · obtain ⟨b, off, x, y, rfl, hbl, hxy, hc1, hc2⟩ := hE.at_ hlt
      obtain ⟨hx, hy⟩ := hd (x, y) (List.mem_of_getElem? hxy)
      have k1 : wr.cell? ⟨b, off + k * 2, none⟩ = some (.int .i64 (x : Int)) := (hB.cell (p := ⟨b, off + k * 2, none⟩) hbl).trans hc1
      have k2 : wr.cell? ⟨b, off + k * 2 + 1, none⟩ = some (.int .i64 (y : Int)) := (hB.cell (p := ⟨b, off + k * 2 + 1, none⟩) hbl).trans hc2
      have h0x : (0 : Int) ≤ x := by omega
      have h0y : (0 : Int) ≤ y := by omega
      have h1x : (x : Int) < n := by omega
      have h1y : (y : Int) < n := by omega
      clear hc1 hc2
      go_wp2_with (go_at_call 36; refine (isVertex_yes _ _ _ (by assumption) (by assumption)).mono ?_; rintro e w' ⟨rfl, rfl⟩)
      obtain ⟨v, l, hv, hl, ho, hcv⟩ := hR.at_ (i := x) (by rw [appRows_len]; exact hx)
      rw [appRows_at n _ hx] at hl
      injection hl with hl
      have hll : l.length ≤ 1000 := by
        rw [← hl]
        have h1 := appRow_len (E.take k) x
        have h2 := List.length_take_le k E
        omega
      have hgl := hR.gin.2
      have hfz := hR.frozen x
      have hvg := own_ne_g hR ho
      have hbv := ho.lt
      obtain ⟨wx, hwx⟩ : ∃ W, W = wr.alloc (Obj.cells #[Value.int IntKind.i64 ↑x, Value.int IntKind.i64 ↑y] 39) := ⟨_, rfl⟩
      have e1 : wx.cell? ⟨wr.heap.size, 0, none⟩ = some (.int .i64 (x : Int)) := by rw [hwx]; simp
      have e2 : wx.cell? ⟨wr.heap.size, 1, none⟩ = some (.int .i64 (y : Int)) := by rw [hwx]; simp
      have e3 : wx.cell? ⟨w.heap.size, x, none⟩ = some v := by rw [hwx, World.cell?_alloc_lt _ _ _ (by show w.heap.size < _; omega)]; exact hcv
      have e4 : wx.frozen? ⟨w.heap.size, x, none⟩ = false := by rw [hwx, World.frozen?_alloc_old _ _ _ (by show w.heap.size ≠ _; omega)]; exact hfz
      have e5 : Own wx w.heap.size v l := ho.keep fun b hb => by rw [hwx]; exact Below.heap_alloc _ _ _ (hbv b hb).2
      have e6 : wx.heap.size = wr.heap.size + 1 := by rw [hwx]; simp
      have hsz := hB.size
      have E5 := Lib.hid e5
      have E6 := Lib.hid e6
      rw [← hwx]
      have HWX := Lib.hid hwx
      have HL := Lib.hid hl
      have E3 := Lib.hid e3
      have al : ∀ (o : Obj) (p : Addr), p.block < wx.heap.size → (wx.alloc o).cell? p = wx.cell? p := fun o p h => World.cell?_alloc_lt wx o p h
      have AL := Lib.hid al
      have l1 : wr.heap.size < wx.heap.size := by omega
      have l2 : w.heap.size < wx.heap.size := by omega
      have n1 : w.heap.size ≠ wr.heap.size := by omega
      have hw0 : ∀ b, v.ownBlock = some b → b < wx.heap.size := fun b hb => by have := hbv b hb; omega
      have HW0 := Lib.hid hw0
      have HBV := Lib.hid hbv
      clear hwx hl e5 e6 hcv hfz k1 k2 al hw0 hbv
      go_region_law (refine step_append_lies _ rfl (.tmp 36) (.tmp 39) 22 rfl w.heap.size 3 i0 _ 1 8 Tryd.underlying22 hi0 hz0 hz1 hz2 rfl (by decide) v l.length (l.map nv) (by simp [Act.eval]) (own_of_block E5.out (fun b hb => Below.heap_alloc _ _ _ (HW0.out b hb))) ⟨wx.heap.size, 0, none⟩ 1 1 [.int .i64 (y : Int)] (by simp [Act.eval]) rfl (fun j u hu => cell_one_new wx _ _ j u hu) (by simp [Value.oneCell']) (by decide) (by simp only [maxLen]; omega) (by omega) (by simp; omega) _ rfl ?_; intro gg cap w1 hown1 hgrow hat hlt; have c1 := hgrow.cell ((AL.out _ _ l1).trans e1) (fun e => by have := HBV.out _ e.symm; simp at this); have c3 := hgrow.cell ((AL.out _ _ l2).trans E3.out) (Ne.symm hvg); have hf1 : w1.frozen? ⟨w.heap.size, x, none⟩ = false := (World.frozen?_of_block (hgrow.block w.heap.size (by simp; omega) (Ne.symm hvg))).trans ((World.frozen?_alloc_old wx _ _ (by show w.heap.size ≠ _; omega)).trans e4))
      all_goals
        go_wp2_with fail
        go_roundw
        case rel => exact ⟨k + 1, by omega, by go_num, S1.step hR hB hxy hv ho HL HWX hgrow hown1 ⟨gg, rfl, hat.imp id (fun h => h.trans (by simp)), hlt⟩⟩
        case measure => simp [intOf]; omega
    · obtain rfl : m = k := by omega
      have hR2 : Rows2 wr w.heap.size wr.heap.size w.heap.size cs (sRows n E 0) := by
        rw [sRows_zero]
        rw [List.take_of_length_le (by rw [hlen.out]; exact Nat.le_refl _)] at hR
        exact hR
      have HR2 := Lib.hid hR2
      clear hR hR2 hst
      go_wp2_with fail
      obtain ⟨wo, hwo⟩ : ∃ W, W = wr := ⟨_, rfl⟩
      subst hwo
      go_loopw [45] (fun i wr => ∃ k : Nat, k ≤ n ∧ i = .int .i64 k ∧ S2 n E w.heap.size w wr k) (fun i _ => n - (intOf i).toNat)
      case atStart => exact ⟨0, Nat.zero_le _, rfl, cs, HR2.out, hB⟩
      case round =>
        obtain ⟨j, hj, rfl, ds, hR, hB2⟩ := hrel
        by_cases hlt : j < n
        · obtain ⟨v, l, hv, hl, ho, hcv⟩ := hR.at_ (i := j) (by rw [sRows_len]; exact hlt)
          rw [sRows_at n _ _ hlt, if_neg (Nat.lt_irrefl _)] at hl
          injection hl with hl
          subst hl
          have hll : (appRow E j).length ≤ 1000 := by
            have h1 := appRow_len E j
            have h2 := hlen.out
            omega
          have HS1 := Lib.hid (HS w.heap.size v _ wr (own_iff.1 ho) (by rw [List.length_map]; omega))
          have hfz := hR.frozen j
          have hne := own_ne_g hR ho
          have hgl := hR.gin.2
          have HX := Lib.hid hR
          have HCV := Lib.hid hcv
          clear hR ho
          go_wp2_with fail
          refine HS1.out.mono ?_
          rintro e w2 ⟨rfl, ho2, hg2⟩
          have HC1 := Lib.hid (HC w.heap.size v _ w2 ho2 (by rw [List.length_mergeSort, List.length_map]; omega))
          have hcv2 := hg2.cell HCV.out (Ne.symm hne)
          go_wp2_with fail
          refine HC1.out.mono ?_
          rintro e w3 ⟨v3, rfl, ho3, hg3, hb3⟩
          have hcv3 := hg3.cell hcv2 (Ne.symm hne)
          obtain ⟨A3, cc3, rfl, _, _⟩ := own_slice ho3
          have hs2 := hg2.size
          have hfz3 : w3.frozen? ⟨w.heap.size, j, none⟩ = false := (World.frozen?_of_block ((hg3.block _ (by show w.heap.size < _; omega) (Ne.symm hne)).trans (hg2.block _ hgl (Ne.symm hne)))).trans hfz
          go_wp2_with fail
          go_roundw
          case rel => exact ⟨j + 1, by omega, by go_num, S2.step hd hlt HX.out hB2 hv hg2 hg3 ho3 hb3⟩
          case measure => simp [intOf]; omega
        · obtain rfl : n = j := by omega
          rw [sRows_all] at hR
          go_wp2_with fail
          go_ret
          exact ⟨_, ds, rfl, hR, hB2⟩
end Go.Proofs.YtdebnnigbbjbcaaDoor

namespace Go.Proofs.YtdebnnigbbjbcaaDoor
open Go Go.RowKit

/-- The library's table. -/
def tabL : List Nat := [0, 1, 56, 2, 57, 49, 28, 3, 61, 58, 42, 50, 38, 29, 17, 4, 62, 47, 59, 36, 45, 43, 51, 22, 53, 39, 33, 30, 24, 18, 12, 5, 63, 55, 48, 27, 60, 41, 37, 16, 46, 35, 44, 21, 52, 32, 23, 11, 54, 26, 40, 15, 34, 20, 31, 10, 25, 14, 19, 9, 13, 8, 7, 6]
def Tab (w : World) : Prop := ∀ i, i < 64 → w.cell? ⟨0, i, none⟩ = some (.int .u8 ((tabL[i]?.getD 0 : Nat) : Int))
theorem Tab.keep {w w' : World} (h : Tab w) (hk : w'.heap[0]? = w.heap[0]?) : Tab w' := fun i hi => (World.cell?_of_block (w := w) hk).trans (h i hi)
/-- The lowest bit. -/
def tz (x : Nat) : Nat := ((List.range 64).find? fun i => x.testBit i).getD 64
def tzIdx (x : Nat) : Int := IntKind.u64.wrap (bits BinOp.and IntKind.u64 (x : Int) (IntKind.u64.wrap (-(x : Int))) * 285870213051353865) / 288230376151711744
theorem tz_all : ((List.range 1024).all fun x => x == 0 || (decide (0 ≤ tzIdx x) && decide (tzIdx x < 64) && (tabL[(tzIdx x).toNat]?.getD 0 == tz x) && decide (tz x < 64))) = true := by kernel_rfl
theorem tz_at {x : Nat} (h0 : 0 < x) (h1 : x < 1024) : 0 ≤ tzIdx x ∧ tzIdx x < 64 ∧ tabL[(tzIdx x).toNat]?.getD 0 = tz x ∧ tz x < 64 := by
  have := List.all_eq_true.1 tz_all x (List.mem_range.2 h1)
  simp only [Bool.or_eq_true, Bool.and_eq_true, decide_eq_true_eq, beq_iff_eq] at this
  rcases this with h | ⟨⟨⟨h2, h3⟩, h4⟩, h5⟩
  · omega
  · exact ⟨h2, h3, h4, h5⟩
set_option maxHeartbeats 1000000 in
theorem tz_any (x : Nat) (h0 : 0 < x) (h1 : x < 1024) (w : World) (hT : Tab w) :
    Calls Tryd.prog 96 #[.int .u64 (x : Int)] w fun e w' => e = .returned (.int .i64 ((tz x : Nat) : Int)) ∧ w = w' := by
  have hx0 : ((x : Int) == 0) = false := by simp; omega
  obtain ⟨k1, k2, k3, k4⟩ := tz_at h0 h1
  obtain ⟨j, hj⟩ := Int.eq_ofNat_of_zero_le k1
  rw [hj] at k2 k3
  have hj64 : j < 64 := by omega
  have hc := hT j hj64
  simp only [Int.toNat_natCast] at k3
  rw [k3] at hc
  unfold tzIdx at hj
  obtain ⟨r, hr⟩ : ∃ r, tz x = r := ⟨_, rfl⟩
  rw [hr] at hc k4 ⊢
  clear k1 k3 hT hr
  go_enter Tryd.func96, Tryd.ntmps96
  go_wp2
  go_ret
  exact ⟨rfl, rfl⟩
end Go.Proofs.YtdebnnigbbjbcaaDoor

namespace Go.Proofs.YtdebnnigbbjbcaaDoor
open Go Go.RowKit

/-- A set of vertices as bits. -/
def mask (l : List Nat) : Nat := l.foldl (fun m v => m ||| 2 ^ v) 0
theorem mask_snoc (l : List Nat) (v : Nat) : mask (l ++ [v]) = mask l ||| 2 ^ v := by
  unfold mask
  rw [List.foldl_append]
  rfl
theorem or_small {m x : Nat} (hm : m < 1024) (hx : x < 10) : m ||| 2 ^ x < 1024 := by
  have h : 2 ^ x < 2 ^ 10 := Nat.pow_lt_pow_right (by omega) hx
  exact Nat.or_lt_two_pow (n := 10) hm h
theorem mask_small (l : List Nat) (h : ∀ x ∈ l, x < 10) : mask l < 1024 := by
  suffices ∀ (l : List Nat) (m : Nat), m < 1024 → (∀ x ∈ l, x < 10) → l.foldl (fun m v => m ||| 2 ^ v) m < 1024 from this l 0 (by omega) h
  intro l
  induction l with
  | nil => exact fun m hm _ => hm
  | cons x xs ih => exact fun m hm h => ih _ (or_small hm (h x (by simp))) fun y hy => h y (by simp [hy])
theorem mask_bit (l : List Nat) (i : Nat) : (mask l).testBit i = decide (i ∈ l) := by
  suffices ∀ (l : List Nat) (m : Nat), (l.foldl (fun m v => m ||| 2 ^ v) m).testBit i = (m.testBit i || decide (i ∈ l)) by
    rw [show (mask l).testBit i = (l.foldl (fun m v => m ||| 2 ^ v) 0).testBit i from rfl, this]
    simp
  intro l
  induction l with
  | nil => intro m; simp
  | cons x xs ih =>
    intro m
    rw [List.foldl_cons, ih, Nat.testBit_or, Nat.testBit_two_pow]
    by_cases h : x = i
    · subst h; simp
    · have h' : ¬ i = x := fun e => h e.symm
      simp [h, h']
theorem ofNat64 (a : Nat) (ha : a < 18446744073709551616) : (BitVec.ofInt 64 (a : Int)).toNat = a := by
  rw [BitVec.ofInt_natCast, BitVec.toNat_ofNat]
  exact Nat.mod_eq_of_lt (by omega)
theorem wrap_u64 (a : Nat) (ha : a < 18446744073709551616) : IntKind.u64.wrap (a : Int) = (a : Int) := by
  show (a : Int) % 18446744073709551616 = a
  omega
theorem u64_or_n (a b : Nat) (ha : a < 1024) (hb : b < 1024) : bits .or .u64 (a : Int) (b : Int) = ((a ||| b : Nat) : Int) := by
  have hx : a ||| b < 2 ^ 10 := Nat.or_lt_two_pow (by omega) (by omega)
  show IntKind.u64.wrap ((BitVec.ofInt 64 (a : Int) ||| BitVec.ofInt 64 (b : Int)).toNat : Int) = _
  rw [BitVec.toNat_or, ofNat64 a (by omega), ofNat64 b (by omega)]
  exact wrap_u64 _ (by omega)
theorem u64_and_n (a b : Nat) (ha : a < 18446744073709551616) (hb : b < 18446744073709551616) : bits .and .u64 (a : Int) (b : Int) = ((a &&& b : Nat) : Int) := by
  have hx : a &&& b ≤ a := Nat.and_le_left
  show IntKind.u64.wrap ((BitVec.ofInt 64 (a : Int) &&& BitVec.ofInt 64 (b : Int)).toNat : Int) = _
  rw [BitVec.toNat_and, ofNat64 a (by omega), ofNat64 b (by omega)]
  exact wrap_u64 _ (by omega)
theorem u64_xor_n (a b : Nat) (ha : a < 1024) (hb : b < 1024) : bits .xor .u64 (a : Int) (b : Int) = ((a ^^^ b : Nat) : Int) := by
  have hx : a ^^^ b < 2 ^ 10 := Nat.xor_lt_two_pow (by omega) (by omega)
  show IntKind.u64.wrap ((BitVec.ofInt 64 (a : Int) ^^^ BitVec.ofInt 64 (b : Int)).toNat : Int) = _
  rw [BitVec.toNat_xor, ofNat64 a (by omega), ofNat64 b (by omega)]
  exact wrap_u64 _ (by omega)
theorem pow_small {x : Nat} (hx : x < 10) : 2 ^ x < 1024 := Nat.pow_lt_pow_right (n := 10) (by omega) hx
theorem or_pow {m x : Nat} (hm : m < 1024) (hx : x < 10) : bits BinOp.or IntKind.u64 (m : Int) (IntKind.u64.wrap (2 ^ x)) = ((m ||| 2 ^ x : Nat) : Int) := by
  have hp := pow_small hx
  have e : (2 ^ x : Int) = ((2 ^ x : Nat) : Int) := by simp
  rw [e, wrap_u64 _ (by omega)]
  exact u64_or_n m (2 ^ x) hm hp

/-- Block gb begins with the group 0 of bits m. -/
def Grp (W : World) (gb m : Nat) : Prop := ∃ C : Array Value, W.heap[gb]? = some (.cells C 107 (0, 0)) ∧ C[0]? = some (.int .i64 0) ∧ C[1]? = some (.int .u64 (m : Int))
theorem Grp.keep {W W' : World} {gb m : Nat} (h : Grp W gb m) (hk : W'.heap[gb]? = W.heap[gb]?) : Grp W' gb m := by
  obtain ⟨C, h1, h2⟩ := h
  exact ⟨C, hk.trans h1, h2⟩
theorem Grp.c0 {W : World} {gb m : Nat} (h : Grp W gb m) : W.cell? ⟨gb, 0, none⟩ = some (.int .i64 0) := by
  obtain ⟨C, h1, h2, _⟩ := h
  rw [cell_of_row W gb 0 C _ (0, 0) h1, h2]
theorem Grp.c1 {W : World} {gb m : Nat} (h : Grp W gb m) : W.cell? ⟨gb, 1, none⟩ = some (.int .u64 (m : Int)) := by
  obtain ⟨C, h1, _, h2⟩ := h
  rw [cell_of_row W gb 1 C _ (0, 0) h1, h2]
theorem Grp.f {W : World} {gb m : Nat} (h : Grp W gb m) (i : Nat) : W.frozen? ⟨gb, i, none⟩ = false := by
  obtain ⟨C, h1, _⟩ := h
  simp [World.frozen?, h1]
theorem Grp.lt {W : World} {gb m : Nat} (h : Grp W gb m) : gb < W.heap.size := by
  obtain ⟨C, h1, _⟩ := h
  exact heap_lt h1
theorem Grp.set {W : World} {gb m m' : Nat} (h : Grp W gb m) : Grp (W.setCell ⟨gb, 1, none⟩ (.int .u64 (m' : Int))) gb m' := by
  obtain ⟨C, h1, h2, h3⟩ := h
  have hl : 1 < C.size := (Array.getElem?_eq_some_iff.1 h3).1
  refine ⟨C.setIfInBounds 1 (.int .u64 (m' : Int)), ?_, ?_, ?_⟩
  · simp only [World.setCell, Array.getElem?_modify]
    simp [h1]
  · rw [Array.getElem?_setIfInBounds, if_neg (by omega)]
    exact h2
  · rw [Array.getElem?_setIfInBounds, if_pos rfl, if_pos hl]
/-- What groupsOf makes of the vertices l. -/
def Groups (W : World) (base : Nat) (gv : Value) (l : List Nat) : Prop := (l = [] ∧ gv = .slice none 0 0) ∨ (l ≠ [] ∧ ∃ gb cap, gv = .slice (some ⟨gb, 0, none⟩) 1 cap ∧ base ≤ gb ∧ Grp W gb (mask l))
theorem info_group : (Tryd.prog.info? 107).map (fun i => (i.zero, i.size, i.bytes)) = some (some (.agg #[.int .i64 0, .int .u64 0]), 2, 16) := by kernel_rfl
theorem grp_of_own {W : World} {base g c : Nat} (h : W.ownsRow base 107 2 (.slice (some ⟨g, 0, none⟩) 1 c) 1 [.int .i64 0, .int .u64 0]) : base ≤ g ∧ Grp W g 0 := by
  rcases h.2 with ⟨e, _⟩ | ⟨g', cap, cur, e, h1, h2, h3, h4, h5, h6⟩
  · cases e
  · injection e with e1 _ _
    injection e1 with e1
    injection e1 with e1 _
    subst e1
    refine ⟨h1, cur, h2, ?_, ?_⟩
    · have : (cur.toList.take 2)[0]? = some (Value.int .i64 0) := by rw [show (2 : Nat) = 1 * 2 from rfl, h6]; rfl
      rwa [List.getElem?_take_of_lt (by omega), Array.getElem?_toList] at this
    · have : (cur.toList.take 2)[1]? = some (Value.int .u64 0) := by rw [show (2 : Nat) = 1 * 2 from rfl, h6]; rfl
      rwa [List.getElem?_take_of_lt (by omega), Array.getElem?_toList] at this
theorem cells2_new (w : World) (a b : Value) (t : TypeId) : ∀ (j : Nat) (u : Value), [a, b][j]? = some u → (w.alloc (.cells #[a, b] t)).cell? ((⟨w.heap.size, 0, none⟩ : Addr).add j) = some u := by
  intro j u h
  rw [Addr.add_lit, Nat.zero_add]
  have hh := World.alloc_heap_new w (.cells #[a, b] t)
  rw [cell_of_row _ _ j _ t (0, 0) hh]
  simpa using h

set_option maxRecDepth 100000 in
set_option maxHeartbeats 2000000 in
theorem groups_any (A : Option Addr) (k c : Nat) (l : List Nat) (w : World) (hI : Ints .i64 w.heap.size w A k (l.map fun n : Nat => (n : Int))) (hk : k ≤ 1000) (hl : ∀ x ∈ l, x < 10) :
    Calls Tryd.prog 58 #[.slice A k c] w fun e w' => ∃ gv, e = .returned gv ∧ Groups w' w.heap.size gv l ∧ Below w.heap.size w w' := by
  have hlen : l.length = k := by have := hI.len; simpa using this
  have HL := Lib.hid hlen
  have HX := Lib.hid hl
  have HI := Lib.hid hI
  obtain ⟨i0, hi0, hz0, hz1, hz2⟩ := info_parts info_group
  clear hlen hl hI
  go_enter Tryd.func58, Tryd.ntmps58
  go_wp2_with fail
  go_loopw [3, 9] (fun gs i wr => ∃ j : Nat, j ≤ k ∧ i = .int .i64 j ∧ Below w.heap.size w wr ∧ Groups wr w.heap.size gs (l.take j)) (fun _ i _ => k - (intOf i).toNat)
  case atStart => exact ⟨0, Nat.zero_le _, rfl, Below.refl _ _, .inl ⟨rfl, rfl⟩⟩
  case round =>
    obtain ⟨j, hj, rfl, hB, hG⟩ := hrel
    by_cases hlt : j < k
    · obtain ⟨b, off, rfl, hbl, hcs⟩ := HI.out.at_ (by omega)
      obtain ⟨x, hx⟩ : ∃ x, l[j]? = some x := ⟨_, List.getElem?_eq_getElem (by rw [HL.out]; exact hlt)⟩
      have hc := (hB.cell (p := ⟨b, off + j, none⟩) hbl).trans (hcs j hlt)
      rw [List.getElem?_map, hx] at hc
      have hcx : wr.cell? ⟨b, off + j, none⟩ = some (.int .i64 (x : Int)) := hc
      have hx10 := HX.out x (List.mem_of_getElem? hx)
      have hx0 : (0 : Int) ≤ (x : Int) := by omega
      have hx1 : (x : Int) < 10 := by omega
      have hq : (x : Int) / 64 = 0 := by omega
      have hT := Lib.hid (take_snoc' hx)
      have hsz := hB.size
      have hne : l.take (j + 1) ≠ [] := by rw [hT.out]; simp
      have HNE := Lib.hid hne
      clear hcs hc hx hne
      rcases hG with ⟨h1, rfl⟩ | ⟨h1, gb, cap, rfl, hgb, hG⟩
      · have hm : Hid (mask (l.take (j + 1)) = 0 ||| 2 ^ x) := by
          show _ = _
          rw [hT.out, mask_snoc, h1]
          rfl
        clear h1
        go_wp2_with (at_builtin
                     refine wpList_append_lies _ rfl (.tmp 28) (.tmp 32) 87 rfl w.heap.size 107 i0 _ 2 16 Tryd.underlying87 hi0 hz0 hz1 hz2 rfl (by decide) (.slice none 0 0) 0 [] rfl ⟨rfl, .inl ⟨rfl, rfl⟩⟩ ⟨wr.heap.size, 0, none⟩ 1 1 [.int .i64 0, .int .u64 0] rfl rfl (cells2_new wr _ _ _) (by simp [Value.oneCell']) (by decide) (by simp only [maxLen]; omega) (by omega) (by simp; omega) _ rfl ?_
                     intro gg cap w1 hown1 hgrow hat hlt1
                     obtain ⟨hgg, hG1⟩ := grp_of_own hown1
                     have c0 := hG1.c0
                     have c1 := hG1.c1
                     have f1 := hG1.f 1)
        go_region
        all_goals go_wp2
        go_roundw
        case rel =>
          refine ⟨j + 1, by omega, by go_num, ?_, .inr ⟨HNE.out, gg, cap, rfl, hgg, ?_⟩⟩
          · refine (Below.setCell ((hB.trans (((Below.refl _ _).alloc hsz _))).grown hgrow (by simp; omega) (fun k hk => by cases hk)) (p := ⟨gg, 1, none⟩) hgg _).drew
          · rw [hm.out]
            have e := or_pow (m := 0) (x := x) (by omega) (by omega)
            have e0 : ((0 : Nat) : Int) = 0 := rfl
            rw [e0] at e
            rw [show x % 64 = x by omega, e]
            exact Grp.keep hG1.set rfl
        case measure => simp [intOf]; omega
      · have hm : Hid (mask (l.take (j + 1)) = mask (l.take j) ||| 2 ^ x) := by
          show _ = _
          rw [hT.out, mask_snoc]
        have hms := mask_small (l.take j) fun y hy => HX.out y (List.mem_of_mem_take hy)
        obtain ⟨m, hmm⟩ : ∃ m, mask (l.take j) = m := ⟨_, rfl⟩
        rw [hmm] at hG hms hm
        have HG := Lib.hid hG
        have HE := Lib.hid (or_pow (m := m) (x := x) hms (by omega))
        have c0 := hG.c0
        have c1 := hG.c1
        have f1 := hG.f 1
        clear hmm hG h1
        go_wp2_with fail
        go_region
        all_goals go_wp2
        go_roundw
        case rel =>
          refine ⟨j + 1, by omega, by go_num, (hB.setCell (p := ⟨gb, 1, none⟩) hgb _).drew, .inr ⟨HNE.out, gb, cap, rfl, hgb, ?_⟩⟩
          rw [hm.out, show x % 64 = x by omega, HE.out]
          exact Grp.keep HG.out.set rfl
        case measure => simp [intOf]; omega
    · obtain rfl : k = j := by omega
      have hfin : Groups wr w.heap.size u3 l := by
        rw [List.take_of_length_le (by rw [HL.out]; exact Nat.le_refl _)] at hG
        exact hG
      have HF := Lib.hid hfin
      clear hG hfin
      go_wp2_with fail
      go_ret
      exact ⟨_, rfl, HF.out, hB⟩
end Go.Proofs.YtdebnnigbbjbcaaDoor

namespace Go.Proofs.YtdebnnigbbjbcaaDoor
open Go Go.RowKit

/-- Block gs is one word of bits m. -/
def Wrd (W : World) (gs m : Nat) : Prop := W.heap[gs]? = some (.cells #[.int .u64 (m : Int)] 44 (0, 0))
theorem Wrd.cell {W : World} {gs m : Nat} (h : Wrd W gs m) : W.cell? ⟨gs, 0, none⟩ = some (.int .u64 (m : Int)) := cell_of_row W gs 0 _ _ (0, 0) h
theorem Wrd.free {W : World} {gs m : Nat} (h : Wrd W gs m) : W.frozen? ⟨gs, 0, none⟩ = false := by unfold Wrd at h; simp [World.frozen?, h]
theorem Wrd.set {W : World} {gs m m' : Nat} (h : Wrd W gs m) : Wrd (W.setCell ⟨gs, 0, none⟩ (.int .u64 (m' : Int))) gs m' := by
  unfold Wrd at *
  simp only [World.setCell, Array.getElem?_modify]
  simp [h]
theorem Wrd.keep {W W' : World} {gs m : Nat} (h : Wrd W gs m) (hk : W'.heap[gs]? = W.heap[gs]?) : Wrd W' gs m := hk.trans h
theorem info_word : (Tryd.prog.info? 44).map (fun i => (i.zero, i.size, i.bytes)) = some (some (.int .u64 0), 1, 8) := by kernel_rfl
theorem make_word : ∀ W : World, (Instr.makeSlice 108 (.int .i64 1) (.int .i64 1)).run Tryd.prog W = .ok (.slice (some ⟨W.heap.size, 0, none⟩) 1 1) (W.alloc (.cells #[.int .u64 0] 44)) := by
  obtain ⟨i, hi, hz, h1, h2⟩ := info_parts info_word
  intro W
  have h := run_make_rowN 108 44 i _ Tryd.underlying108 hi hz .i64 .i64 1 1 (Nat.le_refl _) (by rw [h2]; omega) (by omega) W
  rw [h1, Nat.mul_one, made_one _ _ rfl] at h
  exact h

set_option maxRecDepth 100000 in
set_option maxHeartbeats 2000000 in
theorem vertices_any (s n : Nat) (w : World) (h1 : 1 ≤ n) (h2 : n ≤ 10) (hs : s ≤ n) :
    Calls Tryd.prog 79 #[.int .i64 (s : Int), .int .i64 (n : Int)] w fun e w' => ∃ gs, e = .returned (.slice (some ⟨gs, 0, none⟩) 1 1) ∧ w.heap.size ≤ gs ∧ Wrd w' gs (mask (List.range' s (n - s))) ∧ Below w.heap.size w w' := by
  have hq : ((n : Int) + 63) / 64 = 1 := by omega
  have hq2 : ((n : Int) + 64 - 1) / 64 = 1 := by omega
  have hmk := make_word
  obtain ⟨w0, hw0⟩ : ∃ W, w.alloc (.cells #[.int .u64 0] 44) = W := ⟨_, rfl⟩
  have hb0 : Below w.heap.size w w0 := by rw [← hw0]; exact (Below.refl _ _).alloc (Nat.le_refl _) _
  have hg0 : Wrd w0 w.heap.size 0 := by rw [← hw0]; exact World.alloc_heap_new w _
  have HW0 := Lib.hid hw0
  have HG0 := Lib.hid hg0
  clear hw0 hg0
  go_enter Tryd.func79, Tryd.ntmps79
  go_wp2_with fail
  rw [HW0.out]
  go_loopw [6] (fun i wr => ∃ j : Nat, s + j ≤ n ∧ i = .int .i64 ((s + j : Nat) : Int) ∧ Below w.heap.size w wr ∧ Wrd wr w.heap.size (mask (List.range' s j))) (fun i _ => n - (intOf i).toNat)
  case atStart => exact ⟨0, by omega, rfl, hb0, HG0.out⟩
  case round =>
    obtain ⟨j, hj, rfl, hB, hG⟩ := hrel
    obtain ⟨x, hx⟩ : ∃ x, s + j = x := ⟨_, rfl⟩
    rw [hx]
    by_cases hlt : x < n
    · have hx0 : (0 : Int) ≤ (x : Int) := by omega
      have hx1 : (x : Int) < 10 := by omega
      have hxq : (x : Int) / 64 = 0 := by omega
      have hsnoc : mask (List.range' s (j + 1)) = mask (List.range' s j) ||| 2 ^ x := by
        rw [List.range'_concat, mask_snoc, Nat.one_mul, hx]
      have hms := mask_small (List.range' s j) fun y hy => by have := List.mem_range'_1.1 hy; omega
      obtain ⟨m, hmm⟩ : ∃ m, mask (List.range' s j) = m := ⟨_, rfl⟩
      rw [hmm] at hG hms hsnoc
      have c1 := hG.cell
      have f1 := hG.free
      have HG := Lib.hid hG
      have HE := Lib.hid (or_pow (m := m) (x := x) hms (by omega))
      have HS := Lib.hid hsnoc
      have HX := Lib.hid hx
      clear hmm hG hsnoc hx
      go_wp2_with fail
      go_region
      all_goals go_wp2
      go_roundw
      case rel =>
        have hxx := HX.out
        refine ⟨j + 1, by omega, by go_num, (hB.setCell (p := ⟨w.heap.size, 0, none⟩) (Nat.le_refl _) _).drew, ?_⟩
        rw [HS.out, show x % 64 = x by omega, HE.out]
        exact Wrd.keep HG.out.set rfl
      case measure => simp [intOf]; omega
    · have hfin : Wrd wr w.heap.size (mask (List.range' s (n - s))) := by
        rw [show n - s = j by omega]
        exact hG
      have HF := Lib.hid hfin
      clear hG hfin hx
      go_wp2_with fail
      go_ret
      exact ⟨_, rfl, Nat.le_refl _, HF.out, hB⟩
end Go.Proofs.YtdebnnigbbjbcaaDoor

namespace Go.Proofs.YtdebnnigbbjbcaaDoor
open Go Go.RowKit

/-- The bits of a number. -/
def bitsL (t : Nat) : List Nat := (List.range 10).filter fun i => t.testBit i
theorem bits_all : ((List.range 1024).all fun t => t == 0 || (bitsL t == tz t :: bitsL (t &&& (t - 1)) && decide (t &&& (t - 1) < t) && decide (tz t < 10))) = true := by kernel_rfl
theorem bits_step {t : Nat} (h0 : 0 < t) (h1 : t < 1024) : bitsL t = tz t :: bitsL (t &&& (t - 1)) ∧ t &&& (t - 1) < t ∧ tz t < 10 := by
  have := List.all_eq_true.1 bits_all t (List.mem_range.2 h1)
  simp only [Bool.or_eq_true, Bool.and_eq_true, decide_eq_true_eq, beq_iff_eq] at this
  rcases this with h | ⟨⟨h2, h3⟩, h4⟩
  · omega
  · exact ⟨h2, h3, h4⟩
theorem bits_zero : bitsL 0 = [] := by decide
theorem bits_lt (t : Nat) : ∀ x ∈ bitsL t, x < 10 := fun _ hx => List.mem_range.1 (List.mem_filter.1 hx).1
theorem bits_len (t : Nat) : (bitsL t).length ≤ 10 := by
  have := List.length_filter_le (fun i => t.testBit i) (List.range 10)
  rwa [List.length_range] at this
/-- What appendTaken leaves: the list, the word, what it turned. -/
def Taken (base gs u : Nat) (qv : Value) (ql : List Nat) (t : Nat) (w : World) (e : Ending) (w' : World) : Prop :=
  ∃ qv', e = .returned qv' ∧ Own w' base qv' (ql ++ bitsL t) ∧ Wrd w' gs (u ^^^ t) ∧ (∀ b, qv'.ownBlock = some b → qv.ownBlock = some b ∨ w.heap.size ≤ b) ∧ Chg (fun b => b = gs ∨ qv.ownBlock = some b) w w'

set_option maxHeartbeats 1000000 in
theorem taken_none (qv : Value) (base gs u : Nat) (ql : List Nat) (w : World) (ho : Own w base qv ql) (hw : Wrd w gs u) :
    Calls Tryd.prog 80 #[qv, .slice (some ⟨gs, 0, none⟩) 1 1, .slice none 0 0] w (Taken base gs u qv ql 0 w) := by
  go_enter Tryd.func80, Tryd.ntmps80
  go_wp2_with fail
  go_loopw [0, 12] (fun q i wr => q = qv ∧ i = .int .i64 0 ∧ wr = w) (fun _ _ _ => 0)
  case atStart => exact ⟨rfl, rfl, rfl⟩
  case round =>
    obtain ⟨rfl, rfl, rfl⟩ := hrel
    go_wp2_with fail
    go_ret
    exact ⟨_, rfl, by rw [bits_zero, List.append_nil]; exact ho, by rw [Nat.xor_zero]; exact hw, fun b h => .inl h, Chg.refl _ _⟩

theorem takes {W w : World} {qv q1 q2 : Value} (h1 : ∀ b, q1.ownBlock = some b → qv.ownBlock = some b ∨ w.heap.size ≤ b) (hw : w.heap.size ≤ W.heap.size) (h2 : ∀ b, q2.ownBlock = some b → q1.ownBlock = some b ∨ b = W.heap.size) : ∀ b, q2.ownBlock = some b → qv.ownBlock = some b ∨ w.heap.size ≤ b := fun b hb => by
  rcases h2 b hb with h | h
  · exact h1 b h
  · exact .inr (by omega)

set_option maxRecDepth 100000 in
set_option maxHeartbeats 4000000 in
theorem taken_some (qv : Value) (base gs gb cap u m : Nat) (ql : List Nat) (w : World) (hT : Tab w) (ho : Own w base qv ql) (hql : ql.length ≤ 1000) (hw : Wrd w gs u) (hg : Grp w gb m) (hu : u < 1024) (hm : m < 1024) (hbase : base ≤ w.heap.size) (hd : qv.ownBlock ≠ some gs) (hz : gs ≠ 0) (hz2 : qv.ownBlock ≠ some 0) :
    Calls Tryd.prog 80 #[qv, .slice (some ⟨gs, 0, none⟩) 1 1, .slice (some ⟨gb, 0, none⟩) 1 cap] w (Taken base gs u qv ql (u &&& m) w) := by
  obtain ⟨i0, hi0, hz0, hz1, hz2'⟩ := info_parts info_int
  obtain ⟨t0, ht0⟩ : ∃ t0, u &&& m = t0 := ⟨_, rfl⟩
  have ht1 : t0 < 1024 := by rw [← ht0]; exact Nat.lt_of_le_of_lt Nat.and_le_left hu
  have hand := u64_and_n u m (by omega) (by omega)
  rw [ht0] at hand ⊢
  have hxor := u64_xor_n u t0 hu ht1
  have c0 := hg.c0
  have c1 := hg.c1
  have d1 := hw.cell
  have d2 := hw.free
  have hgl := hg.lt
  have HW := Lib.hid hw
  have HO := Lib.hid ho
  have HAND := Lib.hid hand
  have HXOR := Lib.hid hxor
  have HT := Lib.hid hT
  clear hg ht0 hand hxor hw ho hT
  go_enter Tryd.func80, Tryd.ntmps80
  go_wp2_with fail
  go_loopw [0, 12] (fun q i wr => (i = .int .i64 0 ∧ q = qv ∧ wr = w) ∨ (i = .int .i64 1 ∧ ∃ q', q = q' ∧ Own wr base q' (ql ++ bitsL t0) ∧ Wrd wr gs (u ^^^ t0) ∧ (∀ b, q'.ownBlock = some b → qv.ownBlock = some b ∨ w.heap.size ≤ b) ∧ Chg (fun b => b = gs ∨ qv.ownBlock = some b) w wr)) (fun _ i _ => (1 - intOf i).toNat)
  case atStart => exact .inl ⟨rfl, rfl, rfl⟩
  case round =>
    rcases hrel with ⟨rfl, rfl, rfl⟩ | ⟨rfl, q', rfl, hq1, hq2, hq3, hq4⟩
    · obtain ⟨wo, hwo⟩ : ∃ W, W = wr := ⟨_, rfl⟩
      subst hwo
      obtain ⟨q0, hq0⟩ : ∃ Q, Q = u0 := ⟨_, rfl⟩
      subst hq0
      go_wp2_with fail
      obtain ⟨W1, hW1⟩ : ∃ W, wo.alloc (.cells #[.int .i64 0, .int .u64 (m : Int)] 107) = W := ⟨_, rfl⟩
      have hk1 : ∀ b, b < wo.heap.size → W1.heap[b]? = wo.heap[b]? := fun b hb => by rw [← hW1]; exact Below.heap_alloc _ _ _ hb
      have hz1' : W1.heap.size = wo.heap.size + 1 := by rw [← hW1]; simp
      have hbx : W1.heap[wo.heap.size]? = some (.cells #[.int .i64 0, .int .u64 (m : Int)] 107 (0, 0)) := by rw [← hW1]; exact World.alloc_heap_new wo _
      have hgs : gs < wo.heap.size := heap_lt HW.out
      have e0 : W1.cell? ⟨wo.heap.size, 0, none⟩ = some (.int .i64 0) := cell_of_row W1 _ 0 _ _ (0, 0) hbx
      have e1 : W1.cell? ⟨wo.heap.size, 1, none⟩ = some (.int .u64 (m : Int)) := cell_of_row W1 _ 1 _ _ (0, 0) hbx
      have e2 : W1.cell? ⟨gs, 0, none⟩ = some (.int .u64 (u : Int)) := (World.cell?_of_block (w := wo) (hk1 gs hgs)).trans d1
      have e3 : W1.frozen? ⟨gs, 0, none⟩ = false := (World.frozen?_of_block (w := wo) (hk1 gs hgs)).trans d2
      have HBX := Lib.hid hbx
      have HW1 := Lib.hid hW1
      have HK1 := Lib.hid hk1
      rw [hW1]
      clear hbx hW1 hk1 d1 d2 c0 c1
      go_region
      rw [HAND.out]
      go_wp2_with fail
      rw [HXOR.out]
      obtain ⟨W2, hW2⟩ : ∃ W, (W1.setCell ⟨gs, 0, none⟩ (.int .u64 ((u ^^^ t0 : Nat) : Int))).drew = W := ⟨_, rfl⟩
      have hz2'' : W2.heap.size = wo.heap.size + 1 := by rw [← hW2]; show (W1.setCell _ _).heap.size = _; simpa [World.setCell] using hz1'
      have hk2 : ∀ b, b < wo.heap.size → b ≠ gs → W2.heap[b]? = wo.heap[b]? := fun b hb hne => by
        rw [← hW2]
        exact (Below.heap_setCell W1 ⟨gs, 0, none⟩ _ b hne).trans (HK1.out b hb)
      have hg2 : Wrd W2 gs (u ^^^ t0) := by
        rw [← hW2]
        exact Wrd.keep (Wrd.set (m := u) ((HK1.out gs hgs).trans HW.out)) rfl
      have hbx2 : W2.heap[wo.heap.size]? = some (.cells #[.int .i64 0, .int .u64 (m : Int)] 107 (0, 0)) := by
        rw [← hW2]
        exact (Below.heap_setCell W1 ⟨gs, 0, none⟩ _ _ (by show wo.heap.size ≠ gs; omega)).trans HBX.out
      have ho2 : Own W2 base q0 ql := HO.out.keep fun b hb => hk2 b (HO.out.lt b hb).2 (fun e => by subst e; exact hd hb)
      have ht2 : Tab W2 := HT.out.keep (hk2 _ (by have := World.block_lt_of_cell? wo _ (HT.out 0 (by omega)); exact this) (Ne.symm hz))
      have hch2 : Chg (fun b => b = gs ∨ q0.ownBlock = some b) wo W2 := by
        rw [← hW2, ← HW1.out]
        exact (((Chg.refl _ _).alloc _).setCell (fun _ => .inl rfl) _).drew
      have HG2 := Lib.hid hg2
      have HBX2 := Lib.hid hbx2
      have HO2 := Lib.hid ho2
      have HT2 := Lib.hid ht2
      have HCH2 := Lib.hid hch2
      have HLT := Lib.hid ht1
      rw [hW2]
      clear hW2 hk2 hg2 hbx2 ho2 ht2 hch2 e0 e1 e2 e3
      go_loopw [0, 9] (fun q t W => ∃ (dn : List Nat) (t' : Nat), t = .int .u64 (t' : Int) ∧ t' < 1024 ∧ Hid (dn ++ bitsL t' = bitsL t0) ∧ Own W base q (ql ++ dn) ∧ Wrd W gs (u ^^^ t0) ∧ W.heap[wo.heap.size]? = some (.cells #[.int .i64 0, .int .u64 (m : Int)] 107 (0, 0)) ∧ Tab W ∧ (∀ b, q.ownBlock = some b → q0.ownBlock = some b ∨ wo.heap.size < b) ∧ Chg (fun b => b = gs ∨ q0.ownBlock = some b) wo W) (fun _ t _ => (intOf t).toNat)
      case atStart => exact ⟨[], t0, rfl, HLT.out, rfl, by rw [List.append_nil]; exact HO2.out, HG2.out, HBX2.out, HT2.out, fun b h => .inl h, HCH2.out⟩
      case round =>
        obtain ⟨dn, t', rfl, ht', hE, hoq, hgq, hbq, htq, hqb, hcq⟩ := hrel
        have hsq := hcq.size
        by_cases ht0' : t' = 0
        · subst ht0'
          have hdn : dn = bitsL t0 := by
            have := hE.out
            rwa [bits_zero, List.append_nil] at this
          have HQ := Lib.hid (show Own wr base u0 (ql ++ bitsL t0) ∧ Wrd wr gs (u ^^^ t0) ∧ (∀ b, u0.ownBlock = some b → q0.ownBlock = some b ∨ wo.heap.size ≤ b) ∧ Chg (fun b => b = gs ∨ q0.ownBlock = some b) wo wr from ⟨by rw [← hdn]; exact hoq, hgq, fun b h => (hqb b h).imp id (fun h => by omega), hcq⟩)
          clear hE hoq hgq hbq htq hqb hcq hdn
          go_wp2_with fail
          go_roundw
          case rel => exact .inr ⟨rfl, _, rfl, HQ.out.1, HQ.out.2.1, HQ.out.2.2.1, HQ.out.2.2.2⟩
          case measure => simp [intOf]
        · have hpos : 0 < t' := by omega
          obtain ⟨hb1, hb2, hb3⟩ := bits_step hpos ht'
          have hdl : dn.length ≤ 10 := by
            have h1 := bits_len t0
            have h2 := congrArg List.length hE.out
            rw [List.length_append] at h2
            omega
          have hne : ((t' : Int) != 0) = true := by simp; omega
          have h10 : (0 : Int) ≤ (t' : Int) - 1 := by omega
          have hsub : IntKind.u64.wrap ((t' : Int) - 1) = ((t' - 1 : Nat) : Int) := by
            rw [show (t' : Int) - 1 = ((t' - 1 : Nat) : Int) by omega]
            exact wrap_u64 _ (by omega)
          have hand2 := u64_and_n t' (t' - 1) (by omega) (by omega)
          rw [show ((t' - 1 : Nat) : Int) = (t' : Int) - 1 by omega] at hand2
          obtain ⟨A3, c3, rfl, hq1, hq2⟩ := hoq.slice
          obtain ⟨z, hz3⟩ : ∃ z, tz t' = z := ⟨_, rfl⟩
          have HTZ := Lib.hid (fun (W : World) (hT : Tab W) => tz_any t' hpos ht' W hT)
          rw [hz3] at HTZ hb3 hb1
          obtain ⟨t2, ht2⟩ : ∃ t2, t' &&& (t' - 1) = t2 := ⟨_, rfl⟩
          rw [ht2] at hb1 hb2 hand2
          have e0 : wr.cell? ⟨wo.heap.size, 0, none⟩ = some (.int .i64 0) := cell_of_row wr _ 0 _ _ (0, 0) hbq
          have hz0' : (0 : Int) ≤ (z : Int) := by omega
          have hz1'' : (z : Int) < 10 := by omega
          have HB1 := Lib.hid hb1
          have HSUB := Lib.hid hsub
          have HAND2 := Lib.hid hand2
          have HE := Lib.hid hE.out
          have HOQ := Lib.hid hoq
          have HGQ := Lib.hid hgq
          have HBQ := Lib.hid hbq
          have HTQ := Lib.hid htq
          have HQB := Lib.hid hqb
          have HCQ := Lib.hid hcq
          have hbl := heap_lt hbq
          have hll : (ql ++ dn).length ≤ 2000 := by rw [List.length_append]; omega
          obtain ⟨L, hL⟩ : ∃ L, (ql ++ dn).length = L := ⟨_, rfl⟩
          rw [hL] at hll hq1
          have HL := Lib.hid hL
          rw [hL]
          clear hb1 hsub hand2 hE hoq hgq hbq htq hqb hcq hz3 ht2 hL
          have hwz : IntKind.i64.wrap (z : Int) = (z : Int) := IntWalk.i64_in _ (by omega)
          have hsum : IntKind.i64.wrap (IntKind.i64.wrap 0 + (z : Int)) = (z : Int) := by rw [show IntKind.i64.wrap 0 = 0 from rfl, Int.zero_add]; exact hwz
          have HSUM := Lib.hid hsum
          have htd : Tab wr.drew := HTQ.out
          have hod : wr.drew.ownsRow base 3 1 (.slice A3 L c3) L ((ql ++ dn).map nv) := by
            have := HOQ.out
            unfold Own at this
            rw [HL.out] at this
            exact this
          have HOD := Lib.hid hod
          have HTD := Lib.hid htd
          have hqlt := Lib.hid (World.ownsRow.lt hod)
          have HQB2 := Lib.hid (show ∀ b, (Value.slice A3 L c3).ownBlock = some b → q0.ownBlock = some b ∨ wo.heap.size < b by
            have := HQB.out
            rw [HL.out] at this
            exact this)
          have hnb : some wo.heap.size ≠ (Value.slice A3 L c3).ownBlock := fun e => by
            rcases HQB2.out _ e.symm with h | h
            · have := (HO.out.lt _ h).2
              omega
            · omega
          clear hod htd hsum
          go_wp2_with fail
          go_region_held3 (fun W => W.cell? ⟨wo.heap.size, 0, none⟩ = some (.int .i64 0))
            (first | go_keep | exact hce)
            (first
              | (go_at_call 96; refine (HTZ.out _ HTD.out).mono ?_; rintro e w' ⟨rfl, rfl⟩)
              | (refine step_append_lies _ (by rfl) (.tmp 38) (.tmp 45) 22 (by rfl) base 3 i0 _ 1 8 Tryd.underlying22 hi0 hz0 hz1 hz2' rfl (by decide) (.slice A3 L c3) L ((ql ++ dn).map nv) (by rfl) (own_of_block HOD.out (fun b hb => Below.heap_alloc _ _ _ ((hqlt.out b hb).2))) ⟨wr.heap.size, 0, none⟩ 1 1 [.int .i64 (IntKind.i64.wrap (IntKind.i64.wrap 0 + (z : Int)))] (by rfl) (by rfl) (fun j u hu => cell_one_new wr _ _ j u hu) (by simp [Value.oneCell']) (by decide) (by simp only [maxLen]; omega) (by omega) (by simp; omega) (wr.heap.size + 1) (by simp) ?_; intro gg cap3 w3 hown3 hgrow hat hlt3; have hce := hgrow.cell (a := ⟨wo.heap.size, 0, none⟩) ((World.cell?_alloc_lt wr _ _ (by show wo.heap.size < _; omega)).trans e0) hnb))
          rw [HSUM.out] at hown3
          go_wp2_with fail
          have hks : ∀ b, b < wr.heap.size → (Value.slice A3 L c3).ownBlock ≠ some b → w3.heap[b]? = wr.heap[b]? := fun b hb hne => (hgrow.block b (by simp; omega) (fun e => hne e.symm)).trans (Below.heap_alloc _ _ _ hb)
          have htb : 0 < wo.heap.size := World.block_lt_of_cell? wo _ (HT.out 0 (by omega))
          have hlen : (ql ++ (dn ++ [z])).length = L + 1 := by rw [← HL.out]; simp [Nat.add_assoc]
          have hrow : w3.ownsRow base 3 1 (.slice (some ⟨gg, 0, none⟩) (ql ++ (dn ++ [z])).length cap3) (ql ++ (dn ++ [z])).length ((ql ++ (dn ++ [z])).map nv) := by
            rw [hlen, show (ql ++ (dn ++ [z])).map nv = (ql ++ dn).map nv ++ [.int .i64 (z : Int)] by simp [nv]]
            exact hown3
          go_roundw
          case rel =>
            refine ⟨dn ++ [z], t2, by rw [HAND2.out], by omega, Lib.hid ?_, ?_, ?_, ?_, ?_, ?_, ?_⟩
            · rw [List.append_assoc]
              show dn ++ (z :: bitsL t2) = _
              rw [← HB1.out]
              exact HE.out
            · rw [← hlen]
              exact hrow
            · exact Wrd.keep HGQ.out (hks gs (by omega) (fun e => (HQB2.out _ e).elim hd (by omega)))
            · exact (hks _ hbl (Ne.symm hnb)).trans HBQ.out
            · exact HTQ.out.keep (hks _ (by omega) (fun e => (HQB2.out _ e).elim hz2 (by omega)))
            · intro b hb
              obtain rfl : gg = b := by injection hb
              rcases hat with h | h
              · exact HQB2.out _ h
              · exact .inr (by omega)
            · exact ((HCQ.out.alloc _).drew).grown hgrow (fun k hk hlt => (HQB2.out k hk).elim .inr (fun h => by omega))
          case measure =>
            rw [HAND2.out]
            simp [intOf]
            omega
    · have HQ := Lib.hid (And.intro hq1 (And.intro hq2 (And.intro hq3 hq4)))
      clear hq1 hq2 hq3 hq4
      go_wp2_with fail
      go_ret
      exact ⟨_, rfl, HQ.out.1, HQ.out.2.1, HQ.out.2.2.1, HQ.out.2.2.2⟩
end Go.Proofs.YtdebnnigbbjbcaaDoor
