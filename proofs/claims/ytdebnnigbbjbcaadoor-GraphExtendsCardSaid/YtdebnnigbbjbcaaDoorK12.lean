/-
  slices.Backward at []int hands back an iterator over the slice from its end: every loop body that keeps the slice and its box sees the places and elements, the last first. Condition: the slice holds integers.
  graph.components: what it computes, as a function on lists; what the walk of it wants of memory.
  The invariant of the second search in graph.components, and its steps. No function of the program is walked here.
-/
import Derived.RangeFuncNested
import Derived.RangeFuncBound
import Derived.RangeFuncCalls
import Derived.RangeFuncLeaves
import Derived.RangeFuncBox
import Derived.Shelf.Abstract
import Derived.Shelf.RegionOpen
import Derived.WalkKit
import Derived.OwnWalkIn
import Derived.TacticsInMore
import Derived.LoopNIn
import Derived.LoopIn
import Derived.Test.YtdebnnigbbjbcaaDoorK10
import Derived.Test.YtdebnnigbbjbcaaDoorK11

namespace Go.Proofs.YtdebnnigbbjbcaaDoor
open Go Go.RowKit Go.Shelf
attribute [local go_sem] Oper.semAt_some

/-- The blocks of X lie as they lay, and no block has gone. -/
def Keeps (X : Nat → Prop) (W W' : World) : Prop := W.heap.size ≤ W'.heap.size ∧ ∀ k, X k → W'.heap[k]? = W.heap[k]?
theorem Keeps.refl (X : Nat → Prop) (W : World) : Keeps X W W := ⟨Nat.le_refl _, fun _ _ => rfl⟩
theorem Keeps.trans {X : Nat → Prop} {A B C : World} (h : Keeps X A B) (k : Keeps X B C) : Keeps X A C := ⟨Nat.le_trans h.1 k.1, fun i hi => (k.2 i hi).trans (h.2 i hi)⟩
theorem Keeps.cell {X : Nat → Prop} {A B : World} (h : Keeps X A B) {b o : Nat} (hb : X b) : B.cell? ⟨b, o, none⟩ = A.cell? ⟨b, o, none⟩ := World.cell?_of_block (w := A) (h.2 b hb)
theorem Keeps.putObj {X : Nat → Prop} {m : Nat} (hX : ∀ k, X k → k < m) (W : World) (l : Nat) (o o' : Obj) (hl : m ≤ l) (_ : W.heap[l]? = some o) : Keeps X W (W.putObj l o') :=
  ⟨by simp, fun k hk => World.putObj_heap_other (by have := hX k hk; omega)⟩
theorem Keeps.setCell {X : Nat → Prop} {A W : World} (h : Keeps X A W) {b o : Nat} (hb : ¬ X b) (u : Value) : Keeps X A (W.setCell ⟨b, o, none⟩ u) :=
  h.trans ⟨by simp [World.setCell], fun k hk => Below.heap_setCell _ _ _ _ (by rintro rfl; exact hb hk)⟩


/-- The pairs (place, element), from the end. -/
def back {N : Nat} (zs : List (Fin N)) : List (Int × Fin N) := zs.reverse.zipIdx.map fun p => (((zs.length - 1 - p.2 : Nat) : Int), p.1)
theorem back_length {N : Nat} (zs : List (Fin N)) : (back zs).length = zs.length := by simp [back]
theorem back_at {N : Nat} (zs : List (Fin N)) {k i : Nat} {z : Fin N} (hi : k + i + 1 = zs.length) (hz : zs[i]? = some z) : (back zs)[k]? = some ((i : Int), z) := by
  unfold back
  rw [List.getElem?_map, List.getElem?_zipIdx, List.getElem?_reverse (by omega)]
  have e : zs.length - 1 - k = i := by omega
  rw [e, hz]
  simp [e]
theorem back_vals {N : Nat} (zs : List (Fin N)) : (back zs).map Prod.snd = zs.reverse := by
  unfold back
  rw [List.map_map]
  have : (Prod.snd ∘ fun p : Fin N × Nat => (((zs.length - 1 - p.2 : Nat) : Int), p.1)) = Prod.fst := rfl
  rw [this, List.zipIdx_map_fst]

set_option maxHeartbeats 400000 in
theorem backward_any (A : Option Addr) (n c : Nat) (w : World) :
    Calls Tryd.prog 55 #[.slice A n c] w fun e w' => e = .returned (.func (.func 76) #[] #[.pointer (some ⟨w.heap.size, 0, none⟩)]) ∧ w' = w.alloc (.cells #[.slice A n c] 22) := by
  go_enter Tryd.func55, Tryd.ntmps55
  go_wp2
  go_ret
  exact ⟨rfl, rfl⟩

set_option maxRecDepth 100000 in
set_option maxHeartbeats 1000000 in
theorem back_in {N : Nat} (n : Nat) (hn : 1 ≤ n) (l Bs : Nat) (X : Nat → Prop) (A : Option Addr) (len cap : Nat) (zs : List (Fin N)) (hB : X Bs) (hL : len ≤ 100000) (hz : zs.length = len) (J Jx : List (Int × Fin N) → World → Prop)
    (hY : ∀ pre x W, J pre W → pre.length < len → YieldAt Fence.wide (n - 1) Tryd.prog l #[.int .i64 x.1, .int .i64 ((x.2.1 : Nat) : Int)] W fun e W' =>
      (e = .returned (.bool true) ∧ J (pre ++ [x]) W' ∧ Keeps X W W') ∨ (e = .returned (.bool false) ∧ Jx (pre ++ [x]) W'))
    (W : World) (hBs : W.cell? ⟨Bs, 0, none⟩ = some (.slice A len cap)) (hc : 0 < len → ∃ b off, A = some ⟨b, off, none⟩ ∧ X b ∧ ∀ j z, zs[j]? = some z → W.cell? ⟨b, off + j, none⟩ = some (.int .i64 ((z.1 : Nat) : Int))) (h0 : J [] W) :
    CallsIn Fence.wide n Tryd.prog 76 #[.func (.yield l) #[] #[], .pointer (some ⟨Bs, 0, none⟩)] W fun e W' => (∃ v, e = .returned v) ∧
      ((∃ ys, ys = back zs ∧ J ys W') ∨ (∃ pre, True ∧ Jx pre W')) := by
  refine callsIn_of_wp Tryd.func76 rfl trivial ?_ rfl
  simp only [Tryd.ntmps76, List.size_toArray, List.length_cons, List.length_nil, Nat.reduceAdd, Nat.reduceSub, Array.replicate_succ, Array.replicate_zero, List.push_toArray, List.append_toArray, List.nil_append, List.cons_append]
  gi_wp2
  gi_loopw [3] (fun i wr => ∃ k : Nat, k ≤ len ∧ i = .int .i64 ((len : Int) - 1 - k) ∧ J ((back zs).take k) wr ∧ Keeps X W wr)
    (fun i _ => (intOf i + 1).toNat)
  case atStart => exact ⟨0, Nat.zero_le _, by simp, by simpa using h0, Keeps.refl _ _⟩
  case round =>
    obtain ⟨k, hk, rfl, hJs, hnx⟩ := hrel
    have hbx : wr.cell? ⟨Bs, 0, none⟩ = some (.slice A len cap) := (hnx.cell hB).trans hBs
    by_cases hlt : k < len
    · obtain ⟨i, hi⟩ : ∃ i : Nat, len - 1 - k = i := ⟨_, rfl⟩
      have hii : (len : Int) - 1 - k = i := by omega
      rw [hii]
      have hil : i < len := by omega
      obtain ⟨b, off, rfl, hXb, hcs⟩ := hc (by omega)
      obtain ⟨x, hx⟩ : ∃ x, zs[i]? = some x := ⟨_, List.getElem?_eq_getElem (by omega)⟩
      have hcw := (hnx.cell (o := off + i) hXb).trans (hcs i x hx)
      obtain ⟨fn, tmps, assign, body, hy, hR⟩ := hY _ ((i : Int), x) wr hJs (by rw [List.length_take, back_length]; omega)
      dsimp only at hy
      have hsu := back_at zs (k := k) (i := i) (by omega) hx
      have HSU := Lib.hid hsu
      have hik1 : (k : Int) + i + 1 ≤ len := by omega
      have hik2 : (len : Int) ≤ k + i + 1 := by omega
      obtain ⟨y, hyv⟩ : ∃ y : Nat, x.1 = y := ⟨_, rfl⟩
      rw [hyv] at hcw hy
      clear hY hJs hcs hc hi hx hii hz hsu hyv
      gi_wp2
      all_goals
        refine hR.mono ?_
        rintro e W3 (⟨rfl, hJ3, hk3⟩ | ⟨rfl, hJx3⟩)
        · gi_wp2
          go_roundw
          case rel => exact ⟨k + 1, by omega, by congr 1; omega, by rw [take_snoc' HSU.out]; exact hJ3, hnx.trans hk3⟩
          case measure => simp [intOf]
        · gi_wp2
          refine bodyPost_ret (results_none rfl _ _ _) rfl ?_
          exact ⟨⟨_, rfl⟩, .inr ⟨_, trivial, hJx3⟩⟩
    · have hk2 : k = len := by omega
      subst hk2
      have hneg : (k : Int) - 1 - k = -1 := by omega
      rw [hneg]
      have hall : (back zs).take k = back zs := List.take_of_length_le (by rw [back_length]; omega)
      rw [hall] at hJs
      gi_wp2
      go_end0
      exact ⟨⟨_, rfl⟩, .inl ⟨_, rfl, hJs⟩⟩

/-- **The iterator gives the slice from its end.** -/
theorem back_stops {N : Nat} (n : Nat) (hn : 1 ≤ n) (Bs : Nat) (X : Nat → Prop) (A : Option Addr) (len cap : Nat) (zs : List (Fin N)) (hB : X Bs) (hL : len ≤ 100000) (hz : zs.length = len) (w : World)
    (hBs : Bs < w.heap.size) (hbx : w.cell? ⟨Bs, 0, none⟩ = some (.slice A len cap))
    (hc : 0 < len → ∃ b off, A = some ⟨b, off, none⟩ ∧ X b ∧ b < w.heap.size ∧ ∀ j z, zs[j]? = some z → w.cell? ⟨b, off + j, none⟩ = some (.int .i64 ((z.1 : Nat) : Int))) :
    SeqStopsK Fence.wide n Tryd.prog 76 #[.pointer (some ⟨Bs, 0, none⟩)] (fun x : Int × Fin N => #[Value.int .i64 x.1, Value.int .i64 ((x.2.1 : Nat) : Int)]) (Keeps X) (fun ys => ys = back zs) (fun _ => True) len w :=
  fun l J Jx W hW _ _ hY h0 =>
    back_in n hn l Bs X A len cap zs hB hL hz J Jx hY W ((hW.cell (p := ⟨Bs, 0, none⟩) hBs).trans hbx)
      (fun h => by
        obtain ⟨b, off, e, hx, hb, hj⟩ := hc h
        exact ⟨b, off, e, hx, fun j z hjl => (hW.cell (p := ⟨b, off + j, none⟩) hb).trans (hj j z hjl)⟩) h0
end Go.Proofs.YtdebnnigbbjbcaaDoor

namespace Go.Proofs.YtdebnnigbbjbcaaDoor
open Go Go.RowKit

def sortN (l : List Nat) : List Nat := l.mergeSort fun x y => decide (x ≤ y)
theorem sortN_ints (l : List Nat) : sortI (ints l) = ints (sortN l) := by
  unfold sortI ints sortN
  rw [List.map_mergeSort]
  intro a _ b _
  by_cases h : a ≤ b
  · simp [h]
  · simp [h]
theorem sortN_len (l : List Nat) : (sortN l).length = l.length := by simp [sortN]
/-- One tree of the second search. -/
def compStep (pn : List (List Nat)) (n : Nat) (s : List Bool × List (List Nat)) (v : Nat) : List Bool × List (List Nat) :=
  ((dfs pn (n + 1) v (s.1, [])).1, if (dfs pn (n + 1) v (s.1, [])).2 = [] then s.2 else s.2 ++ [sortN (dfs pn (n + 1) v (s.1, [])).2])
def compFold (pn : List (List Nat)) (n : Nat) (l : List Nat) (s : List Bool × List (List Nat)) : List Bool × List (List Nat) := l.foldl (compStep pn n) s
theorem compFold_snoc (pn : List (List Nat)) (n : Nat) (l : List Nat) (v : Nat) (s : List Bool × List (List Nat)) : compFold pn n (l ++ [v]) s = compStep pn n (compFold pn n l s) v := by
  unfold compFold
  rw [List.foldl_append]
  rfl
theorem dfs_out_lt (nx : List (List Nat)) (n f : Nat) : ∀ v s, s.1.length = n → (∀ x ∈ s.2, x < n) → ∀ x ∈ (dfs nx f v s).2, x < n := by
  induction f with
  | zero => exact fun v s _ h => h
  | succ f ih =>
    have hL : ∀ l s, s.1.length = n → (∀ x ∈ s.2, x < n) → ∀ x ∈ (dfsL nx f l s).2, x < n := by
      intro l
      induction l with
      | nil => exact fun s _ h => h
      | cons y ys ihl => exact fun s hs h => ihl _ ((dfs_step nx f y s).len.trans hs) (ih y s hs h)
    intro v s hs h
    by_cases hv : s.1[v]?.getD true = true
    · rw [dfs_seen nx f v s hv]
      exact h
    · have hv2 : s.1[v]? = some false := by
        cases he : s.1[v]? with
        | none => rw [he] at hv; simp at hv
        | some b => rw [he] at hv; cases b <;> simp_all
      rw [dfs_new nx f v s hv2]
      intro x hx
      rcases List.mem_append.1 hx with hx | hx
      · exact hL (nb nx v) (s.1.set v true, s.2) (by simpa using hs) h x hx
      · rw [List.mem_singleton.1 hx, ← hs]
        exact (List.getElem?_eq_some_iff.1 hv2).1
theorem dfsL_out_lt (nx : List (List Nat)) (n f : Nat) : ∀ l s, s.1.length = n → (∀ x ∈ s.2, x < n) → ∀ x ∈ (dfsL nx f l s).2, x < n := by
  intro l
  induction l with
  | nil => exact fun s _ h => h
  | cons y ys ihl => exact fun s hs h => ihl _ ((dfs_step nx f y s).len.trans hs) (dfs_out_lt nx n f y s hs h)
theorem exists_fin (n : Nat) (l : List Nat) (h : ∀ x ∈ l, x < n) : ∃ zs : List (Fin n), zs.map Fin.val = l := by
  induction l with
  | nil => exact ⟨[], rfl⟩
  | cons x xs ih =>
    obtain ⟨zs, hz⟩ := ih fun y hy => h y (List.mem_cons_of_mem _ hy)
    exact ⟨⟨x, h x List.mem_cons_self⟩ :: zs, by simp [hz]⟩
def leftOf (nx : List (List Nat)) : List Nat := (dfsL nx (nx.length + 1) (List.range nx.length) (List.replicate nx.length false, [])).2
def partsOf (nx : List (List Nat)) : List (List Nat) := (compFold (preds nx) nx.length (leftOf nx).reverse (List.replicate nx.length false, [])).2
/-- What a fold of trees keeps. -/
theorem compStep_len (pn : List (List Nat)) (n : Nat) (s : List Bool × List (List Nat)) (v : Nat) : (compStep pn n s v).1.length = s.1.length ∧ (∀ l ∈ (compStep pn n s v).2, l ∈ s.2 ∨ l.length ≤ unv s.1) ∧ unv (compStep pn n s v).1 ≤ unv s.1 ∧ (compStep pn n s v).2.length + unv (compStep pn n s v).1 ≤ s.2.length + unv s.1 := by
  have h := dfs_step pn (n + 1) v (s.1, [])
  have h1 := h.len
  have h2 := h.unv_
  have h3 := h.all
  simp only [List.length_nil, Nat.zero_add] at h1 h2 h3
  unfold compStep
  refine ⟨h1, ?_, h2, ?_⟩
  · intro l hl
    by_cases he : (dfs pn (n + 1) v (s.1, [])).2 = []
    · rw [if_pos he] at hl
      exact .inl hl
    · rw [if_neg he] at hl
      rcases List.mem_append.1 hl with h | h
      · exact .inl h
      · rw [List.mem_singleton.1 h, sortN_len]
        exact .inr (by omega)
  · by_cases he : (dfs pn (n + 1) v (s.1, [])).2 = []
    · simp only [if_pos he]
      omega
    · simp only [if_neg he, List.length_append, List.length_cons, List.length_nil]
      have : 0 < (dfs pn (n + 1) v (s.1, [])).2.length := List.length_pos_iff.2 he
      omega
theorem compFold_len (pn : List (List Nat)) (n N : Nat) (l : List Nat) (s : List Bool × List (List Nat)) (hs : unv s.1 ≤ N) (hl : ∀ x ∈ s.2, x.length ≤ N) (ha : s.2.length + unv s.1 ≤ N) :
    (compFold pn n l s).1.length = s.1.length ∧ unv (compFold pn n l s).1 ≤ N ∧ (∀ x ∈ (compFold pn n l s).2, x.length ≤ N) ∧ (compFold pn n l s).2.length + unv (compFold pn n l s).1 ≤ N := by
  induction l generalizing s with
  | nil => exact ⟨rfl, hs, hl, ha⟩
  | cons v vs ih =>
    obtain ⟨h1, h2, h3, h4⟩ := compStep_len pn n s v
    obtain ⟨k1, k2, k3, k4⟩ := ih (compStep pn n s v) (by omega) (fun x hx => by
      rcases h2 x hx with h | h
      · exact hl x h
      · omega) (by omega)
    exact ⟨k1.trans h1, k2, k3, k4⟩

/-- A search may start anew at a later block, its list empty. -/
theorem Env.more {W : World} {M M' lo hi g bv gv bn bs bl L B c : Nat} {cs : Array Value} {nx : List (List Nat)} (h : Env W M lo hi g bv gv bn bs bl L B c cs nx) (hM : M ≤ M') : Env W M' lo hi g bv gv bn bs bl L B c cs nx := by
  obtain ⟨b1, b2, b3, b4, b5, b6⟩ := h.below
  exact ⟨h.rows, Nat.le_trans h.hi_ hM, h.cv, h.cn, h.csb, h.cl, ⟨by omega, by omega, by omega, by omega, by omega, by omega⟩, h.apart⟩
theorem Env.keep {W W' : World} {M lo hi g bv gv bn bs bl L B c : Nat} {cs : Array Value} {nx : List (List Nat)} (h : Env W M lo hi g bv gv bn bs bl L B c cs nx) (hk : ∀ b, b < M → b ≠ gv → b ≠ B → W'.heap[b]? = W.heap[b]?) : Env W' M lo hi g bv gv bn bs bl L B c cs nx := by
  obtain ⟨b1, b2, b3, b4, b5, b6⟩ := h.below
  obtain ⟨a1, a2, a3, a4, a5, a6, a7, a8, a9, a10, a11⟩ := h.apart
  have hh := h.hi_
  exact ⟨h.rows.keep fun b h1 h2 => hk b (by omega) (by omega) (by omega), h.hi_, (hk _ b1 a1 a5).trans h.cv, (hk _ b2 a2 a6).trans h.cn, (hk _ b3 a3 a7).trans h.csb, (hk _ b4 a4 a8).trans h.cl, h.below, h.apart⟩
theorem Env.keepIn {W W' : World} {M lo hi g bv gv bn bs bl L B c q : Nat} {cs : Array Value} {nx : List (List Nat)} (h : Env W M lo hi g bv gv bn bs bl L B c cs nx) (h1 : q ≤ lo) (h2 : q ≤ bv) (h3 : q ≤ bn) (h4 : q ≤ bs) (h5 : q ≤ bl) (hk : ∀ b, q ≤ b → b < M → b ≠ gv → b ≠ B → W'.heap[b]? = W.heap[b]?) : Env W' M lo hi g bv gv bn bs bl L B c cs nx := by
  obtain ⟨b1, b2, b3, b4, b5, b6⟩ := h.below
  obtain ⟨a1, a2, a3, a4, a5, a6, a7, a8, a9, a10, a11⟩ := h.apart
  have hh := h.hi_
  exact ⟨h.rows.keep fun b h1 h2 => hk b (by omega) (by omega) (by omega) (by omega), h.hi_, (hk _ h2 b1 a1 a5).trans h.cv, (hk _ h3 b2 a2 a6).trans h.cn, (hk _ h4 b3 a3 a7).trans h.csb, (hk _ h5 b4 a4 a8).trans h.cl, h.below, h.apart⟩
end Go.Proofs.YtdebnnigbbjbcaaDoor

namespace Go.Proofs.YtdebnnigbbjbcaaDoor
open Go Go.RowKit Go.Shelf

theorem All.keep {W W' : World} {lo : Nat} {av : Value} {xs : List (List Nat)} (h : All W lo av xs) (hk : ∀ (b : Nat) (C : Array Value) (t : TypeId), lo ≤ b → W.heap[b]? = some (.cells C t (0, 0)) → W'.heap[b]? = W.heap[b]?) : All W' lo av xs := by
  obtain ⟨vs, ho, hr⟩ := h
  refine ⟨vs, own_of_block ho fun b hb => ?_, fun i v l hv hl => (hr i v l hv hl).keep fun b hb => ?_⟩
  · rcases ho.2 with ⟨e, _⟩ | ⟨g, cap, cur, e, h1, h2, _⟩
    · rw [e] at hb; cases hb
    · rw [e] at hb
      have e2 : g = b := by simpa [Value.ownBlock] using hb
      subst e2
      exact hk g _ _ h1 h2
  · rcases (hr i v l hv hl).2 with ⟨e, _⟩ | ⟨g, cap, cur, e, h1, h2, _⟩
    · rw [e] at hb; cases hb
    · rw [e] at hb
      have e2 : g = b := by simpa [Value.ownBlock] using hb
      subst e2
      exact hk g _ _ h1 h2
theorem All.more {W : World} {lo lo' : Nat} {av : Value} {xs : List (List Nat)} (h : All W lo av xs) (hl : lo' ≤ lo) : All W lo' av xs := by
  obtain ⟨vs, ho, hr⟩ := h
  refine ⟨vs, ⟨ho.1, ?_⟩, fun i v l hv hl' => (hr i v l hv hl').base_ fun b hb => by have := ((hr i v l hv hl').lt b hb).1; omega⟩
  rcases ho.2 with h0 | ⟨g, cap, cur, e, h1, h2⟩
  · exact .inl h0
  · exact .inr ⟨g, cap, cur, e, by omega, h2⟩
/-- One row more. -/
theorem All.push {W W5 : World} {lo : Nat} {av v' sv : Value} {xs : List (List Nat)} {l : List Nat} {o : Obj} {vs : List Value} (ho : W.ownsRow lo 22 1 av xs.length vs) (hr : ∀ (i : Nat) (v : Value) (l : List Nat), vs[i]? = some v → xs[i]? = some l → Own W lo v l) (hs : Own W lo sv l)
    (hg : (W.alloc o).grownBy W5 av.ownBlock) (hown : W5.ownsRow lo 22 1 v' (xs.length + 1) (vs ++ [sv])) : All W5 lo v' (xs ++ [l]) := by
  have hvl : vs.length = xs.length := by have := ho.1; simpa using this
  have key : ∀ (v : Value) (m : List Nat), Own W lo v m → Own W5 lo v m := fun v m h => h.keep fun b hb => by
    have hlt := (h.lt b hb).2
    refine (hg.block b (by simp; omega) fun e => ?_).trans (Below.heap_alloc _ _ _ hlt)
    rcases ho.2 with ⟨e1, _⟩ | ⟨g, _, _, e1, _, h2, _⟩
    · rw [e1] at e; cases e
    · rw [e1] at e
      have e2 : b = g := by simpa [Value.ownBlock] using e
      rcases h.2 with ⟨e3, _⟩ | ⟨g', _, _, e3, _, h4, _⟩
      · rw [e3] at hb; cases hb
      · rw [e3] at hb
        have e4 : g' = b := by simpa [Value.ownBlock] using hb
        exact heapT_ne h2 h4 (by decide) (by omega)
  refine ⟨vs ++ [sv], by rw [List.length_append]; exact hown, fun i v m hv hm => ?_⟩
  by_cases hi : i < xs.length
  · rw [List.getElem?_append_left (by omega)] at hv
    rw [List.getElem?_append_left hi] at hm
    exact key v m (hr i v m hv hm)
  · rw [List.getElem?_append_right (by omega)] at hv hm
    rw [hvl] at hv
    have h0 : i - xs.length = 0 := by
      rcases Nat.eq_zero_or_pos (i - xs.length) with h | h
      · exact h
      · rw [List.getElem?_eq_none (by simp; omega)] at hv
        cases hv
    rw [h0] at hv hm
    simp at hv hm
    subst hv hm
    exact key _ _ hs

/-- The numbers of blocks that stay through the second search. -/
structure Nums where
  M : Nat
  M0 : Nat
  lo : Nat
  hi : Nat
  gp : Nat
  bv : Nat
  gv : Nat
  bn : Nat
  bs : Nat
  bl : Nat
  bc : Nat
  ba : Nat
  bx : Nat
  q : Nat
structure Nums.ok (N : Nums) : Prop where
  m : N.M ≤ N.M0
  ba : N.ba < N.M
  bx : N.bx < N.M
  bag : N.ba ≠ N.gv
  bxg : N.bx ≠ N.gv
  bac : N.ba ≠ N.bc
  bxc : N.bx ≠ N.bc
  bab : N.ba ≠ N.bx
  q1 : N.q ≤ N.lo
  q2 : N.q ≤ N.bv
  q3 : N.q ≤ N.bn
  q4 : N.q ≤ N.bs
  q5 : N.q ≤ N.bl
  q6 : N.ba < N.q
/-- What holds between two trees. -/
structure CInv (N : Nums) (n B0 : Nat) (ds : Array Value) (pn : List (List Nat)) (clo : Value) (w0 : World) (st : List Bool × List (List Nat)) (W : World) : Prop where
  env : Env W N.M N.lo N.hi N.gp N.bv N.gv N.bn N.bs N.bl 54 N.bc n ds pn
  vis : W.heap[N.gv]? = some (.cells (st.1.map Value.bool).toArray 4 (0, 0))
  part : ∃ A m c', W.heap[N.bc]? = some (.cells #[.slice A m c'] 22 (0, 0))
  all : ∃ A m c', W.heap[N.ba]? = some (.cells #[.slice A m c'] 37 (0, 0)) ∧ All W N.M0 (.slice A m c') st.2
  var : W.heap[N.bx]? = some (.cells #[clo] 54 (0, 0))
  below : Below B0 w0 W
  size : N.M0 ≤ W.heap.size
section
variable {N : Nums} {n B0 : Nat} {ds : Array Value} {pn : List (List Nat)} {clo : Value} {w0 W W' : World} {st : List Bool × List (List Nat)}
theorem CInv.turn (h : CInv N n B0 ds pn clo w0 st W) (hN : N.ok) (hB : B0 ≤ N.M0) {row : Option Nat} (hg : W.grownBy W' row) (hr : ∀ r, row = some r → N.M0 ≤ r ∧ ∃ o : Obj, W.heap[r]? = some o ∧ o.isCells = false) : CInv N n B0 ds pn clo w0 st W' := by
  have hm := hN.m
  have hs := h.size
  have hbl := h.env.below
  have k1 : ∀ b, b < N.M → W'.heap[b]? = W.heap[b]? := fun b hb => hg.block b (by omega) fun e => by have := (hr b e.symm).1; omega
  have k2 : ∀ (b : Nat) (C : Array Value) (t : TypeId), W.heap[b]? = some (.cells C t (0, 0)) → W'.heap[b]? = W.heap[b]? := fun b C t hb => hg.block b (heap_lt hb) fun e => by
    obtain ⟨o, ho, hc⟩ := (hr b e.symm).2
    rw [hb] at ho
    injection ho with ho
    subst ho
    cases hc
  obtain ⟨A, m, c', a1, a2⟩ := h.all
  obtain ⟨A2, m2, c2, p1⟩ := h.part
  exact ⟨h.env.keep fun b hb _ _ => k1 b hb, (k2 _ _ _ h.vis).trans h.vis, ⟨A2, m2, c2, (k2 _ _ _ p1).trans p1⟩, ⟨A, m, c', (k2 _ _ _ a1).trans a1, a2.keep fun b C t _ hb => k2 b C t hb⟩, (k2 _ _ _ h.var).trans h.var,
    h.below.grown hg (by have := h.below.size; omega) (fun r e => by have := (hr r e).1; omega), Nat.le_trans hs hg.size⟩
/-- A world that lies as W but for the marks, the part's box and what is new. -/
theorem CInv.far (h : CInv N n B0 ds pn clo w0 st W) (hN : N.ok) (hB : B0 ≤ N.gv ∧ B0 ≤ N.bc ∧ B0 ≤ W.heap.size) {vis' : List Bool} (hs : W.heap.size ≤ W'.heap.size) (hos : W'.os = W.os) (htp : W'.tape = W.tape) (hou : W'.output = W.output)
    (hk : ∀ b, b < W.heap.size → b ≠ N.gv → b ≠ N.bc → W'.heap[b]? = W.heap[b]?) (hv : W'.heap[N.gv]? = some (.cells (vis'.map Value.bool).toArray 4 (0, 0))) (hp : ∃ A m c', W'.heap[N.bc]? = some (.cells #[.slice A m c'] 22 (0, 0))) : CInv N n B0 ds pn clo w0 (vis', st.2) W' := by
  have hm := hN.m
  have hsz := h.size
  have hbl := h.env.below
  obtain ⟨A, m, c', a1, a2⟩ := h.all
  have o2 := hN.ba
  have o3 := hN.bx
  have hba := h.below.size
  refine ⟨h.env.keep fun b hb h1 h2 => hk b (by omega) h1 h2, hv, hp, ⟨A, m, c', (hk _ (by omega) hN.bag hN.bac).trans a1, a2.keep fun b C t hb hc => hk b (heap_lt hc) (by omega) (by omega)⟩, (hk _ (by omega) hN.bxg hN.bxc).trans h.var,
    h.below.trans ⟨hos, htp, hou, hs, fun b hb => hk b (by omega) (by omega) (by omega)⟩, by omega⟩
theorem CInv.enter (h : CInv N n B0 ds pn clo w0 st W) (hN : N.ok) :
    Env (W.setCell ⟨N.bc, 0, none⟩ (.slice none 0 0)) W.heap.size N.lo N.hi N.gp N.bv N.gv N.bn N.bs N.bl 54 N.bc n ds pn ∧ Dyn (W.setCell ⟨N.bc, 0, none⟩ (.slice none 0 0)) W.heap.size N.gv N.bc (st.1, []) ∧ (W.setCell ⟨N.bc, 0, none⟩ (.slice none 0 0)).heap[N.bx]? = some (.cells #[clo] 54 (0, 0)) := by
  have hm := hN.m
  have hsz := h.size
  have hE := h.env.apart
  have far : ∀ b, b ≠ N.bc → (W.setCell ⟨N.bc, 0, none⟩ (.slice none 0 0)).heap[b]? = W.heap[b]? := fun b hb => Below.heap_setCell _ _ _ _ hb
  obtain ⟨A, m, c', p1⟩ := h.part
  refine ⟨(h.env.keep fun b _ _ h2 => far b h2).more (by omega), ⟨(far _ hE.2.2.2.2.2.2.2.2.1).trans h.vis, ⟨_, ?_, Own.nil _ _⟩, by simp [World.setCell]⟩, (far _ hN.bxc).trans h.var⟩
  simp only [World.setCell, Array.getElem?_modify]
  simp [p1]
end
theorem CInv.push {N : Nums} {n B0 : Nat} {ds : Array Value} {pn : List (List Nat)} {clo : Value} {w0 W W5 : World} {vis : List Bool} {xs : List (List Nat)} {l : List Nat} {av : Value} {A : Option Addr} {m c : Nat} {o : Obj} (h : CInv N n B0 ds pn clo w0 (vis, xs) W) (hN : N.ok) (hB : B0 ≤ N.ba)
    (hav : ∀ b, av.ownBlock = some b → N.M0 ≤ b) (hg : (W.alloc o).grownBy W5 av.ownBlock) (hA : All W5 N.M0 (.slice A m c) (xs ++ [l])) : CInv N n B0 ds pn clo w0 (vis, xs ++ [l]) (W5.setCell ⟨N.ba, 0, none⟩ (.slice A m c)) := by
  have hm := hN.m
  have hs := h.size
  have hbl := h.env.below
  have o2 := hN.ba
  have o3 := hN.bx
  have hgs := hg.size
  simp at hgs
  have k5 : ∀ b, b < N.M0 → W5.heap[b]? = W.heap[b]? := fun b hb => (hg.block b (by simp; omega) fun e => by have := hav b e.symm; omega).trans (Below.heap_alloc _ _ _ (by omega))
  have k6 : ∀ b, b < N.M0 → b ≠ N.ba → (W5.setCell ⟨N.ba, 0, none⟩ (.slice A m c)).heap[b]? = W.heap[b]? := fun b hb hne => (Below.heap_setCell _ _ _ _ hne).trans (k5 b hb)
  obtain ⟨A1, m1, c1, a1, a2⟩ := h.all
  obtain ⟨A2, m2, c2, p1⟩ := h.part
  have hgv : N.gv < N.M := hbl.2.2.2.2.1
  have hbc : N.bc < N.M := hbl.2.2.2.2.2
  have hgin := h.env.rows.gin
  have hhi := h.env.hi_
  refine ⟨?_, (k6 _ (by omega) (Ne.symm hN.bag)).trans h.vis, ⟨A2, m2, c2, (k6 _ (by omega) (Ne.symm hN.bac)).trans p1⟩, ⟨A, m, c, ?_, hA.keep fun b C t hb _ => Below.heap_setCell _ _ _ _ (by show b ≠ N.ba; omega)⟩, (k6 _ (by omega) (Ne.symm hN.bab)).trans h.var, ?_, by rw [size_setCell]; omega⟩
  · refine Env.keepIn h.env (q := N.q) hN.q1 hN.q2 hN.q3 hN.q4 hN.q5 fun b h1 h2 _ _ => k6 b (by omega) (by have := hN.q6; omega)
  · simp only [World.setCell, Array.getElem?_modify]
    simp [(k5 _ (by omega)).trans a1]
  · refine Below.setCell (h.below.trans ⟨hg.os, hg.tape, hg.output, by omega, fun b hb => ?_⟩) hB _
    have hb0 := h.below.size
    exact k5 b (by omega)

theorem own_cells {W : World} {base n : Nat} {t : TypeId} {v : Value} {xs : List Value} (h : W.ownsRow base t 1 v n xs) : ∀ (j : Nat) (o : Obj), v.ownBlock = some j → W.heap[j]? = some o → o.isCells = true := by
  intro j o hj ho
  rcases h.2 with ⟨e, _⟩ | ⟨g, _, _, e, _, h2, _⟩
  · rw [e] at hj; cases hj
  · rw [e] at hj
    have e2 : g = j := by simpa [Value.ownBlock] using hj
    subst e2
    rw [h2] at ho
    injection ho with ho
    subst ho
    rfl
/-- Whatever is no cells lies as it lay. -/
theorem others_of_chg {S : Nat → Prop} {W W' : World} (h : Chg S W W') (hS : ∀ b (o : Obj), S b → W.heap[b]? = some o → o.isCells = true) : KeepsOthers W W' :=
  ⟨h.size, fun k o hk ho => by
    refine (h.block k (heap_lt hk) fun hs => ?_).trans hk
    rw [hS k o hs hk] at ho
    cases ho⟩
end Go.Proofs.YtdebnnigbbjbcaaDoor
