/-
  hash.wordsOf hands back an iterator over the words of a byte slice: every loop body that keeps the slice and its box sees the words in order. Conditions: the slice holds bytes and is of a length of which we speak.
-/
import Derived.RangeFuncNested
import Derived.RangeFuncBound
import Derived.RangeFuncCalls
import Derived.RangeFuncLeaves
import Derived.RangeFuncBox
import Derived.Shelf.Abstract
import Derived.Shelf.RegionOpen
import Derived.WalkKit
import Derived.OwnWalkIn
import Derived.TacticsInMore
import Derived.LoopNIn
import Derived.LoopIn
import Derived.Test.YtmjonpiaphncmaaWord
namespace Go.Proofs.Ytmjonpiaphncmaa
open Go.RowKit Go.Shelf
attribute [local go_sem] Oper.semAt_some

/-- The blocks of X lie as they lay, and no block has gone. -/
def Keeps (X : Nat → Prop) (W W' : World) : Prop := W.heap.size ≤ W'.heap.size ∧ ∀ k, X k → W'.heap[k]? = W.heap[k]?
theorem Keeps.refl (X : Nat → Prop) (W : World) : Keeps X W W := ⟨Nat.le_refl _, fun _ _ => rfl⟩
theorem Keeps.trans {X : Nat → Prop} {A B C : World} (h : Keeps X A B) (k : Keeps X B C) : Keeps X A C := ⟨Nat.le_trans h.1 k.1, fun i hi => (k.2 i hi).trans (h.2 i hi)⟩
theorem Keeps.cell {X : Nat → Prop} {A B : World} (h : Keeps X A B) {b o : Nat} (hb : X b) : B.cell? ⟨b, o, none⟩ = A.cell? ⟨b, o, none⟩ := World.cell?_of_block (w := A) (h.2 b hb)
theorem Keeps.putObj {X : Nat → Prop} {m : Nat} (hX : ∀ k, X k → k < m) (W : World) (l : Nat) (o o' : Obj) (hl : m ≤ l) (_ : W.heap[l]? = some o) : Keeps X W (W.putObj l o') :=
  ⟨by simp, fun k hk => World.putObj_heap_other (by have := hX k hk; omega)⟩
theorem Keeps.setCell {X : Nat → Prop} {A W : World} (h : Keeps X A W) {b o : Nat} (hb : ¬ X b) (u : Value) : Keeps X A (W.setCell ⟨b, o, none⟩ u) :=
  h.trans ⟨by simp [World.setCell], fun k hk => Below.heap_setCell _ _ _ _ (by rintro rfl; exact hb hk)⟩

/-- The word of group i of a slice is the word of a slice of at most 8 bytes. -/
theorem grp_at (zs : List Int) (i j : Nat) (h : j < (grp zs i).length) : (grp zs i)[j]?.getD 0 = zs[8 * i + j]?.getD 0 := by
  have hl := grp_length zs i
  unfold grp
  rw [List.getElem?_take_of_lt (by omega), List.getElem?_drop]

set_option maxHeartbeats 400000 in
theorem wordsOf_any (A : Option Addr) (n c : Nat) (w : World) :
    Calls Try.prog 25 #[.slice A n c] w fun e w' => e = .returned (.func (.func 28) #[] #[.pointer (some ⟨w.heap.size, 0, none⟩)]) ∧ w' = w.alloc (.cells #[.slice A n c] 30) := by
  go_enter Try.func25, Try.ntmps25
  go_wp2
  go_ret
  exact ⟨rfl, rfl⟩

set_option maxRecDepth 100000 in
set_option maxHeartbeats 1000000 in
theorem words1_in (n : Nat) (hn : 1 ≤ n) (l Bs : Nat) (X : Nat → Prop) (A : Option Addr) (len cap : Nat) (zs : List Int) (hB : X Bs) (hlc : len ≤ cap) (hL : Len len) (hz : zs.length = len) (hbz : ∀ x ∈ zs, B8 x) (J Jx : List Int → World → Prop)
    (hY : ∀ pre x W, J pre W → pre.length < nwords len → YieldAt Fence.wide (n - 1) Try.prog l #[.int .u64 x] W fun e W' =>
      (e = .returned (.bool true) ∧ J (pre ++ [x]) W' ∧ Keeps X W W') ∨ (e = .returned (.bool false) ∧ Jx (pre ++ [x]) W'))
    (W : World) (hBs : W.cell? ⟨Bs, 0, none⟩ = some (.slice A len cap)) (hc : 0 < len → ∃ b off, A = some ⟨b, off, none⟩ ∧ X b ∧ ∀ j, j < len → W.cell? ⟨b, off + j, none⟩ = some (.int .u8 (zs[j]?.getD 0))) (h0 : J [] W) :
    CallsIn Fence.wide n Try.prog 28 #[.func (.yield l) #[] #[], .pointer (some ⟨Bs, 0, none⟩)] W fun e W' => (∃ v, e = .returned v) ∧
      ((∃ ys, ys = wordsI zs ∧ J ys W') ∨ (∃ pre, (∃ k, k ≤ nwords len ∧ pre = wordsTo zs k) ∧ Jx pre W')) := by
  unfold Len at hL
  refine callsIn_of_wp Try.func28 rfl trivial ?_ rfl
  simp only [Try.ntmps28, List.size_toArray, List.length_cons, List.length_nil, Nat.reduceAdd, Nat.reduceSub, Array.replicate_succ, Array.replicate_zero, List.push_toArray, List.append_toArray, List.nil_append, List.cons_append]
  gi_wp2
  gi_loopw [3] (fun i wr => ∃ k : Nat, k ≤ nwords len ∧ i = .int .i64 ((8 * k : Nat) : Int) ∧ J (wordsTo zs k) wr ∧ Keeps X W wr)
    (fun i _ => len + 8 - (intOf i).toNat)
  case atStart => exact ⟨0, Nat.zero_le _, rfl, h0, Keeps.refl _ _⟩
  case round =>
    obtain ⟨k, hk, rfl, hJs, hnx⟩ := hrel
    have hbx : wr.cell? ⟨Bs, 0, none⟩ = some (.slice A len cap) := (hnx.cell hB).trans hBs
    by_cases hlt : 8 * k < len
    · obtain ⟨b, off, rfl, hXb, hcs⟩ := hc (by omega)
      have hk1 : k < nwords len := by unfold nwords; omega
      obtain ⟨fn, tmps, assign, body, hy, hR⟩ := hY _ (leW (grp zs k)) wr hJs (by rw [wordsTo_length]; exact hk1)
      have hcw : ∀ j, j < len → wr.cell? ⟨b, off + j, none⟩ = some (.int .u8 (zs[j]?.getD 0)) := fun j hj => (hnx.cell hXb).trans (hcs j hj)
      have hgl := grp_length zs k
      have hword := Lib.hid (show ∀ (m c' : Nat), m = min 8 (len - 8 * k) → Calls Try.prog 29 #[.slice (some ⟨b, off + 8 * k, none⟩) m c'] wr fun e w' => e = .returned (.int .u64 (leW (grp zs k))) ∧ wr = w' from
        fun m c' hm => wordOf_any (b + 1) _ m c' (grp zs k) wr ⟨by rw [hgl]; omega, fun _ => ⟨b, off + 8 * k, rfl, by omega, fun j hj => by
          rw [grp_at zs k j (by omega), Nat.add_assoc]
          exact hcw _ (by omega)⟩⟩ (fun x hx => hbz x (grp_mem hx)) (by omega))
      clear hY hJs hcs hcw hgl hc
      gi_wp2_with (refine ⟨trivial, ?_⟩; gi_at_call 29; refine (callsIn_wide.2 (hword.out _ _ (by omega))).mono ?_; rintro e w' ⟨rfl, rfl⟩)
      all_goals
        refine hR.mono ?_
        rintro e W3 (⟨rfl, hJ3, hk3⟩ | ⟨rfl, hJx3⟩)
        · -- the round goes on
          gi_wp2
          go_roundw
          case rel => exact ⟨k + 1, by omega, by go_num, by rw [wordsTo_succ]; exact hJ3, hnx.trans hk3⟩
          case measure => simp [intOf]; omega
        · gi_wp2
          refine bodyPost_ret (results_none rfl _ _ _) rfl ?_
          exact ⟨⟨_, rfl⟩, .inr ⟨_, ⟨k + 1, by omega, (wordsTo_succ _ _).symm⟩, hJx3⟩⟩
    · have hk2 : k = nwords len := by unfold nwords at *; omega
      gi_wp2
      go_end0
      exact ⟨⟨_, rfl⟩, .inl ⟨_, rfl, by unfold wordsI; rw [hz, ← hk2]; exact hJs⟩⟩

/-- **hash.wordsOf's iterator gives the words of the slice, in order.** -/
theorem words_stops (n : Nat) (hn : 1 ≤ n) (Bs : Nat) (X : Nat → Prop) (A : Option Addr) (len cap : Nat) (zs : List Int) (hB : X Bs) (hlc : len ≤ cap) (hL : Len len) (hz : zs.length = len) (hbz : ∀ x ∈ zs, B8 x) (w : World)
    (hBs : Bs < w.heap.size) (hbx : w.cell? ⟨Bs, 0, none⟩ = some (.slice A len cap))
    (hc : 0 < len → ∃ b off, A = some ⟨b, off, none⟩ ∧ X b ∧ b < w.heap.size ∧ ∀ j, j < len → w.cell? ⟨b, off + j, none⟩ = some (.int .u8 (zs[j]?.getD 0))) :
    SeqStopsK Fence.wide n Try.prog 28 #[.pointer (some ⟨Bs, 0, none⟩)] (fun x : Int => #[Value.int .u64 x]) (Keeps X) (fun ys => ys = wordsI zs) (fun pre => ∃ k, k ≤ nwords len ∧ pre = wordsTo zs k) (nwords len) w :=
  fun l J Jx W hW _ _ hY h0 =>
    words1_in n hn l Bs X A len cap zs hB hlc hL hz hbz J Jx hY W ((hW.cell (p := ⟨Bs, 0, none⟩) hBs).trans hbx)
      (fun h => by
        obtain ⟨b, off, e, hx, hb, hj⟩ := hc h
        exact ⟨b, off, e, hx, fun j hjl => (hW.cell (p := ⟨b, off + j, none⟩) hb).trans (hj j hjl)⟩) h0
end Go.Proofs.Ytmjonpiaphncmaa
