/-
  (The template XIter under the namespace H, for seats that hold other stages too.) hash.wordsOf hands back an iterator over the words of a byte slice: every loop body that keeps the slice and its box sees the words in order. Conditions: the slice holds bytes and is of a length of which we speak.
  (The template XSum under the namespace H, for seats that hold other stages too.) hash.Sum returns the hash of a label and a list of integers, and writes nothing that was there. Conditions: the slice holds integers; the lengths are such of which we speak.
-/
import Derived.RangeFuncNested
import Derived.RangeFuncBound
import Derived.RangeFuncCalls
import Derived.RangeFuncLeaves
import Derived.RangeFuncBox
import Derived.Shelf.Abstract
import Derived.Shelf.RegionOpen
import Derived.WalkKit
import Derived.OwnWalkIn
import Derived.TacticsInMore
import Derived.LoopNIn
import Derived.LoopIn
import Derived.Test.YtjbmmagaeaphoaaDoorK24
import Derived.Laws.IdiomStrings

namespace Go.Proofs.YtjbmmagaeaphoaaDoor.H
open Go.RowKit Go.Shelf
attribute [local go_sem] Oper.semAt_some

/-- The blocks of X lie as they lay, and no block has gone. -/
def Keeps (X : Nat → Prop) (W W' : World) : Prop := W.heap.size ≤ W'.heap.size ∧ ∀ k, X k → W'.heap[k]? = W.heap[k]?
theorem Keeps.refl (X : Nat → Prop) (W : World) : Keeps X W W := ⟨Nat.le_refl _, fun _ _ => rfl⟩
theorem Keeps.trans {X : Nat → Prop} {A B C : World} (h : Keeps X A B) (k : Keeps X B C) : Keeps X A C := ⟨Nat.le_trans h.1 k.1, fun i hi => (k.2 i hi).trans (h.2 i hi)⟩
theorem Keeps.cell {X : Nat → Prop} {A B : World} (h : Keeps X A B) {b o : Nat} (hb : X b) : B.cell? ⟨b, o, none⟩ = A.cell? ⟨b, o, none⟩ := World.cell?_of_block (w := A) (h.2 b hb)
theorem Keeps.putObj {X : Nat → Prop} {m : Nat} (hX : ∀ k, X k → k < m) (W : World) (l : Nat) (o o' : Obj) (hl : m ≤ l) (_ : W.heap[l]? = some o) : Keeps X W (W.putObj l o') :=
  ⟨by simp, fun k hk => World.putObj_heap_other (by have := hX k hk; omega)⟩
theorem Keeps.setCell {X : Nat → Prop} {A W : World} (h : Keeps X A W) {b o : Nat} (hb : ¬ X b) (u : Value) : Keeps X A (W.setCell ⟨b, o, none⟩ u) :=
  h.trans ⟨by simp [World.setCell], fun k hk => Below.heap_setCell _ _ _ _ (by rintro rfl; exact hb hk)⟩

/-- The word of group i of a slice is the word of a slice of at most 8 bytes. -/
theorem grp_at (zs : List Int) (i j : Nat) (h : j < (grp zs i).length) : (grp zs i)[j]?.getD 0 = zs[8 * i + j]?.getD 0 := by
  have hl := grp_length zs i
  unfold grp
  rw [List.getElem?_take_of_lt (by omega), List.getElem?_drop]

set_option maxHeartbeats 400000 in
theorem wordsOf_any (A : Option Addr) (n c : Nat) (w : World) :
    Calls Tryd.prog 43 #[.slice A n c] w fun e w' => e = .returned (.func (.func 62) #[] #[.pointer (some ⟨w.heap.size, 0, none⟩)]) ∧ w' = w.alloc (.cells #[.slice A n c] 66) := by
  go_enter Tryd.func43, Tryd.ntmps43
  go_wp2
  go_ret
  exact ⟨rfl, rfl⟩

set_option maxRecDepth 100000 in
set_option maxHeartbeats 1000000 in
theorem words1_in (n : Nat) (hn : 1 ≤ n) (l Bs : Nat) (X : Nat → Prop) (A : Option Addr) (len cap : Nat) (zs : List Int) (hB : X Bs) (hlc : len ≤ cap) (hL : Len len) (hz : zs.length = len) (hbz : ∀ x ∈ zs, B8 x) (J Jx : List Int → World → Prop)
    (hY : ∀ pre x W, J pre W → pre.length < nwords len → YieldAt Fence.wide (n - 1) Tryd.prog l #[.int .u64 x] W fun e W' =>
      (e = .returned (.bool true) ∧ J (pre ++ [x]) W' ∧ Keeps X W W') ∨ (e = .returned (.bool false) ∧ Jx (pre ++ [x]) W'))
    (W : World) (hBs : W.cell? ⟨Bs, 0, none⟩ = some (.slice A len cap)) (hc : 0 < len → ∃ b off, A = some ⟨b, off, none⟩ ∧ X b ∧ ∀ j, j < len → W.cell? ⟨b, off + j, none⟩ = some (.int .u8 (zs[j]?.getD 0))) (h0 : J [] W) :
    CallsIn Fence.wide n Tryd.prog 62 #[.func (.yield l) #[] #[], .pointer (some ⟨Bs, 0, none⟩)] W fun e W' => (∃ v, e = .returned v) ∧
      ((∃ ys, ys = wordsI zs ∧ J ys W') ∨ (∃ pre, (∃ k, k ≤ nwords len ∧ pre = wordsTo zs k) ∧ Jx pre W')) := by
  unfold Len at hL
  refine callsIn_of_wp Tryd.func62 rfl trivial ?_ rfl
  simp only [Tryd.ntmps62, List.size_toArray, List.length_cons, List.length_nil, Nat.reduceAdd, Nat.reduceSub, Array.replicate_succ, Array.replicate_zero, List.push_toArray, List.append_toArray, List.nil_append, List.cons_append]
  gi_wp2
  gi_loopw [3] (fun i wr => ∃ k : Nat, k ≤ nwords len ∧ i = .int .i64 ((8 * k : Nat) : Int) ∧ J (wordsTo zs k) wr ∧ Keeps X W wr)
    (fun i _ => len + 8 - (intOf i).toNat)
  case atStart => exact ⟨0, Nat.zero_le _, rfl, h0, Keeps.refl _ _⟩
  case round =>
    obtain ⟨k, hk, rfl, hJs, hnx⟩ := hrel
    have hbx : wr.cell? ⟨Bs, 0, none⟩ = some (.slice A len cap) := (hnx.cell hB).trans hBs
    by_cases hlt : 8 * k < len
    · obtain ⟨b, off, rfl, hXb, hcs⟩ := hc (by omega)
      have hk1 : k < nwords len := by unfold nwords; omega
      obtain ⟨fn, tmps, assign, body, hy, hR⟩ := hY _ (leW (grp zs k)) wr hJs (by rw [wordsTo_length]; exact hk1)
      have hcw : ∀ j, j < len → wr.cell? ⟨b, off + j, none⟩ = some (.int .u8 (zs[j]?.getD 0)) := fun j hj => (hnx.cell hXb).trans (hcs j hj)
      have hgl := grp_length zs k
      have hword := Lib.hid (show ∀ (m c' : Nat), m = min 8 (len - 8 * k) → Calls Tryd.prog 63 #[.slice (some ⟨b, off + 8 * k, none⟩) m c'] wr fun e w' => e = .returned (.int .u64 (leW (grp zs k))) ∧ wr = w' from
        fun m c' hm => wordOf_any (b + 1) _ m c' (grp zs k) wr ⟨by rw [hgl]; omega, fun _ => ⟨b, off + 8 * k, rfl, by omega, fun j hj => by
          rw [grp_at zs k j (by omega), Nat.add_assoc]
          exact hcw _ (by omega)⟩⟩ (fun x hx => hbz x (grp_mem hx)) (by omega))
      clear hY hJs hcs hcw hgl hc
      gi_wp2_with (refine ⟨trivial, ?_⟩; gi_at_call 63; refine (callsIn_wide.2 (hword.out _ _ (by omega))).mono ?_; rintro e w' ⟨rfl, rfl⟩)
      all_goals
        refine hR.mono ?_
        rintro e W3 (⟨rfl, hJ3, hk3⟩ | ⟨rfl, hJx3⟩)
        · -- the round goes on
          gi_wp2
          go_roundw
          case rel => exact ⟨k + 1, by omega, by go_num, by rw [wordsTo_succ]; exact hJ3, hnx.trans hk3⟩
          case measure => simp [intOf]; omega
        · gi_wp2
          refine bodyPost_ret (results_none rfl _ _ _) rfl ?_
          exact ⟨⟨_, rfl⟩, .inr ⟨_, ⟨k + 1, by omega, (wordsTo_succ _ _).symm⟩, hJx3⟩⟩
    · have hk2 : k = nwords len := by unfold nwords at *; omega
      gi_wp2
      go_end0
      exact ⟨⟨_, rfl⟩, .inl ⟨_, rfl, by unfold wordsI; rw [hz, ← hk2]; exact hJs⟩⟩

/-- **hash.wordsOf's iterator gives the words of the slice, in order.** -/
theorem words_stops (n : Nat) (hn : 1 ≤ n) (Bs : Nat) (X : Nat → Prop) (A : Option Addr) (len cap : Nat) (zs : List Int) (hB : X Bs) (hlc : len ≤ cap) (hL : Len len) (hz : zs.length = len) (hbz : ∀ x ∈ zs, B8 x) (w : World)
    (hBs : Bs < w.heap.size) (hbx : w.cell? ⟨Bs, 0, none⟩ = some (.slice A len cap))
    (hc : 0 < len → ∃ b off, A = some ⟨b, off, none⟩ ∧ X b ∧ b < w.heap.size ∧ ∀ j, j < len → w.cell? ⟨b, off + j, none⟩ = some (.int .u8 (zs[j]?.getD 0))) :
    SeqStopsK Fence.wide n Tryd.prog 62 #[.pointer (some ⟨Bs, 0, none⟩)] (fun x : Int => #[Value.int .u64 x]) (Keeps X) (fun ys => ys = wordsI zs) (fun pre => ∃ k, k ≤ nwords len ∧ pre = wordsTo zs k) (nwords len) w :=
  fun l J Jx W hW _ _ hY h0 =>
    words1_in n hn l Bs X A len cap zs hB hlc hL hz hbz J Jx hY W ((hW.cell (p := ⟨Bs, 0, none⟩) hBs).trans hbx)
      (fun h => by
        obtain ⟨b, off, e, hx, hb, hj⟩ := hc h
        exact ⟨b, off, e, hx, fun j hjl => (hW.cell (p := ⟨b, off + j, none⟩) hb).trans (hj j hjl)⟩) h0
end Go.Proofs.YtjbmmagaeaphoaaDoor.H

namespace Go.Proofs.YtjbmmagaeaphoaaDoor.H
open Go.RowKit Go.Shelf
attribute [local go_sem] Oper.semAt_some

/-- A string's bytes as integers. -/
def sb (s : ByteArray) : List Int := s.data.toList.map fun b => (b.toNat : Int)
theorem sb_length (s : ByteArray) : (sb s).length = s.size := by unfold sb; rw [List.length_map, Array.length_toList]; rfl
theorem sb_b8 (s : ByteArray) : ∀ x ∈ sb s, B8 x := by
  intro x hx
  obtain ⟨b, _, rfl⟩ := List.mem_map.1 hx
  have := b.toNat_lt
  constructor <;> omega
theorem bytesRow_cell (s : ByteArray) (cap j : Nat) (h : j < s.size) : (bytesRow s cap)[j]? = some (.int .u8 ((sb s)[j]?.getD 0)) := by
  have h' : j < s.data.size := h
  unfold bytesRow sb
  rw [Array.getElem?_append_left (by simpa using h'), Array.getElem?_map, List.getElem?_map, Array.getElem?_toList, Array.getElem?_eq_getElem h']
  rfl
theorem cell_new_row (w : World) (C : Array Value) (e : TypeId) (f : Nat × Nat) (j : Nat) : (w.alloc (.cells C e f)).cell? ⟨w.heap.size, j, none⟩ = C[j]? := by
  unfold World.cell?
  rw [World.alloc_heap_new w (.cells C e f)]
  rfl

theorem fold_step (s2 : Int) (zs : List Int) (k : Nat) (h : k < zs.length) : foldW s2 ((zs.map u64).take (k + 1)) = mixI (foldW s2 ((zs.map u64).take k)) (IntKind.u64.wrap (zs[k]?.getD 0)) := by
  have e : zs.take (k + 1) = zs.take k ++ [zs[k]?.getD 0] := by rw [List.take_add_one, List.getElem?_eq_getElem h]; rfl
  rw [← List.map_take, ← List.map_take, e, List.map_append, foldW_append]
  rfl

set_option maxRecDepth 100000 in
set_option maxHeartbeats 2000000 in
theorem sum_in (n : Nat) (hn : 3 ≤ n) (s : ByteArray) (A : Option Addr) (m c : Nat) (zs : List Int) (w : World) (hI : Ints .i64 w.heap.size w A m zs) (hs : Len s.size) (hm : Len m) :
    CallsIn Fence.wide n Tryd.prog 28 #[.string s, .slice A m c] w fun e w' => e = .returned (.int .u64 (sumI (sb s) zs)) ∧ Below w.heap.size w w' := by
  have h1 : 1 ≤ n := by omega
  have hsl := hs
  unfold Len at hs hm
  have hcv := fun W s => run_bytes_of_string (P := Tryd.prog) W 9 66 5 s Tryd.underlying9 Tryd.underlying66 Tryd.underlying5
  refine callsIn_of_wp_marks Tryd.func28 rfl trivial ?_ rfl
  simp only [Tryd.ntmps28, List.size_toArray, List.length_cons, List.length_nil, Nat.reduceAdd, Nat.reduceSub, Array.replicate_succ, Array.replicate_zero, List.push_toArray, List.append_toArray, List.nil_append, List.cons_append]
  gi_wp2_with (refine ⟨trivial, ?_⟩; gi_at_call 43; refine (callsIn_wide.2 (wordsOf_any _ _ _ _)).mono ?_; rintro e w' ⟨rfl, rfl⟩)
  obtain ⟨cap0, hcap0, hle⟩ : ∃ c0, grownCap (w.alloc (Obj.cells #[Value.int IntKind.u64 0] 44)) s.size 0 5 = c0 ∧ s.size ≤ c0 := ⟨_, rfl, grownCap_ge _ _ _ _⟩
  rw [hcap0]
  clear hcap0 hcv
  obtain ⟨fz, hfz⟩ : ∃ f : Nat × Nat, ((bytesRow s cap0).size, (bytesRow s cap0).size + 1) = f := ⟨_, rfl⟩
  rw [hfz]
  clear hfz
  have bS : Boxed ((w.alloc (Obj.cells #[Value.int IntKind.u64 0] 44)).alloc (Obj.cells (bytesRow s cap0) 5 fz)) w.heap.size 44 (.int .u64 0) := (Boxed.new w 44 (.int .u64 0)).alloc _
  have bN := Boxed.new ((w.alloc (Obj.cells #[Value.int IntKind.u64 0] 44)).alloc (Obj.cells (bytesRow s cap0) 5 fz)) 66 (Value.slice (some ⟨w.heap.size + 1, 0, none⟩) s.size cap0)
  rw [World.size_alloc, World.size_alloc] at bN
  have hdat : ∀ j, j < s.size → ((w.alloc (Obj.cells #[Value.int IntKind.u64 0] 44)).alloc (Obj.cells (bytesRow s cap0) 5 fz)).cell? ⟨w.heap.size + 1, j, none⟩ = some (.int .u8 ((sb s)[j]?.getD 0)) := fun j hj => by
    have := cell_new_row (w.alloc (Obj.cells #[Value.int IntKind.u64 0] 44)) (bytesRow s cap0) 5 fz j
    rw [World.size_alloc] at this
    rw [this, bytesRow_cell s cap0 j hj]
  obtain ⟨W0, hW0⟩ : ∃ W0, ((((w.alloc (Obj.cells #[Value.int IntKind.u64 0] 44)).alloc (Obj.cells (bytesRow s cap0) 5 fz))).alloc (Obj.cells #[Value.slice (some ⟨w.heap.size + 1, 0, none⟩) s.size cap0] 66)).drew = W0 := ⟨_, rfl⟩
  have hB0 : Below w.heap.size w W0 := by
    rw [← hW0]
    exact ((((Below.refl _ w).alloc (Nat.le_refl _) _).alloc (by simp) _).alloc (by simp; omega) _).drew
  have hsz : W0.heap.size = w.heap.size + 3 := by rw [← hW0]; simp [World.drew]
  have cS : W0.cell? ⟨w.heap.size, 0, none⟩ = some (.int .u64 0) := by rw [← hW0]; exact (bS.alloc _).cell
  have fS : W0.frozen? ⟨w.heap.size, 0, none⟩ = false := by rw [← hW0]; exact (bS.alloc _).frozen
  have cN : W0.cell? ⟨w.heap.size + 2, 0, none⟩ = some (.slice (some ⟨w.heap.size + 1, 0, none⟩) s.size cap0) := by rw [← hW0]; exact bN.cell
  have cD : ∀ j, j < s.size → W0.cell? ⟨w.heap.size + 1, j, none⟩ = some (.int .u8 ((sb s)[j]?.getD 0)) := fun j hj => by
    rw [← hW0, ← hdat j hj]
    exact World.cell?_alloc_lt _ _ _ (by simp)
  rw [hW0]
  clear hW0 bS bN hdat
  have hI0 := hI
  refine wpIn_rangeFunc_ownG rfl h1 (gf := 62) (lb := #[.pointer (some ⟨w.heap.size + 1 + 1, 0, none⟩)]) rfl trivial (enters_of Tryd.func62 (by kernel_rfl) rfl)
    (words_stops (n - 1) (by omega) (w.heap.size + 2) (fun k => k = w.heap.size + 1 ∨ k = w.heap.size + 2) (some ⟨w.heap.size + 1, 0, none⟩) s.size cap0 (sb s) (.inr rfl) hle hsl (sb_length s) (sb_b8 s) W0 (by omega) cN
      (fun _ => ⟨w.heap.size + 1, 0, rfl, .inl rfl, by omega, fun j hj => by rw [Nat.zero_add]; exact cD j hj⟩))
    (fun h k => Keeps.trans h k) (fun W l o o' hl h _ _ => Keeps.putObj (m := W0.heap.size) (by rintro k (rfl | rfl) <;> omega) W l o o' hl h) (Below.refl _ _) (fun _ => rfl)
    (fun pre W => (W.cell? ⟨w.heap.size, 0, none⟩ = some (.int .u64 (foldW 0 pre)) ∧ W.frozen? ⟨w.heap.size, 0, none⟩ = false) ∧ Below w.heap.size w W)
    (fun _ _ _ => False)
    (OwnFrom.and (Own.from (fun s A B row hs hg hr => ⟨cell_kept hs.1 hg hr, (frozen_kept hs.1 hg hr).trans hs.2⟩) _) (ownFrom_below (Nat.le_refl _) (by omega)))
    (fun _ _ _ _ _ hs _ _ => hs)
    ⟨⟨cS, fS⟩, hB0⟩
    (fun x => { tmps := #[.string s, .slice A m c, undef, undef, .int .u64 0, .pointer (some ⟨w.heap.size, 0, none⟩), .int .u64 x, undef, undef, .string s, .slice (some ⟨w.heap.size + 1, 0, none⟩) s.size cap0, .func (.func 62) #[] #[.pointer (some ⟨w.heap.size + 1 + 1, 0, none⟩)], .int .u64 x, undef, undef, undef, undef, undef, undef, undef, undef, undef, undef, undef, undef, undef, undef, undef, undef, undef, undef, undef, undef, undef, undef, undef, undef, undef, undef], defers := [] }) ?assign ?body ?done ?stop
  case assign =>
    intro l x W K hK
    gi_wp2
    exact hK
  case body =>
    rintro l pre x W ⟨⟨hc, hf⟩, hB⟩ _
    have hn2 : 1 ≤ n - 1 - 1 := by omega
    clear hI hI0 cS fS cN cD hB0
    gi_wp2_with (refine ⟨trivial, ?_⟩; gi_at_call 44; refine (CallsIn.inRound l (callsIn_wide.2 (mix_any _ _ _))).mono ?_; rintro e w' ⟨rfl, rfl⟩)
    exact ⟨(KeepsOthers.setCell _ _ _).from _, (Keeps.refl _ _).setCell (by omega) _, ⟨by rw [foldW_snoc]; exact World.cell?_setCell_same' _ _ _ (by rw [hc]; rfl), by rw [World.frozen?_setCell]; exact hf⟩, hB.setCell (p := ⟨w.heap.size, 0, none⟩) (Nat.le_refl _) _⟩
  case done =>
    rintro D ys W hD rfl ⟨⟨hc, hf⟩, hB⟩ hK
    have hD3 : w.heap.size + 3 ≤ D := by omega
    clear hD hsz cS fS cN cD hB0 hI0
    gi_wp2_with (refine ⟨trivial, ?_⟩; gi_at_call 44; refine (callsIn_wide.2 (mix_any _ _ _)).mono ?_; rintro e w' ⟨rfl, rfl⟩)
    have c2 : ((W.setCell ⟨w.heap.size, 0, none⟩ (Value.int IntKind.u64 (mixI (foldW 0 (wordsI (sb s))) ↑s.size))).setCell ⟨w.heap.size, 0, none⟩ (Value.int IntKind.u64 (mixI (mixI (foldW 0 (wordsI (sb s))) ↑s.size) ↑m))).cell? ⟨w.heap.size, 0, none⟩ =
        some (.int .u64 (foldW (mixI (lab1 (sb s)) m) ((zs.map u64).take 0))) := by
      have e : foldW (mixI (lab1 (sb s)) m) ((zs.map u64).take 0) = mixI (mixI (foldW 0 (wordsI (sb s))) ↑s.size) ↑m := by unfold lab1; rw [sb_length]; rfl
      rw [e]
      exact World.cell?_setCell_same' _ _ _ (by rw [World.cell?_setCell_same' _ _ _ (by rw [hc]; rfl)]; rfl)
    have hB2 := (hB.setCell (p := ⟨w.heap.size, 0, none⟩) (Nat.le_refl _) (Value.int IntKind.u64 (mixI (foldW 0 (wordsI (sb s))) ↑s.size))).setCell (p := ⟨w.heap.size, 0, none⟩) (Nat.le_refl _) (Value.int IntKind.u64 (mixI (mixI (foldW 0 (wordsI (sb s))) ↑s.size) ↑m))
    have hK2 := (((KeepsOthers.setCell W ⟨w.heap.size, 0, none⟩ (Value.int IntKind.u64 (mixI (foldW 0 (wordsI (sb s))) ↑s.size)))).trans (KeepsOthers.setCell _ ⟨w.heap.size, 0, none⟩ (Value.int IntKind.u64 (mixI (mixI (foldW 0 (wordsI (sb s))) ↑s.size) ↑m)))).same D _ hK rfl
    gi_loopw [28] (fun i wr => ∃ k : Nat, k ≤ m ∧ i = .int .i64 k ∧ wr.cell? ⟨w.heap.size, 0, none⟩ = some (.int .u64 (foldW (mixI (lab1 (sb s)) m) ((zs.map u64).take k))) ∧ wr.frozen? ⟨w.heap.size, 0, none⟩ = false ∧ Below w.heap.size w wr ∧ wr.heap[D]? = some (.deferred (some [])))
      (fun i _ => m - (intOf i).toNat)
    case atStart => exact ⟨0, Nat.zero_le _, rfl, c2, by rw [World.frozen?_setCell, World.frozen?_setCell]; exact hf, hB2, hK2⟩
    case round =>
      obtain ⟨k, hk, rfl, hc3, hf3, hB3, hK3⟩ := hrel
      clear c2 hB2 hK2 hc hf hB hK
      by_cases hlt : k < m
      · obtain ⟨b, off, rfl, hbl, hcs⟩ := hI.at_ (by omega)
        have hck : wr.cell? ⟨b, off + k, none⟩ = some (.int .i64 (zs[k]?.getD 0)) := (hB3.cell (p := ⟨b, off + k, none⟩) hbl).trans (hcs k hlt)
        have HS := Lib.hid (fold_step (mixI (lab1 (sb s)) m) zs k (by rw [hI.len]; exact hlt))
        have HK := Lib.hid hK3
        clear hI hcs hK3
        gi_wp2_with (refine ⟨trivial, ?_⟩; gi_at_call 44; refine (callsIn_wide.2 (mix_any _ _ _)).mono ?_; rintro e w' ⟨rfl, rfl⟩)
        go_roundw
        case rel => exact ⟨k + 1, by omega, by go_num, by rw [HS.out]; exact World.cell?_setCell_same' _ _ _ (by rw [hc3]; rfl), by rw [World.frozen?_setCell]; exact hf3, hB3.setCell (p := ⟨w.heap.size, 0, none⟩) (Nat.le_refl _) _, (KeepsOthers.setCell _ _ _).same D _ HK.out rfl⟩
        case measure => simp [intOf]; omega
      · obtain rfl : k = m := by omega
        have HK := Lib.hid hK3
        clear hK3
        gi_wp2_with (refine ⟨trivial, ?_⟩; gi_at_call 44; refine (callsIn_wide.2 (mix_any _ _ _)).mono ?_; rintro e w' ⟨rfl, rfl⟩)
        refine ⟨by simp, .inl ⟨_, _, rfl, run_takeDeferred HK.out, ?_⟩⟩
        refine ⟨_, results_tmp rfl _ _ _, ?_, hB3.trans (belowK_b (w := w) (Nat.le_refl _) wr D _ _ (by omega) HK.out rfl rfl)⟩
        show Ending.returned (Value.int IntKind.u64 _) = _
        exact ret_u64 (by unfold sumI; rw [List.take_of_length_le (by rw [List.length_map, hI.len]; omega), hI.len])
  case stop =>
    rintro D c pre W _ _ h _
    exact h.elim

/-- **hash.Sum.** -/
theorem sum_any (s : ByteArray) (A : Option Addr) (m c : Nat) (zs : List Int) (w : World) (hI : Ints .i64 w.heap.size w A m zs) (hs : Len s.size) (hm : Len m) :
    Calls Tryd.prog 28 #[.string s, .slice A m c] w fun e w' => e = .returned (.int .u64 (sumI (sb s) zs)) ∧ Below w.heap.size w w' :=
  (callsIn_wide (n := 3)).1 (sum_in 3 (by omega) s A m c zs w hI hs hm)
end Go.Proofs.YtjbmmagaeaphoaaDoor.H
