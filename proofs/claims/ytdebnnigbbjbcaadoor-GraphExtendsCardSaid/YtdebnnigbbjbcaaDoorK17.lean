/-
  The law's examples: Topo and Cycle at two given graphs. Condition: math/bits' table is laid.
-/
import Derived.Test.YtdebnnigbbjbcaaDoorK16
import Derived.Test.YtdebnnigbbjbcaaDoorK5
import Derived.Test.YtdebnnigbbjbcaaDoorK6
import Derived.Test.YtdebnnigbbjbcaaDoorK10
import Derived.Test.YtdebnnigbbjbcaaDoorK2

namespace Go.Proofs.YtdebnnigbbjbcaaDoor
open Go Go.RowKit Go.Proofs

theorem topo_ex : topoL (succs 3 [(2, 0), (2, 1)]) = [2, 0, 1] := by kernel_rfl
theorem topoR_ex : topoR (succs 3 [(2, 0), (2, 1)]) = [2, 0, 1] := by kernel_rfl
theorem cyc_ex {C : List Nat} (h : IsCyc (succs 3 [(0, 1), (1, 2), (2, 0), (1, 1)]) 3 3 C) : C = [1] := by
  refine h.same (.inr ⟨1, 1, by omega, by omega, by omega, ?_, ?_, fun t ht r hr k => ?_, fun t ht k => ?_⟩)
  · show 1 ∈ nb _ 1
    decide
  · decide
  · obtain rfl : r = 0 := by omega
    exact k
  · obtain rfl : t = 0 := by omega
    exact absurd (show 0 ∈ nb (succs 3 [(0, 1), (1, 2), (2, 0), (1, 1)]) 0 from k) (by decide)
theorem Ints.of_owned {w : World} {lo n c : Nat} {A : Option Addr} {l : List Nat} (h : Own w lo (.slice A n c) l) : Ints .i64 w.heap.size w A n (l.map fun n : Nat => (n : Int)) := by
  obtain ⟨h1, h2⟩ := h.lst
  exact h2.ints
/-- A literal list of integers in a new block. -/
theorem ints_lit (w : World) (zs : List Int) (n : Nat) (hn : zs.length = n) (t : TypeId) (cs : Array Value) (hc : cs = (zs.map (Value.int .i64)).toArray) : Ints .i64 (w.alloc (.cells cs t)).heap.size (w.alloc (.cells cs t)) (some ⟨w.heap.size, 0, none⟩) n zs := by
  refine ⟨hn, fun _ => ⟨w.heap.size, 0, rfl, by simp, fun j hj => ?_⟩⟩
  rw [Nat.zero_add, cell_of_row _ w.heap.size j cs t (0, 0) (World.alloc_heap_new w _), hc]
  rw [List.getElem?_toArray, List.getElem?_map, List.getElem?_eq_getElem (by omega)]
  rfl
theorem edg_lit (w : World) (E : List (Nat × Nat)) (n : Nat) (hn : E.length = n) (t : TypeId) (cs : Array Value) (hc : cs = (pcs E).toArray) : Edg (w.alloc (.cells cs t)) (w.alloc (.cells cs t)).heap.size (some ⟨w.heap.size, 0, none⟩) n E := by
  refine ⟨hn, fun _ => ⟨w.heap.size, 0, rfl, by simp, fun j x y hj => ?_⟩⟩
  obtain ⟨h1, h2⟩ := pcs_get E j x y hj
  rw [cell_of_row _ w.heap.size _ cs t (0, 0) (World.alloc_heap_new w _), cell_of_row _ w.heap.size _ cs t (0, 0) (World.alloc_heap_new w _), hc, List.getElem?_toArray, List.getElem?_toArray, Nat.zero_add]
  exact ⟨h1, h2⟩

theorem own_form {w : World} {lo k : Nat} {v : Value} {l : List Nat} (h : Own w lo v l) (hk : l.length = k) : ∃ A c, v = .slice A k c ∧ Own w lo (.slice A k c) l := by
  obtain ⟨A, c, rfl, _, _⟩ := h.slice
  rw [hk] at h ⊢
  exact ⟨A, c, rfl, h⟩
/-- SameInts at a list of the call's own and a literal one. -/
theorem same_lit (w w0 : World) (lo k c n : Nat) (A : Option Addr) (l : List Nat) (zs : List Int) (t : TypeId) (cs : Array Value) (hw0 : w0 = w.alloc (.cells cs t)) (h : Own w lo (.slice A k c) l) (hk : k ≤ 1000) (hn : zs.length = n) (hc : cs = (zs.map (Value.int .i64)).toArray) (he : (l.map fun n : Nat => (n : Int)) = zs) :
    Calls Tryd.prog 16 #[.slice A k c, .slice (some ⟨w.heap.size, 0, none⟩) n n] w0 fun e w' => e = .returned (.bool true) ∧ Below w.heap.size w w' := by
  subst hw0
  have hb : Below w.heap.size w (w.alloc (.cells cs t)) := (Below.refl _ _).alloc (Nat.le_refl _) _
  have h1 := (Ints.of_owned h).below hb
  have h2 := sameInts_any A (some ⟨w.heap.size, 0, none⟩) k n c n (l.map fun n : Nat => (n : Int)) zs (w.alloc (.cells cs t)) (h1.more (by simp)) (ints_lit w zs n hn t cs hc) (by omega)
  rw [decide_eq_true he] at h2
  refine h2.mono ?_
  rintro e w' ⟨rfl, hB⟩
  exact ⟨rfl, hb.trans (hB.mono (by simp))⟩

set_option maxRecDepth 100000 in
set_option maxHeartbeats 4000000 in
theorem lives_any (w : World) (hT : Tab w) : Calls Tryd.prog 17 #[] w (Tells true w) := by
  have htb : 0 < w.heap.size := World.block_lt_of_cell? w _ (hT 0 (by omega))
  have HT := Lib.hid hT
  obtain ⟨w1, hw1⟩ : ∃ W, w.alloc (.cells #[.int .i64 2, .int .i64 0, .int .i64 2, .int .i64 1] 39) = W := ⟨_, rfl⟩
  have hsz1 : w1.heap.size = w.heap.size + 1 := by rw [← hw1]; simp
  have hb1 : Below w.heap.size w w1 := by rw [← hw1]; exact (Below.refl _ _).alloc (Nat.le_refl _) _
  have hE1 : Edg w1 w1.heap.size (some ⟨w.heap.size, 0, none⟩) 2 [(2, 0), (2, 1)] := by rw [← hw1]; exact edg_lit w _ 2 rfl _ _ rfl
  have HTO := Lib.hid (topo_any sort_own compact_own 3 2 2 _ _ w1 (by omega) (by omega) hE1 (by decide))
  rw [topo_ex, topoR_ex] at HTO
  have HW1 := Lib.hid hw1
  clear hw1 hE1 hT
  go_enter Tryd.func17, Tryd.ntmps17
  go_wp2_with (first
    | (go_at_call 14
       rw [HW1.out]
       refine HTO.out.mono ?_
       rintro e w2 ⟨v2, rfl, ho2, hB2⟩
       obtain ⟨A2, c2, rfl, ho2'⟩ := own_form ho2 (k := 3) rfl
       have hB2' := hb1.trans (hB2.mono (by omega))
       have hs2 := hB2'.size
       have hE3 : Edg (w2.alloc (.cells #[.int .i64 0, .int .i64 1, .int .i64 1, .int .i64 2, .int .i64 2, .int .i64 0, .int .i64 1, .int .i64 1] 39)) (w2.alloc (.cells #[.int .i64 0, .int .i64 1, .int .i64 1, .int .i64 2, .int .i64 2, .int .i64 0, .int .i64 1, .int .i64 1] 39)).heap.size (some ⟨w2.heap.size, 0, none⟩) 4 [(0, 1), (1, 2), (2, 0), (1, 1)] := edg_lit w2 _ 4 rfl _ _ rfl
       have hb3 : Below w.heap.size w (w2.alloc (.cells #[.int .i64 0, .int .i64 1, .int .i64 1, .int .i64 2, .int .i64 2, .int .i64 0, .int .i64 1, .int .i64 1] 39)) := hB2'.alloc hs2 _
       have HCY := Lib.hid (cycle_is 3 4 4 _ _ _ (by omega) (by omega) hE3 (by decide) (HT.out.keep (hb3.block _ htb)))
       have HO2 := Lib.hid ho2'
       have HB3 := Lib.hid hb3
       have hs3 := hb3.size
       clear ho2 ho2' hE3 hb3)
    | (go_at_call 21
       refine HCY.out.mono ?_
       rintro e w4 ⟨v4, C4, rfl, hi4, ho4, hB4⟩
       obtain rfl := cyc_ex hi4
       obtain ⟨A4, c4, rfl, ho4'⟩ := own_form ho4 (k := 1) rfl
       have HB4 := Lib.hid (HB3.out.trans (hB4.mono hs3))
       have hs4 := HB4.out.size
       have hs34 := hB4.size
       have hk2 : Own w4 w1.heap.size (.slice A2 3 c2) [2, 0, 1] := HO2.out.keep fun b hb => by
         have h1 := (HO2.out.lt b hb).2
         exact (hB4.block b (by simp; omega)).trans (Below.heap_alloc w2 _ b h1)
       have HS1 := Lib.hid (same_lit w4 _ w1.heap.size 3 c2 3 A2 [2, 0, 1] [2, 0, 1] 3 _ rfl hk2 (by omega) rfl rfl rfl)
       have HO4 := Lib.hid ho4'
       clear hi4 ho4 ho4' hB4 hk2)
    | (go_at_call 16
       refine HS1.out.mono ?_
       rintro e w5 ⟨rfl, hB5⟩
       have HB5 := Lib.hid (HB4.out.trans (hB5.mono hs4))
       have hs5 := HB5.out.size
       have HS2 := Lib.hid (same_lit w5 _ _ 1 c4 1 A4 [1] [1] 3 _ rfl (HO4.out.keep fun b hb => hB5.block b (HO4.out.lt b hb).2) (by omega) rfl rfl rfl)
       clear HS1 hB5)
    | (go_at_call 16
       refine HS2.out.mono ?_
       rintro e w6 ⟨rfl, hB6⟩))
  go_ret
  exact ⟨rfl, HB5.out.trans (hB6.mono hs5)⟩
end Go.Proofs.YtdebnnigbbjbcaaDoor
