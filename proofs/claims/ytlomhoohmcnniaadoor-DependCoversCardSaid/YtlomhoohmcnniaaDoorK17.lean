/-
  The contracts of the order's questions: Len, hasElement, Less, Concurrent, Linear. Condition: at most 14 elements.
  The contract of poset.New: the order of the closure, or the error. Condition: the length is at most 14, or out of its range.
  The happens-before order of a run as rows of a poset; races. Plain mathematics; no function of the program.
  Two facts of lists. No function of the program.
  The sets' functions at a slice whose block may hold more than its one word; slices.Clone of a set. Condition: the elements are less than 14.
-/
import Derived.Test.YtlomhoohmcnniaaDoorK16
import Derived.BigRegion
import Derived.Deep.RegionWith
import Derived.Test.YtlomhoohmcnniaaDoorK3

namespace Go.Proofs.YtlomhoohmcnniaaDoor
open Go Go.RowKit Go.Proofs

section
variable {W : World} {hi p : Nat} {R : List Nat}
theorem Od.cell (h : Od W hi p R) : ∃ ga ws, W.cell? ⟨p, 0, none⟩ = some (.slice (some ⟨ga, 0, none⟩) R.length R.length) ∧ Ab W hi ga ws R := by
  obtain ⟨_, ga, ws, h1, h2⟩ := h
  exact ⟨ga, ws, cell_of_row W p 0 _ _ (0, 0) h1, h2⟩
set_option maxHeartbeats 1000000 in
theorem len_any (h : Od W hi p R) : Calls Tryd.prog 14 #[.pointer (some ⟨p, 0, none⟩)] W fun e w' => e = .returned (.int .i64 (R.length : Int)) ∧ W = w' := by
  obtain ⟨ga, ws, hc, _⟩ := h.cell
  go_enter Tryd.func14, Tryd.ntmps14
  go_wp2_with fail
  go_ret
  exact ⟨rfl, rfl⟩
set_option maxHeartbeats 1000000 in
theorem hasEl_any (h : Od W hi p R) (a : Int) : Calls Tryd.prog 30 #[.pointer (some ⟨p, 0, none⟩), .int .i64 a] W fun e w' => e = .returned (.bool (PO.isEl R.length a)) ∧ W = w' := by
  have HL := Lib.hid (len_any h)
  by_cases h0 : 0 ≤ a
  · have hb : decide (0 ≤ a) = true := decide_eq_true h0
    have HE := Lib.hid (show PO.isEl R.length a = decide (a < (R.length : Int)) by unfold PO.isEl; rw [hb, Bool.true_and])
    go_enter Tryd.func30, Tryd.ntmps30
    go_wp2_with (go_at_call 14; refine HL.out.mono ?_; rintro e w' ⟨rfl, rfl⟩)
    go_ret
    exact ⟨by rw [HE.out]; rfl, rfl⟩
  · have hb : decide (0 ≤ a) = false := decide_eq_false h0
    have HE := Lib.hid (show PO.isEl R.length a = false by unfold PO.isEl; rw [hb, Bool.false_and])
    go_enter Tryd.func30, Tryd.ntmps30
    go_wp2_with (go_at_call 14; refine HL.out.mono ?_; rintro e w' ⟨rfl, rfl⟩)
    go_ret
    exact ⟨by rw [HE.out]; rfl, rfl⟩
set_option maxHeartbeats 2000000 in
theorem less_any (h : Od W hi p R) (hR : R.length ≤ 14) (hs : PO.Small R) (a b : Int) : Calls Tryd.prog 13 #[.pointer (some ⟨p, 0, none⟩), .int .i64 a, .int .i64 b] W fun e w' => e = .returned (.bool (PO.ltI R a b)) ∧ W = w' := by
  have HA := Lib.hid (hasEl_any h a)
  have HB := Lib.hid (hasEl_any h b)
  obtain ⟨ga, ws, hc, hab⟩ := h.cell
  cases ha : PO.isEl R.length a with
  | false =>
    have HE := Lib.hid (show PO.ltI R a b = false by unfold PO.ltI; rw [ha]; rfl)
    rw [ha] at HA
    clear ha hab
    go_enter Tryd.func13, Tryd.ntmps13
    go_wp2_with (go_at_call 30; refine HA.out.mono ?_; clear HA; rintro e w' ⟨rfl, rfl⟩)
    go_ret
    exact ⟨by rw [HE.out]; rfl, rfl⟩
  | true =>
    cases hb : PO.isEl R.length b with
    | false =>
      have HE := Lib.hid (show PO.ltI R a b = false by unfold PO.ltI; rw [ha, hb]; rfl)
      rw [ha] at HA
      rw [hb] at HB
      clear ha hb hab
      go_enter Tryd.func13, Tryd.ntmps13
      go_wp2_with (first
        | (go_at_call 30; refine HA.out.mono ?_; clear HA; rintro e w' ⟨rfl, rfl⟩)
        | (go_at_call 30; refine HB.out.mono ?_; clear HB; rintro e w' ⟨rfl, rfl⟩))
      go_ret
      exact ⟨by rw [HE.out]; rfl, rfl⟩
    | true =>
      have HE := Lib.hid (show PO.ltI R a b = (PO.rw_ R a.toNat).testBit b.toNat by unfold PO.ltI; rw [ha, hb]; rfl)
      obtain ⟨x, rfl, hx⟩ := PO.isEl_iff.1 ha
      obtain ⟨y, rfl, hy⟩ := PO.isEl_iff.1 hb
      rw [ha] at HA
      rw [hb] at HB
      obtain ⟨g, _, hcg, hsg, _⟩ := hab.at_ hx
      have HH := Lib.hid (has_any g (PO.rw_ R x) y W hsg (by omega) (lt256 (PO.rw_lt hs.2 x) hR))
      simp only [Int.toNat_natCast] at HE
      clear ha hb hab hsg
      go_enter Tryd.func13, Tryd.ntmps13
      go_wp2_with (first
        | (go_at_call 30; refine HA.out.mono ?_; clear HA; rintro e w' ⟨rfl, rfl⟩)
        | (go_at_call 30; refine HB.out.mono ?_; clear HB; rintro e w' ⟨rfl, rfl⟩)
        | (go_at_call 31; refine HH.out.mono ?_; rintro e w' ⟨rfl, rfl⟩))
      go_ret
      exact ⟨by rw [HE.out]; rfl, rfl⟩
theorem linear_any (h : Od W hi p R) (hR : R.length ≤ 14) (hs : PO.Small R) (hT : Tab W) (hlo : hi ≤ W.heap.size) : Calls Tryd.prog 42 #[.pointer (some ⟨p, 0, none⟩)] W fun e w' => ∃ v, e = .returned v ∧ Own w' W.heap.size v (topoL (PO.rows R)) ∧ Below W.heap.size W w' := by
  obtain ⟨ga, ws, hc, hab⟩ := h.cell
  have HL := Lib.hid (leastLinear_any hi ga R.length ws R W hT hR rfl hs hab hlo)
  go_enter Tryd.func42, Tryd.ntmps42
  go_wp2_with (go_at_call 47; refine HL.out.mono ?_; rintro e w' ⟨v, rfl, ho, hb⟩; obtain ⟨A', c', rfl, _, _⟩ := ho.slice)
  go_ret
  exact ⟨_, rfl, ho, hb⟩
end
end Go.Proofs.YtlomhoohmcnniaaDoor

namespace Go.Proofs.YtlomhoohmcnniaaDoor
open Go Go.RowKit Go.Proofs

/-- The slice at A, of length m, lies below block B and holds the pairs P of integers. -/
def EdgI (w : World) (B : Nat) (A : Option Addr) (m : Nat) (P : List (Int × Int)) : Prop :=
  P.length = m ∧ (0 < m → ∃ b off, A = some ⟨b, off, none⟩ ∧ b < B ∧ ∀ j x y, P[j]? = some (x, y) → w.cell? ⟨b, off + j * 2, none⟩ = some (.int .i64 x) ∧ w.cell? ⟨b, off + j * 2 + 1, none⟩ = some (.int .i64 y))
theorem EdgI.below {w w' : World} {B m : Nat} {A : Option Addr} {P : List (Int × Int)} (h : EdgI w B A m P) (hb : Below B w w') : EdgI w' B A m P :=
  ⟨h.1, fun hm => by
    obtain ⟨b, off, e, hlt, hc⟩ := h.2 hm
    exact ⟨b, off, e, hlt, fun j x y hj => ⟨(hb.cell (p := ⟨b, off + j * 2, none⟩) hlt).trans (hc j x y hj).1, (hb.cell (p := ⟨b, off + j * 2 + 1, none⟩) hlt).trans (hc j x y hj).2⟩⟩⟩
theorem EdgI.more {w : World} {B B' m : Nat} {A : Option Addr} {P : List (Int × Int)} (h : EdgI w B A m P) (hB : B ≤ B') : EdgI w B' A m P :=
  ⟨h.1, fun hm => by
    obtain ⟨b, off, e, hlt, hc⟩ := h.2 hm
    exact ⟨b, off, e, by omega, hc⟩⟩
theorem EdgI.at_ {w : World} {B m : Nat} {A : Option Addr} {P : List (Int × Int)} (h : EdgI w B A m P) {j : Nat} (hj : j < m) : ∃ b off x y, A = some ⟨b, off, none⟩ ∧ b < B ∧ P[j]? = some (x, y) ∧ w.cell? ⟨b, off + j * 2, none⟩ = some (.int .i64 x) ∧ w.cell? ⟨b, off + j * 2 + 1, none⟩ = some (.int .i64 y) := by
  obtain ⟨b, off, e, hlt, hc⟩ := h.2 (by omega)
  have hl : j < P.length := by rw [h.1]; exact hj
  obtain ⟨c1, c2⟩ := hc j P[j].1 P[j].2 (List.getElem?_eq_getElem hl)
  exact ⟨b, off, P[j].1, P[j].2, e, hlt, List.getElem?_eq_getElem hl, c1, c2⟩
/-- The pairs as elements. -/
def natP (P : List (Int × Int)) : List (Nat × Nat) := P.map fun p => (p.1.toNat, p.2.toNat)
def inP (n : Nat) (P : List (Int × Int)) : Bool := P.all fun p => PO.isEl n p.1 && PO.isEl n p.2
/-- New's error. -/
def newC (n : Nat) (P : List (Int × Int)) : Nat := if inP n P then (if (topoL (PO.rows (PO.rowsP n (natP P)))).length = n then 0 else 9) else 6
/-- The order's rows. -/
def ordR (n : Nat) (P : List (Int × Int)) : List Nat := PO.clos (PO.rowsP n (natP P))
set_option maxHeartbeats 2000000 in
theorem new_arg (n : Int) (v : Value) (w : World) (hn : n < 0 ∨ 5000 < n) : Calls Tryd.prog 28 #[.int .i64 n, v] w fun e w' => e = .returned (.tuple #[.pointer none, .int .i64 (if n < 0 then 1 else 2)]) ∧ w = w' := by
  rcases hn with h | h
  · go_enter Tryd.func28, Tryd.ntmps28
    go_wp2_with fail
    go_ret2
    exact ⟨rfl, rfl⟩
  · have hh : ¬ n < 0 := by omega
    go_enter Tryd.func28, Tryd.ntmps28
    go_wp2_with fail
    go_ret2
    exact ⟨rfl, rfl⟩
/-- The first rows are made. -/
structure NwA (w : World) (n : Nat) (ws : List Nat) (W : World) : Prop where
  le : ws.length ≤ n
  blk : W.heap[w.heap.size]? = some (.cells (ws.map sl ++ List.replicate (n - ws.length) (Value.slice none 0 0)).toArray 67 (0, 0))
  ord : W.heap[w.heap.size + 1]? = some (.cells #[.slice (some ⟨w.heap.size, 0, none⟩) n n] 70 (0, 0))
  row : ∀ g ∈ ws, Sw W 1 g 0 ∧ w.heap.size + 1 < g ∧ g < W.heap.size
  nodup : ws.Nodup
  bel : Below w.heap.size w W
theorem zero_ord : (Tryd.prog.info? 70).map (fun i => (i.zero, i.size)) = some (some (.agg #[.slice none 0 0]), 1) := by kernel_rfl
theorem zero_ord_run : ∀ w, (zeroValue 70).run Tryd.prog w = .ok (.agg #[.slice none 0 0]) w := (zero_of_info zero_ord).1
theorem info_set : (Tryd.prog.info? 67).map (fun i => (i.zero, i.size, i.bytes)) = some (some (.slice none 0 0), 1, 24) := by kernel_rfl
theorem make_sets (n : Nat) (hn : n ≤ 100000) : ∀ W : World, (Instr.makeSlice 68 (.int .i64 (n : Int)) (.int .i64 (n : Int))).run Tryd.prog W = .ok (.slice (some ⟨W.heap.size, 0, none⟩) n n) (W.alloc (.cells (Array.replicate n (.slice none 0 0)) 67)) := by
  obtain ⟨i, hi, hz, h1, h2⟩ := info_parts info_set
  intro W
  have h := run_make_rowN 68 67 i _ Tryd.underlying68 hi hz .i64 .i64 n n (Nat.le_refl _) (by rw [h2]; omega) (by omega) W
  rw [h1, Nat.mul_one, made_one _ _ rfl] at h
  exact h
theorem NwA.snoc {w W : World} {n : Nat} {ws : List Nat} (h : NwA w n ws W) (hl : ws.length < n) : NwA w n (ws ++ [W.heap.size]) (((W.alloc (.cells #[.int .u64 0] 82)).setCell ⟨w.heap.size, ws.length, none⟩ (.slice (some ⟨W.heap.size, 0, none⟩) 1 1)).drew) := by
  have h1 := heap_lt h.blk
  have h2 := heap_lt h.ord
  have hb : (W.alloc (.cells #[.int .u64 0] 82)).heap[w.heap.size]? = some (.cells (ws.map sl ++ List.replicate (n - ws.length) (Value.slice none 0 0)).toArray 67 (0, 0)) := (Below.heap_alloc W _ _ h1).trans h.blk
  refine ⟨by simp; omega, ?_, ?_, fun g hg => ?_, ?_, ?_⟩
  · show ((W.alloc _).setCell ⟨w.heap.size, ws.length, none⟩ _).heap[w.heap.size]? = _
    simp only [World.setCell, Array.getElem?_modify]
    simp only [↓reduceIte, hb, Option.map_some, Option.some.injEq, Obj.cells.injEq, and_true]
    apply Array.ext_getElem?
    intro i
    show (Array.setIfInBounds _ ws.length _)[i]? = _
    rw [Array.getElem?_setIfInBounds]
    simp only [List.getElem?_toArray, List.size_toArray, List.length_append, List.length_map, List.length_replicate, List.map_append, List.map_cons, List.map_nil]
    by_cases e : ws.length = i
    · subst e
      rw [if_pos rfl, if_pos (by omega), List.append_assoc, List.getElem?_append_right (by simp)]
      simp
    · rw [if_neg e]
      rcases Nat.lt_or_ge i ws.length with h3 | h3
      · rw [List.getElem?_append_left (by simpa using h3), List.append_assoc, List.getElem?_append_left (by simpa using h3)]
      · rw [List.getElem?_append_right (by simpa using h3), List.getElem?_append_right (by simp; omega)]
        simp only [List.length_map, List.length_append, List.length_cons, List.length_nil, List.getElem?_replicate]
        by_cases h4 : i < n
        · rw [if_pos (by omega), if_pos (by omega)]
        · rw [if_neg (by omega), if_neg (by omega)]
  · show ((W.alloc _).setCell ⟨w.heap.size, ws.length, none⟩ _).heap[w.heap.size + 1]? = _
    rw [Below.heap_setCell _ ⟨w.heap.size, ws.length, none⟩ _ _ (show w.heap.size + 1 ≠ w.heap.size by omega), Below.heap_alloc W _ _ h2]
    exact h.ord
  · rcases List.mem_append.1 hg with hg | hg
    · obtain ⟨k1, k2, k3⟩ := h.row g hg
      refine ⟨k1.keep ?_, k2, by simp [World.setCell, World.drew]; omega⟩
      show ((W.alloc _).setCell ⟨w.heap.size, ws.length, none⟩ _).heap[g]? = _
      rw [Below.heap_setCell _ ⟨w.heap.size, ws.length, none⟩ _ _ (show g ≠ w.heap.size by omega), Below.heap_alloc W _ _ k3]
    · rw [List.mem_singleton] at hg
      subst hg
      refine ⟨(Sw.new W).keep ?_, by omega, by simp [World.setCell, World.drew]⟩
      show ((W.alloc _).setCell ⟨w.heap.size, ws.length, none⟩ _).heap[W.heap.size]? = _
      rw [Below.heap_setCell _ ⟨w.heap.size, ws.length, none⟩ _ _ (show W.heap.size ≠ w.heap.size by omega)]
  · refine PO.snoc_nodup h.nodup fun hm => ?_
    have := (h.row _ hm).2.2
    omega
  · exact ((h.bel.alloc (by have := h.bel.size; omega) _).setCell (p := ⟨w.heap.size, ws.length, none⟩) (Nat.le_refl _) _).drew
theorem take_snoc {α : Type} {l : List α} {k : Nat} {x : α} (h : l[k]? = some x) : l.take (k + 1) = l.take k ++ [x] := by rw [List.take_add_one, h]; rfl
theorem inP_not {n k : Nat} {P : List (Int × Int)} {x y : Int} (h : P[k]? = some (x, y)) (hb : (PO.isEl n x && PO.isEl n y) = false) : inP n P = false := by
  unfold inP
  rw [List.all_eq_false]
  exact ⟨_, List.mem_of_getElem? h, by rw [hb]; simp⟩
theorem inP_snoc {n k : Nat} {P : List (Int × Int)} {x y : Int} (h : P[k]? = some (x, y)) (h1 : inP n (P.take k) = true) (hb : (PO.isEl n x && PO.isEl n y) = true) : inP n (P.take (k + 1)) = true := by
  rw [take_snoc h]
  unfold inP at *
  rw [List.all_append, h1]
  simpa using hb
theorem rowsP_take {n k : Nat} {P : List (Int × Int)} {x y : Nat} (h : P[k]? = some ((x : Int), (y : Int))) : PO.rowsP n (natP (P.take (k + 1))) = (PO.rowsP n (natP (P.take k))).set x (PO.rw_ (PO.rowsP n (natP (P.take k))) x ||| 2 ^ y) := by
  rw [take_snoc h]
  unfold natP
  rw [List.map_append, List.map_cons, List.map_nil, PO.rowsP_snoc]
  rfl
theorem inP_lt {n : Nat} {P : List (Int × Int)} (h : inP n P = true) : ∀ p ∈ natP P, p.1 < n ∧ p.2 < n := by
  intro p hp
  unfold natP at hp
  obtain ⟨q, hq, rfl⟩ := List.mem_map.1 hp
  have := List.all_eq_true.1 h q hq
  rw [Bool.and_eq_true] at this
  obtain ⟨x, e1, h1⟩ := PO.isEl_iff.1 this.1
  obtain ⟨y, e2, h2⟩ := PO.isEl_iff.1 this.2
  rw [e1, e2]
  exact ⟨h1, h2⟩
theorem inP_small {n : Nat} {P : List (Int × Int)} (hn : n ≤ 64) (h : inP n P = true) : PO.Small (PO.rowsP n (natP P)) := PO.rowsP_small n hn _ fun p hp => (inP_lt h p hp).2
theorem topoL_len_le {n : Nat} (R : List Nat) (h : R.length = n) : (topoL (PO.rows R)).length ≤ n := by
  obtain ⟨_, h2, h3, _⟩ := PO.topoL_fore (PO.rows R)
  rw [PO.rows_len, h] at h3
  exact nodup_len n _ h2 h3
set_option maxRecDepth 100000 in
set_option maxHeartbeats 8000000 in
theorem new_any (n m c : Nat) (A : Option Addr) (P : List (Int × Int)) (w : World) (hT : Tab w) (hn : n ≤ 14) (hm : m ≤ 1000) (hP : EdgI w w.heap.size A m P) :
    Calls Tryd.prog 28 #[.int .i64 (n : Int), .slice A m c] w fun e w' => ∃ q, e = .returned (.tuple #[.pointer q, .int .i64 (newC n P : Int)]) ∧ Below w.heap.size w w' ∧ (newC n P = 0 → ∃ p, q = some ⟨p, 0, none⟩ ∧ Od w' w'.heap.size p (ordR n P)) ∧ (newC n P ≠ 0 → q = none) := by
  have hmk := make_sets n (by omega)
  have hzv := zero_ord_run
  have htl := hT.lt
  have HT := Lib.hid hT
  have HP := Lib.hid hP
  have hPl := hP.1
  obtain ⟨w1, hw1⟩ : ∃ W, (w.alloc (.cells (Array.replicate n (.slice none 0 0)) 67)).alloc (.cells #[.slice (some ⟨w.heap.size, 0, none⟩) n n] 70) = W := ⟨_, rfl⟩
  have hN0 : NwA w n [] w1 := by
    refine ⟨Nat.zero_le _, ?_, ?_, (fun g hg => by cases hg), List.nodup_nil, ?_⟩
    · rw [← hw1, Below.heap_alloc _ _ _ (by simp), World.alloc_heap_new]
      simp
    · rw [← hw1]
      have := World.alloc_heap_new (w.alloc (.cells (Array.replicate n (.slice none 0 0)) 67)) (.cells #[.slice (some ⟨w.heap.size, 0, none⟩) n n] 70)
      rw [World.size_alloc] at this
      exact this
    · rw [← hw1]
      exact ((Below.refl _ _).alloc (Nat.le_refl _) _).alloc (by simp) _
  have HN0 := Lib.hid hN0
  have HW1 := Lib.hid hw1
  clear hT hP hN0 hw1
  go_enter Tryd.func28, Tryd.ntmps28
  go_wp2_with fail
  rw [HW1.out]
  go_loopw [20] (fun i wr => ∃ ws : List Nat, i = .int .i64 (ws.length : Int) ∧ NwA w n ws wr) (fun i _ => n - (intOf i).toNat)
  case atStart => exact ⟨[], rfl, HN0.out⟩
  case round =>
    obtain ⟨ws, rfl, hN⟩ := hrel
    by_cases hlt : ws.length < n
    · have c1 := cell_of_row wr (w.heap.size + 1) 0 _ _ (0, 0) hN.ord
      have c1' : wr.cell? ⟨w.heap.size + 1, 0, none⟩ = some (.slice (some ⟨w.heap.size, 0, none⟩) n n) := c1
      have hl1 := heap_lt hN.blk
      have hl2 := heap_lt hN.ord
      have c2 : (wr.alloc (.cells #[.int .u64 0] 82)).cell? ⟨w.heap.size + 1, 0, none⟩ = some (.slice (some ⟨w.heap.size, 0, none⟩) n n) := (World.cell?_of_block (w := wr) (Below.heap_alloc _ _ _ hl2)).trans c1'
      have f2 : (wr.alloc (.cells #[.int .u64 0] 82)).frozen? ⟨w.heap.size, ws.length, none⟩ = false := by
        have hb : (wr.alloc (.cells #[.int .u64 0] 82)).heap[w.heap.size]? = _ := (Below.heap_alloc wr _ _ hl1).trans hN.blk
        simp [World.frozen?, hb]
      have c3 : ∃ u, (wr.alloc (.cells #[.int .u64 0] 82)).cell? ⟨w.heap.size, ws.length, none⟩ = some u := by
        refine ⟨.slice none 0 0, ?_⟩
        rw [World.cell?_of_block (w := wr) (Below.heap_alloc _ _ _ hl1), cell_of_row wr w.heap.size ws.length _ _ (0, 0) hN.blk, List.getElem?_toArray, List.getElem?_append_right (by simp), List.getElem?_replicate, if_pos (by simp; omega)]
      obtain ⟨u, c3⟩ := c3
      have HNS := Lib.hid (newSet_any n 1 hn (wk_pos (by omega)))
      have hsn := hN.snoc hlt
      rw [World.setCell_alloc_past _ _ _ _ (show w.heap.size < wr.heap.size from hl1)] at hsn
      have HS := Lib.hid hsn
      clear hsn
      clear hN c1
      go_wp2_with fail
      go_region_with (go_at_call 39; refine (HNS.out _).mono ?_; rintro e w' ⟨rfl, rfl⟩)
      all_goals
        go_wp2_with fail
        go_roundw
        case rel => exact ⟨ws ++ [wr.heap.size], by rw [List.length_append, List.length_singleton]; go_num, HS.out⟩
        case measure => simp [intOf]; omega
    · have hwn : ws.length = n := by have := hN.le; omega
      have hab : Ab wr wr.heap.size w.heap.size ws (PO.rowsP n (natP (P.take 0))) := by
        have hb := hN.blk
        rw [hwn, Nat.sub_self, List.replicate_zero, List.append_nil] at hb
        refine ⟨by rw [PO.rowsP_len]; exact hwn, hb, heap_lt hb, fun i g m hg hm => ?_, fun g hg => (hN.row g hg).2.2⟩
        have h0 : m = 0 := by
          unfold natP PO.rowsP at hm
          simp only [List.take_zero, List.map_nil, List.foldl_nil, List.getElem?_replicate] at hm
          split at hm
          · injection hm with hm; exact hm.symm
          · cases hm
        rw [h0]
        exact (hN.row g (List.mem_of_getElem? hg)).1
      have hord := hN.ord
      have hbel := hN.bel
      have hnd := hN.nodup
      have hglo : ∀ g ∈ ws, ¬ g < w.heap.size := fun g hg => by have := (hN.row g hg).2.1; omega
      have htw : 0 ∉ ws := fun h => by have := (hN.row _ h).2.1; omega
      obtain ⟨hi2, hhi⟩ : ∃ H, wr.heap.size = H := ⟨_, rfl⟩
      rw [hhi] at hab
      have hpl : w.heap.size + 1 < hi2 := by rw [← hhi]; exact heap_lt hord
      have HAB := Lib.hid hab
      have HORD := Lib.hid hord
      have HBEL := Lib.hid hbel
      have hsz0 : hi2 ≤ wr.heap.size := by omega
      have hnn : ¬ (ws.length : Int) < (n : Int) := by omega
      clear hab hord hbel hN HN0 HW1 hhi
      rw [hwn]
      go_wp2_with fail
      go_loopw [34] (fun i V => ∃ k : Nat, k ≤ m ∧ i = .int .i64 (k : Int) ∧ Hid (Ab V hi2 w.heap.size ws (PO.rowsP n (natP (P.take k)))) ∧ Hid (V.heap[w.heap.size + 1]? = some (.cells #[.slice (some ⟨w.heap.size, 0, none⟩) n n] 70 (0, 0))) ∧ Hid (Below w.heap.size w V) ∧ hi2 ≤ V.heap.size ∧ Hid (inP n (P.take k) = true)) (fun i _ => m - (intOf i).toNat)
      case atStart => exact ⟨0, Nat.zero_le _, rfl, HAB.out, HORD.out, HBEL.out, hsz0, (show inP n [] = true from rfl)⟩
      case round =>
        obtain ⟨k, hk, rfl, hab, hord, hbel, hsz, hin⟩ := hrel
        clear HAB HORD HBEL hsz0
        by_cases hlt : k < m
        · obtain ⟨b, off, x, y, rfl, hbl, hpk, cx, cy⟩ := (HP.out.below hbel.out).at_ hlt
          obtain ⟨V2, hV2⟩ : ∃ V2, wr.alloc (.cells #[.int .i64 x, .int .i64 y] 42) = V2 := ⟨_, rfl⟩
          have hbv : Below wr.heap.size wr V2 := by rw [← hV2]; exact (Below.refl _ _).alloc (Nat.le_refl _) _
          have hab2 := hab.out.below (hbv.mono hsz)
          have hRl : (PO.rowsP n (natP (P.take k))).length = n := PO.rowsP_len _ _
          have hord2 : V2.heap[w.heap.size + 1]? = some (.cells #[.slice (some ⟨w.heap.size, 0, none⟩) n n] 70 (0, 0)) := (hbv.block _ (by omega)).trans hord.out
          have hod : Od V2 hi2 (w.heap.size + 1) (PO.rowsP n (natP (P.take k))) := ⟨hpl, _, ws, by rw [hRl]; exact hord2, hab2⟩
          have HEx := Lib.hid (hasEl_any hod x)
          have HEy := Lib.hid (hasEl_any hod y)
          rw [hRl] at HEx HEy
          have hpb := World.alloc_heap_new wr (.cells #[.int .i64 x, .int .i64 y] 42)
          rw [hV2] at hpb
          have d0 := cell_of_row V2 wr.heap.size 0 _ _ (0, 0) hpb
          have d1 := cell_of_row V2 wr.heap.size 1 _ _ (0, 0) hpb
          have d0' : V2.cell? ⟨wr.heap.size, 0, none⟩ = some (.int .i64 x) := d0
          have d1' : V2.cell? ⟨wr.heap.size, 1, none⟩ = some (.int .i64 y) := d1
          have HV2 := Lib.hid hV2
          have HPK := Lib.hid hpk
          have HB2 := Lib.hid (hbel.out.trans (hbv.mono (by have := hbel.out.size; omega)))
          have HAB2 := Lib.hid hab2
          have HORD2 := Lib.hid hord2
          have hsz2 : hi2 ≤ V2.heap.size := by have := hbv.size; omega
          clear d0 d1 hV2 hpk hod hab2 hord2 hpb hbv
          cases hbx : PO.isEl n x with
          | false =>
            have HNC := Lib.hid (show newC n P = 6 by unfold newC; rw [inP_not HPK.out (by rw [hbx]; rfl)]; rfl)
            rw [hbx] at HEx
            clear hbx
            go_wp2_with fail
            rw [HV2.out]
            go_wp2_with (go_at_call 30; refine HEx.out.mono ?_; clear HEx; rintro e w' ⟨rfl, rfl⟩)
            go_ret2
            refine ⟨none, by rw [HNC.out]; rfl, HB2.out, fun h => ?_, fun _ => rfl⟩
            rw [HNC.out] at h
            cases h
          | true =>
            cases hby : PO.isEl n y with
            | false =>
              have HNC := Lib.hid (show newC n P = 6 by unfold newC; rw [inP_not HPK.out (by rw [hbx, hby]; rfl)]; rfl)
              rw [hbx] at HEx
              rw [hby] at HEy
              clear hbx hby
              go_wp2_with fail
              rw [HV2.out]
              go_wp2_with (first
                | (go_at_call 30; refine HEx.out.mono ?_; clear HEx; rintro e w' ⟨rfl, rfl⟩)
                | (go_at_call 30; refine HEy.out.mono ?_; clear HEy; rintro e w' ⟨rfl, rfl⟩))
              go_ret2
              refine ⟨none, by rw [HNC.out]; rfl, HB2.out, fun h => ?_, fun _ => rfl⟩
              rw [HNC.out] at h
              cases h
            | true =>
              have HIN := Lib.hid (inP_snoc HPK.out hin.out (by rw [hbx, hby]; rfl))
              rw [hbx] at HEx
              rw [hby] at HEy
              obtain ⟨x, rfl, hxn⟩ := PO.isEl_iff.1 hbx
              obtain ⟨y, rfl, hyn⟩ := PO.isEl_iff.1 hby
              obtain ⟨g, hgw, hcg, hsg, hgh⟩ := HAB2.out.at_ (i := x) (by rw [hRl]; exact hxn)
              have hrs := PO.rw_lt (PO.rowsP_small n (by omega) _ fun p hp => (inP_lt hin.out p hp).2).2 x
              rw [hRl] at hrs
              have HADD := Lib.hid (add_any g (PO.rw_ (PO.rowsP n (natP (P.take k))) x) y V2.drew (hsg.keep rfl) (by omega) (lt256 hrs hn))
              have c6 := cell_of_row V2 (w.heap.size + 1) 0 _ _ (0, 0) HORD2.out
              have c6' : V2.cell? ⟨w.heap.size + 1, 0, none⟩ = some (.slice (some ⟨w.heap.size, 0, none⟩) n n) := c6
              have HRT := Lib.hid (rowsP_take (n := n) HPK.out)
              have hgm := List.mem_of_getElem? hgw
              have hgne : g ≠ w.heap.size := HAB2.out.ne hgm
              have hgne1 : g ≠ w.heap.size + 1 := heapT_ne hsg.2.2 HORD2.out (by decide)
              have hglow : w.heap.size ≤ g := by
                rcases Nat.lt_or_ge g w.heap.size with h | h
                · exfalso
                  exact hglo g hgm h
                · exact h
              have HF := Lib.hid (show Ab (((V2.drew).setCell ⟨g, 0, none⟩ (.int .u64 ((PO.rw_ (PO.rowsP n (natP (P.take k))) x ||| 2 ^ y : Nat) : Int))).drew) hi2 w.heap.size ws (PO.rowsP n (natP (P.take (k + 1)))) by
                rw [HRT.out]
                exact ((show Ab V2.drew hi2 w.heap.size ws _ from HAB2.out.below ((Below.refl _ _).drew)).set hnd hgw _).below ((Below.refl _ _).drew))
              have HO2 := Lib.hid (show (((V2.drew).setCell ⟨g, 0, none⟩ (.int .u64 ((PO.rw_ (PO.rowsP n (natP (P.take k))) x ||| 2 ^ y : Nat) : Int))).drew).heap[w.heap.size + 1]? = some (.cells #[.slice (some ⟨w.heap.size, 0, none⟩) n n] 70 (0, 0)) from (Below.heap_setCell V2.drew ⟨g, 0, none⟩ _ _ (Ne.symm hgne1)).trans HORD2.out)
              have HB3 := Lib.hid (((HB2.out.drew).setCell (p := ⟨g, 0, none⟩) hglow (.int .u64 ((PO.rw_ (PO.rowsP n (natP (P.take k))) x ||| 2 ^ y : Nat) : Int))).drew)
              have hs3 : hi2 ≤ (((V2.drew).setCell ⟨g, 0, none⟩ (.int .u64 ((PO.rw_ (PO.rowsP n (natP (P.take k))) x ||| 2 ^ y : Nat) : Int))).drew).heap.size := by show hi2 ≤ ((V2.drew).setCell ⟨g, 0, none⟩ (.int .u64 ((PO.rw_ (PO.rowsP n (natP (P.take k))) x ||| 2 ^ y : Nat) : Int))).heap.size; unfold World.setCell; rw [Array.size_modify]; exact hsz2
              clear hbx hby hsg c6 hrs
              go_wp2_with fail
              rw [HV2.out]
              go_wp2_with (first
                | (go_at_call 30; refine HEx.out.mono ?_; clear HEx; rintro e w' ⟨rfl, rfl⟩)
                | (go_at_call 30; refine HEy.out.mono ?_; clear HEy; rintro e w' ⟨rfl, rfl⟩))
              go_region_with (go_at_call 41; refine HADD.out.mono ?_; rintro e w' ⟨⟨v, rfl⟩, rfl⟩)
              all_goals
                go_wp2_with fail
                go_roundw
                case rel => exact ⟨k + 1, by omega, by go_num, HF.out, HO2.out, HB3.out, hs3, HIN.out⟩
                case measure => simp [intOf]; omega
        · obtain rfl : m = k := by omega
          have hin2 : inP n P = true := by
            have := hin.out
            rwa [List.take_of_length_le (by omega)] at this
          have hab2 : Ab wr hi2 w.heap.size ws (PO.rowsP n (natP P)) := by
            have := hab.out
            rwa [List.take_of_length_le (by omega)] at this
          obtain ⟨R, hRe⟩ : ∃ R, PO.rowsP n (natP P) = R := ⟨_, rfl⟩
          have hRl : R.length = n := by rw [← hRe]; exact PO.rowsP_len _ _
          have hsm : PO.Small R := by rw [← hRe]; exact inP_small (by omega) hin2
          rw [hRe] at hab2
          have hT3 := HT.out.below htl hbel.out
          have HLL := Lib.hid (leastLinear_any hi2 w.heap.size n ws R wr hT3 hn hRl hsm hab2 hsz)
          have c6 := cell_of_row wr (w.heap.size + 1) 0 _ _ (0, 0) hord.out
          have c6' : wr.cell? ⟨w.heap.size + 1, 0, none⟩ = some (.slice (some ⟨w.heap.size, 0, none⟩) n n) := c6
          have htp := (topoL_len_le R hRl)
          obtain ⟨T, hTe⟩ : ∃ T, topoL (PO.rows R) = T := ⟨_, rfl⟩
          rw [hTe] at HLL htp
          by_cases hcy : T.length = n
          · have HNC := Lib.hid (show newC n P = 0 by unfold newC; rw [hin2, hRe, hTe]; simp [hcy])
            have HOR := Lib.hid (show ordR n P = T.reverse.foldl PO.stC R by unfold ordR PO.clos; rw [hRe, hTe])
            have hlt0 : ¬ (T.length : Int) < (n : Int) := by omega
            have HTM := Lib.hid (show ∀ x ∈ T, x < n from fun x hx => by
              have := (PO.topoL_fore (PO.rows R)).2.2.1 x (by rw [hTe]; exact hx)
              rwa [PO.rows_len, hRl] at this)
            have HSM := Lib.hid hsm
            have HA3 := Lib.hid hab2
            have HT3 := Lib.hid hT3
            have HRL := Lib.hid hRl
            have HTL := Lib.hid hcy
            clear hin2 hab2 hRe hRl hsm hT3 c6 hTe hcy
            go_wp2_with (first
              | (go_at_call 47
                 refine HLL.out.mono ?_
                 rintro e w5 ⟨v, rfl, ho5, hb5⟩
                 obtain ⟨A5, c5, rfl, _, _⟩ := ho5.slice
                 have hs5 := hb5.size
                 have hc5 : w5.cell? ⟨w.heap.size + 1, 0, none⟩ = some (.slice (some ⟨w.heap.size, 0, none⟩) n n) := (hb5.cell (p := ⟨w.heap.size + 1, 0, none⟩) (show w.heap.size + 1 < _ by omega)).trans c6'
                 have hab5 := HA3.out.below (hb5.mono hsz)
                 have HB5 := Lib.hid hb5
                 have HCU := Lib.hid ((callsIn_wide (n := 10)).1 (closeUpward_in 10 (by omega) hi2 w.heap.size n c5 wr.heap.size A5 ws R T w5 (HT3.out.below (by have := hbel.out.size; omega) hb5) hn HRL.out (by have := HSM.out.2; rw [HRL.out] at this; exact this) hab5 hnd htw (by omega) ho5 HTM.out (by omega)))
                 clear hb5 hab5 HLL ho5)
              | (go_at_call 48
                 refine HCU.out.mono ?_
                 rintro e w6 ⟨⟨v6, rfl⟩, hab6, hch6⟩))
            go_ret2
            have hs6 := hch6.size
            have hlow : ∀ b, b < w5.heap.size → b ∈ ws → w.heap.size ≤ b := fun b _ hb => by have := hglo b hb; omega
            have hbb : Below w.heap.size w w6 := (hbel.out.trans (HB5.out.mono (by have := hbel.out.size; omega))).trans (hch6.below hlow (by have := hbel.out.size; omega))
            have hord6 : w6.heap[w.heap.size + 1]? = some (.cells #[.slice (some ⟨w.heap.size, 0, none⟩) n n] 70 (0, 0)) := by
              rw [hch6.block _ (by omega) (fun hm => by
                obtain ⟨j, hj, e⟩ := List.mem_iff_getElem.1 hm
                have hjr : j < R.length := by rw [HRL.out]; omega
                have h2 := (HA3.out.below (HB5.out.mono hsz)).row j _ R[j] (List.getElem?_eq_getElem hj) (List.getElem?_eq_getElem hjr)
                rw [e] at h2
                exact heapT_ne h2.2.2 ((HB5.out.block _ (by omega)).trans hord.out) (by decide) rfl), HB5.out.block _ (by omega)]
              exact hord.out
            refine ⟨some ⟨w.heap.size + 1, 0, none⟩, by rw [HNC.out]; rfl, hbb, fun _ => ⟨w.heap.size + 1, rfl, ?_⟩, fun h => absurd HNC.out h⟩
            rw [HOR.out]
            have hln : (T.reverse.foldl PO.stC R).length = n := by rw [← hab6.len]; exact hwn
            exact ⟨by omega, w.heap.size, ws, by rw [hln]; exact hord6, hab6.more (by omega)⟩
          · have HNC := Lib.hid (show newC n P = 9 by unfold newC; rw [hin2, hRe, hTe]; simp [hcy])
            have hlt0 : (T.length : Int) < (n : Int) := by omega
            clear hin2 hab2 hRe hRl hsm hT3 c6 hTe hcy
            go_wp2_with (go_at_call 47
                         refine HLL.out.mono ?_
                         rintro e w5 ⟨v, rfl, ho5, hb5⟩
                         obtain ⟨A5, c5, rfl, _, _⟩ := ho5.slice)
            go_ret2
            refine ⟨none, by rw [HNC.out]; rfl, hbel.out.trans (hb5.mono (by have := hbel.out.size; omega)), fun h => ?_, fun _ => rfl⟩
            rw [HNC.out] at h
            cases h
end Go.Proofs.YtlomhoohmcnniaaDoor

namespace Go.Proofs.YtlomhoohmcnniaaDoor
open Go Go.RowKit Go.Proofs

def iP (E : List (Nat × Nat)) : List (Int × Int) := E.map fun p => ((p.1 : Int), (p.2 : Int))
theorem natP_iP (E : List (Nat × Nat)) : natP (iP E) = E := by
  unfold natP iP
  rw [List.map_map]
  conv => rhs; rw [← List.map_id E]
  rfl
theorem iP_len (E : List (Nat × Nat)) : (iP E).length = E.length := List.length_map _
theorem inP_iP {n : Nat} {E : List (Nat × Nat)} (hE : ∀ p ∈ E, p.1 < n ∧ p.2 < n) : inP n (iP E) = true := by
  unfold inP
  rw [List.all_eq_true]
  intro p hp
  obtain ⟨q, hq, rfl⟩ := List.mem_map.1 hp
  rw [PO.isEl_nat (hE q hq).1, PO.isEl_nat (hE q hq).2]
  rfl
theorem up_lt {n : Nat} (hn : n ≤ 64) {E : List (Nat × Nat)} (hE : ∀ p ∈ E, p.1 < p.2 ∧ p.2 < n) {a b : Nat} (h : PO.Up (PO.rows (PO.rowsP n E)) a b) : a < b := by
  have hE2 : ∀ p ∈ E, p.1 < n ∧ p.2 < n := fun p hp => ⟨Nat.lt_trans (hE p hp).1 (hE p hp).2, (hE p hp).2⟩
  induction h with
  | one e => exact (hE _ ((PO.rowsP_nb n hn E hE2 _ _).1 e)).1
  | more e _ ih => exact Nat.lt_trans (hE _ ((PO.rowsP_nb n hn E hE2 _ _).1 e)).1 ih
theorem ord_ok {n : Nat} (hn : n ≤ 14) {E : List (Nat × Nat)} (hE : ∀ p ∈ E, p.1 < p.2 ∧ p.2 < n) : newC n (iP E) = 0 ∧ PO.Cl (ordR n (iP E)) ∧ (ordR n (iP E)).length = n ∧ ∀ a b, PO.lt (ordR n (iP E)) a b = true ↔ PO.Up (PO.rows (PO.rowsP n E)) a b := by
  have hE2 : ∀ p ∈ E, p.1 < n ∧ p.2 < n := fun p hp => ⟨Nat.lt_trans (hE p hp).1 (hE p hp).2, (hE p hp).2⟩
  have hc : ¬ PO.Cyc (PO.rows (PO.rowsP n E)) := by
    rintro ⟨a, h⟩
    exact Nat.lt_irrefl a (up_lt (by omega) hE h)
  have hs := PO.rowsP_small n (by omega) E fun p hp => (hE p hp).2
  have ht := PO.topo_of_acyclic hc
  rw [PO.rows_len] at ht
  have ht2 := ht
  rw [PO.rowsP_len] at ht2
  have hk := PO.clos_cl hs ht
  unfold ordR newC
  rw [natP_iP, inP_iP hE2, if_pos rfl, if_pos ht2]
  exact ⟨rfl, hk.1, by rw [hk.2.1, PO.rowsP_len], hk.2.2⟩
namespace DP
theorem prs_le (R : List St) : ∀ p ∈ prs R, p.1 < p.2 ∧ p.2 < R.length := fun _ hp => ⟨(prs_mem.1 hp).1, (prs_mem.1 hp).2.1⟩
def ordD (R : List St) : List Nat := ordR R.length (iP (prs R))
/-- Step i happens before step k. -/
def hb (R : List St) (i k : Nat) : Bool := PO.lt (ordD R) i k
section
variable {R : List St} (hR : R.length ≤ 14)
include hR
theorem ordD_cl : PO.Cl (ordD R) := (ord_ok hR (prs_le R)).2.1
theorem ordD_len : (ordD R).length = R.length := (ord_ok hR (prs_le R)).2.2.1
theorem hb_up {i k : Nat} : hb R i k = true ↔ PO.Up (PO.rows (PO.rowsP R.length (prs R))) i k := (ord_ok hR (prs_le R)).2.2.2 i k
theorem nb_prs {i k : Nat} : k ∈ nb (PO.rows (PO.rowsP R.length (prs R))) i ↔ (i, k) ∈ prs R :=
  PO.rowsP_nb R.length (by omega) (prs R) (fun p hp => ⟨Nat.lt_trans (prs_le R p hp).1 (prs_le R p hp).2, (prs_le R p hp).2⟩) i k
theorem hb_lt {i k : Nat} (h : hb R i k = true) : i < k ∧ k < R.length := by
  have hc := ordD_cl hR
  refine ⟨up_lt (by omega) (prs_le R) ((hb_up hR).1 h), ?_⟩
  have := PO.lt_to hc.small h
  rwa [ordD_len hR] at this
theorem hb_one {i k : Nat} (h : i < k) (hk : k < R.length) (hd : depAt R i k = true) : hb R i k = true :=
  (hb_up hR).2 (.one ((nb_prs hR).2 (prs_mem.2 ⟨h, hk, hd⟩)))
theorem hb_trans {i j k : Nat} (h1 : hb R i j = true) (h2 : hb R j k = true) : hb R i k = true := (ordD_cl hR).tr _ _ _ h1 h2
theorem hb_iff {i k : Nat} : hb R i k = true ↔ ∃ a, i < a ∧ a < R.length ∧ depAt R i a = true ∧ (a = k ∨ hb R a k = true) := by
  rw [hb_up hR, PO.Up.iff]
  constructor
  · rintro (h | ⟨c, h1, h2⟩)
    · obtain ⟨p1, p2, p3⟩ := prs_mem.1 ((nb_prs hR).1 h)
      exact ⟨k, p1, p2, p3, .inl rfl⟩
    · obtain ⟨p1, p2, p3⟩ := prs_mem.1 ((nb_prs hR).1 h1)
      exact ⟨c, p1, p2, p3, .inr ((hb_up hR).2 h2)⟩
  · rintro ⟨a, h1, h2, h3, rfl | h4⟩
    · exact .inl ((nb_prs hR).2 (prs_mem.2 ⟨h1, h2, h3⟩))
    · exact .inr ⟨a, (nb_prs hR).2 (prs_mem.2 ⟨h1, h2, h3⟩), (hb_up hR).1 h4⟩
end
/-- What is known of i's row behind the steps below k. -/
def hbTo (R : List St) (i k j : Nat) : Bool := (List.range k).any fun a => decide (i < a) && depAt R i a && (decide (a = j) || hb R a j)
theorem hbTo_end {R : List St} (hR : R.length ≤ 14) (i j : Nat) : hbTo R i R.length j = hb R i j := by
  rw [Bool.eq_iff_iff, hb_iff hR]
  unfold hbTo
  rw [List.any_eq_true]
  constructor
  · rintro ⟨a, ha, h⟩
    simp only [Bool.and_eq_true, Bool.or_eq_true, decide_eq_true_eq] at h
    exact ⟨a, h.1.1, List.mem_range.1 ha, h.1.2, h.2⟩
  · rintro ⟨a, h1, h2, h3, h4⟩
    refine ⟨a, List.mem_range.2 h2, ?_⟩
    simp only [Bool.and_eq_true, Bool.or_eq_true, decide_eq_true_eq]
    exact ⟨⟨h1, h3⟩, h4⟩
theorem hbTo_start (R : List St) (i j : Nat) : hbTo R i (i + 1) j = false := by
  unfold hbTo
  rw [List.any_eq_false]
  intro a ha
  have := List.mem_range.1 ha
  rw [decide_eq_false (show ¬ i < a by omega)]
  simp
theorem hbTo_succ (R : List St) (i k j : Nat) (h : i < k) : hbTo R i (k + 1) j = (hbTo R i k j || (depAt R i k && (decide (k = j) || hb R k j))) := by
  unfold hbTo
  rw [List.range_succ, List.any_append]
  simp [h]
/-- The pair is a race. -/
def feedsAt (R : List St) (i k : Nat) : Bool := match R[i]?, R[k]? with
  | some a, some b => feeds a b
  | _, _ => false
def raceB (R : List St) (i k : Nat) : Bool := PO.covB (ordD R) i k && !feedsAt R i k
def races (R : List St) : List (Nat × Nat) := (List.range R.length).flatMap fun i => ((List.range R.length).filter (raceB R i)).map fun k => (i, k)
theorem feedsAt_eq {R : List St} {i k : Nat} {a b : St} (ha : R[i]? = some a) (hb : R[k]? = some b) : feedsAt R i k = feeds a b := by
  unfold feedsAt
  rw [ha, hb]
/-- As the reference has it. -/
def raceR (R : List St) (i k : Nat) : Bool := decide (i < k) && (depAt R i k && !feedsAt R i k) && !((List.range k).any fun j => decide (i < j) && (hb R i j && hb R j k))
theorem race_ref {R : List St} (hR : R.length ≤ 14) {i k : Nat} (hk : k < R.length) : raceR R i k = raceB R i k := by
  have hc := PO.covB_iff (ordD_cl hR).small i k
  rw [Bool.eq_iff_iff]
  unfold raceR raceB
  simp only [Bool.and_eq_true, Bool.not_eq_true', decide_eq_true_eq]
  constructor
  · rintro ⟨⟨h1, h2, h3⟩, h4⟩
    refine ⟨hc.2 ⟨hb_one hR h1 hk h2, ?_⟩, h3⟩
    rintro ⟨c, c1, c2⟩
    have l1 := hb_lt hR (show hb R i c = true from c1)
    have l2 := hb_lt hR (show hb R c k = true from c2)
    rw [List.any_eq_false] at h4
    refine h4 c (List.mem_range.2 l2.1) ?_
    simp only [Bool.and_eq_true, decide_eq_true_eq]
    exact ⟨l1.1, c1, c2⟩
  · rintro ⟨h1, h2⟩
    obtain ⟨h3, h4⟩ := hc.1 h1
    obtain ⟨a, a1, a2, a3, rfl | a4⟩ := (hb_iff hR).1 (show hb R i k = true from h3)
    · refine ⟨⟨a1, a3, h2⟩, ?_⟩
      rw [List.any_eq_false]
      intro j _ hj
      simp only [Bool.and_eq_true, decide_eq_true_eq] at hj
      exact h4 ⟨j, hj.2.1, hj.2.2⟩
    · exact absurd ⟨a, hb_one hR a1 a2 a3, a4⟩ h4
theorem covs_filter (R : List St) (hR : R.length ≤ 14) : (PO.covs (ordD R)).filter (fun p => !feedsAt R p.1 p.2) = races R := by
  unfold PO.covs races
  rw [ordD_len hR, List.filter_flatMap]
  congr 1
  funext i
  rw [List.filter_map, List.filter_filter]
  congr 1
  apply List.filter_congr
  intro k _
  unfold raceB
  simp only [Function.comp]
  rw [Bool.and_comm]
end DP
end Go.Proofs.YtlomhoohmcnniaaDoor

namespace Go.Proofs.YtlomhoohmcnniaaDoor
open Go Go.RowKit Go.Proofs

theorem ints_take {zs : List Int} {j : Nat} (h : j < zs.length) : zs.take (j + 1) = zs.take j ++ [zs[j]?.getD 0] := by
  rw [List.take_add_one, List.getElem?_eq_getElem h]; rfl
theorem range_filter (p : Nat → Bool) (a : Nat) : (List.range (a + 1)).filter p = (List.range a).filter p ++ (if p a then [a] else []) := by
  rw [List.range_succ, List.filter_append]
  congr 1
  cases h : p a <;> simp [h]
end Go.Proofs.YtlomhoohmcnniaaDoor

namespace Go.Proofs.YtlomhoohmcnniaaDoor
open Go Go.RowKit Go.Proofs Go.Shelf
attribute [local go_sem] Oper.semAt_some

set_option maxHeartbeats 1000000 in
theorem has_c (g c m a : Nat) (W : World) (hc : W.cell? ⟨g, 0, none⟩ = some (.int .u64 (m : Int))) (ha : a < 14) (hm : m < 16384) :
    Calls Tryd.prog 31 #[.slice (some ⟨g, 0, none⟩) 1 c, .int .i64 (a : Int)] W fun e w' => e = .returned (.bool (m.testBit a)) ∧ W = w' := by
  have ha0 : (0 : Int) ≤ (a : Int) := by omega
  have ha8 : (a : Int) < 14 := by omega
  have hq : (a : Int) / 64 = 0 := by omega
  go_enter Tryd.func31, Tryd.ntmps31
  go_wp2_with fail
  rw [po_has ha hm]
  go_ret
  exact ⟨rfl, rfl⟩
set_option maxHeartbeats 4000000 in
theorem removeAll_c (g c m g' m' : Nat) (W : World) (hc : W.cell? ⟨g, 0, none⟩ = some (.int .u64 (m : Int))) (hf : W.frozen? ⟨g, 0, none⟩ = false) (h' : Sw W 1 g' m') (hm : m < 16384) (hm' : m' < 16384) :
    Calls Tryd.prog 44 #[.slice (some ⟨g, 0, none⟩) 1 c, .slice (some ⟨g', 0, none⟩) 1 1] W fun e w' => (∃ v, e = .returned v) ∧ w' = W.setCell ⟨g, 0, none⟩ (.int .u64 ((m ^^^ (m &&& m') : Nat) : Int)) := by
  have hc' := h'.cell
  have he := po_andNot m m' hm (by omega)
  go_enter Tryd.func44, Tryd.ntmps44
  go_wp2_with fail
  go_loopw [8] (fun i wr => (i = .int .i64 0 ∧ wr = W) ∨ (i = .int .i64 1 ∧ wr = W.setCell ⟨g, 0, none⟩ (.int .u64 ((m ^^^ (m &&& m') : Nat) : Int)))) (fun i _ => 1 - (intOf i).toNat)
  case atStart => exact .inl ⟨rfl, rfl⟩
  case round =>
    rcases hrel with ⟨rfl, rfl⟩ | ⟨rfl, rfl⟩
    · go_wp2_with fail
      go_roundw
      case rel => refine .inr ⟨?_, ?_⟩ <;> first | trivial | rfl
      case measure => simp [intOf]
    · go_wp2_with fail
      go_end0
      exact ⟨⟨_, rfl⟩, rfl⟩
set_option maxRecDepth 100000 in
set_option maxHeartbeats 4000000 in
theorem members1_c (N : Nat) (hN : 3 ≤ N) (l Bs n g c m : Nat) (X : Nat → Prop) (hX : X 0) (hm : m < 2 ^ n) (hn : n ≤ 14) (J Jx : List (El n) → World → Prop)
    (hY : ∀ pre x W, J pre W → pre.length < 14 → YieldAt Fence.wide (N - 1) Tryd.prog l (elA x) W fun e W' =>
      (e = .returned (.bool true) ∧ J (pre ++ [x]) W' ∧ Keeps X W W') ∨ (e = .returned (.bool false) ∧ Jx (pre ++ [x]) W'))
    (W : World) (hT : Tab W) (hBs : W.cell? ⟨Bs, 0, none⟩ = some (.slice (some ⟨g, 0, none⟩) 1 c)) (hg : W.cell? ⟨g, 0, none⟩ = some (.int .u64 (m : Int))) (h0 : J [] W) :
    CallsIn Fence.wide N Tryd.prog 56 #[.func (.yield l) #[] #[], .pointer (some ⟨Bs, 0, none⟩)] W fun e W' => (∃ v, e = .returned v) ∧
      ((∃ ys : List (El n), ys.map Subtype.val = PO.els m ∧ J ys W') ∨ (∃ pre : List (El n), pre.map Subtype.val <+: PO.els m ∧ Jx pre W')) := by
  have hm8 : m < 16384 := Nat.lt_of_lt_of_le hm (Nat.pow_le_pow_right (by omega) hn)
  refine callsIn_of_wp Tryd.func56 rfl trivial ?_ rfl
  simp only [Tryd.ntmps56, List.size_toArray, List.length_cons, List.length_nil, Nat.reduceAdd, Nat.reduceSub, Array.replicate_succ, Array.replicate_zero, List.push_toArray, List.append_toArray, List.nil_append, List.cons_append]
  gi_wp2
  gi_loopw [7] (fun i wr => (i = .int .i64 0 ∧ wr = W) ∨ (i = .int .i64 1 ∧ ∃ ys : List (El n), Hid (ys.map Subtype.val = PO.els m) ∧ Hid (J ys wr))) (fun i _ => 1 - (intOf i).toNat)
  case atStart => exact .inl ⟨rfl, rfl⟩
  case round =>
    rcases hrel with ⟨rfl, rfl⟩ | ⟨rfl, ys, hys, hj⟩
    · have H0 := Lib.hid h0
      clear h0
      gi_wp2
      gi_loopw [4] (fun x V => ∃ (pre : List (El n)) (r : Nat), x = .int .u64 (r : Int) ∧ r < 16384 ∧ Hid (pre.map Subtype.val ++ PO.els r = PO.els m) ∧ Hid (J pre V) ∧ Hid (Tab V)) (fun x _ => (intOf x).toNat)
      case atStart => exact ⟨[], m, rfl, hm8, (show ([] : List (El n)).map Subtype.val ++ PO.els m = PO.els m from rfl), H0.out, hT⟩
      case round =>
        obtain ⟨pre, r, rfl, hr8, hpre, hj, htab⟩ := hrel
        by_cases hr : r = 0
        · subst hr
          have HJ := Lib.hid (show pre.map Subtype.val = PO.els m by have := hpre.out; rw [PO.els_zero, List.append_nil] at this; exact this)
          clear hpre
          gi_wp2
          go_roundw
          case rel => exact .inr ⟨rfl, pre, HJ.out, hj.out⟩
          case measure => simp [intOf]
        · have hne : ((r : Int) != 0) = true := by simp; omega
          obtain ⟨h1, h2⟩ := PO.els_low hr hr8
          have hlow := low_int hr hr8
          have HTZ := Lib.hid (tz_any r (by omega) (by omega) wr htab.out)
          rw [show tz r = PO.tz_ r from rfl] at HTZ
          obtain ⟨x, hx⟩ : ∃ x, PO.tz_ r = x := ⟨_, rfl⟩
          obtain ⟨q, hq⟩ : ∃ q, PO.low r = q := ⟨_, rfl⟩
          rw [hx] at h1 HTZ
          rw [hq] at h1 h2 hlow
          have hxm : x ∈ PO.els m := by rw [← hpre.out, h1]; simp
          have hxn := PO.els_lt hm hxm
          have hlen : pre.length < 14 := by
            have h3 := sub_len8 hm hn
            have h4 := congrArg List.length hpre.out
            rw [h1, List.length_append, List.length_map, List.length_cons] at h4
            omega
          have hYx := hY pre ⟨x, hxn⟩ wr hj.out hlen
          have hpre2 := hpre.out
          rw [h1] at hpre2
          have HP := Lib.hid hpre2
          have hx0 : (0 : Int) + (x : Int) = (x : Int) := by omega
          obtain ⟨fn, tmps, assign, body, hy, hR⟩ := hYx
          unfold elA at hy
          dsimp only at hy
          have HR := Lib.hid hr
          have HPP := Lib.hid (show (pre ++ [(⟨x, hxn⟩ : El n)]).map Subtype.val ++ PO.els q = PO.els m by rw [List.map_append, List.append_assoc]; exact hpre2)
          clear hY hpre hpre2 h1 hxm hx hq hr hlen
          gi_wp2_with (refine ⟨trivial, fun _ => by omega, ?_⟩; gi_at_call 57; refine (callsIn_wide.2 HTZ.out).mono ?_; rintro e w' ⟨rfl, rfl⟩)
          all_goals
            refine ⟨fun _ => by omega, hR.mono ?_⟩
            rintro e W3 (⟨rfl, hJ3, hk3⟩ | ⟨rfl, hJx3⟩)
          · gi_wp2
            go_roundw
            case rel => exact ⟨_, q, rfl, by omega, HPP.out, hJ3, htab.out.keep (hk3.2 _ hX)⟩
            case measure => simp [intOf]; omega
          · gi_wp2
            refine bodyPost_ret (results_none rfl _ _ _) rfl ?_
            exact ⟨⟨_, rfl⟩, .inr ⟨_, ⟨PO.els q, HPP.out⟩, hJx3⟩⟩
    · gi_wp2
      go_end0
      exact ⟨⟨_, rfl⟩, .inl ⟨ys, hys.out, hj.out⟩⟩

theorem members_stops_c (N : Nat) (hN : 3 ≤ N) (Bs n g c m : Nat) (X : Nat → Prop) (hX : X 0) (hm : m < 2 ^ n) (hn : n ≤ 14) (w : World) (hT : Tab w) (hBs : w.cell? ⟨Bs, 0, none⟩ = some (.slice (some ⟨g, 0, none⟩) 1 c)) (hg : w.cell? ⟨g, 0, none⟩ = some (.int .u64 (m : Int))) :
    SeqStopsK Fence.wide N Tryd.prog 56 #[.pointer (some ⟨Bs, 0, none⟩)] (elA (n := n)) (Keeps X) (fun ys => ys.map Subtype.val = PO.els m) (fun pre => pre.map Subtype.val <+: PO.els m) 14 w :=
  fun l J Jx W hW _ _ hY h0 => members1_c N hN l Bs n g c m X hX hm hn J Jx hY W (hT.keep (hW.block _ hT.lt)) ((hW.cell (cell_lt hBs)).trans hBs) ((hW.cell (cell_lt hg)).trans hg) h0
/-- Block g begins with a word of bits m. -/
def Sg (W : World) (g m : Nat) : Prop := ∃ C : Array Value, W.heap[g]? = some (.cells C 82 (0, 0)) ∧ C[0]? = some (.int .u64 (m : Int))
theorem Sg.cell {W : World} {g m : Nat} (h : Sg W g m) : W.cell? ⟨g, 0, none⟩ = some (.int .u64 (m : Int)) := by
  obtain ⟨C, h1, h2⟩ := h
  rw [cell_of_row W g 0 C _ (0, 0) h1]
  exact h2
theorem Sg.free {W : World} {g m : Nat} (h : Sg W g m) : W.frozen? ⟨g, 0, none⟩ = false := by
  obtain ⟨C, h1, h2⟩ := h
  simp [World.frozen?, h1]
theorem Sg.lt {W : World} {g m : Nat} (h : Sg W g m) : g < W.heap.size := by
  obtain ⟨C, h1, _⟩ := h
  exact heap_lt h1
theorem Sg.keep {W W' : World} {g m : Nat} (h : Sg W g m) (hk : W'.heap[g]? = W.heap[g]?) : Sg W' g m := by
  obtain ⟨C, h1, h2⟩ := h
  exact ⟨C, hk.trans h1, h2⟩
theorem Sg.set {W : World} {g m m' : Nat} (h : Sg W g m) : Sg (W.setCell ⟨g, 0, none⟩ (.int .u64 (m' : Int))) g m' := by
  obtain ⟨C, h1, h2⟩ := h
  refine ⟨C.setIfInBounds 0 (.int .u64 (m' : Int)), ?_, ?_⟩
  · simp only [World.setCell, Array.getElem?_modify]
    simp [h1]
  · have : 0 < C.size := by
      rcases Nat.eq_zero_or_pos C.size with h | h
      · rw [Array.getElem?_eq_none (by omega)] at h2
        cases h2
      · exact h
    simp [this]
set_option maxRecDepth 100000 in
set_option maxHeartbeats 4000000 in
theorem clone_any (g m : Nat) (W : World) (h : Sw W 1 g m) :
    Calls Tryd.prog 43 #[.slice (some ⟨g, 0, none⟩) 1 1] W fun e w' => ∃ g' c, e = .returned (.slice (some ⟨g', 0, none⟩) 1 c) ∧ Sg w' g' m ∧ W.heap.size ≤ g' ∧ 1 ≤ c ∧ Below W.heap.size W w' := by
  obtain ⟨i0, hi0, hz0, hz1, hz2⟩ := info_parts (show (Tryd.prog.info? 82).map (fun i => (i.zero, i.size, i.bytes)) = some (some (.int .u64 0), 1, 8) by kernel_rfl)
  have hnil : ∀ V : World, (binOp BinOp.eql 67 (Value.slice (some ⟨g, 0, none⟩) 1 1) (Value.slice none 0 0)).run Tryd.prog V = .ok (.bool false) V := fun V => by kernel_rfl
  have hslc : Slc .u64 (W.alloc (.cells #[] 82)) (some ⟨g, 0, none⟩) 1 1 [(m : Int)] := ⟨rfl, Nat.le_refl _, by simp [maxLen], .inr ⟨_, rfl, fun i u hu => by
    match i, hu with
    | 0, hu =>
      simp at hu
      subst hu
      exact (World.cell?_of_block (w := W) (Below.heap_alloc W _ g h.lt)).trans h.cell⟩⟩
  have hown : (W.alloc (.cells #[] 82)).ownsRow W.heap.size 82 1 (.slice (some ⟨W.heap.size, 0, none⟩) 0 0) 0 [] := ⟨rfl, .inr ⟨W.heap.size, 0, #[], rfl, Nat.le_refl _, World.alloc_heap_new W _, Nat.le_refl _, by simp [maxLen], by simp, by simp⟩⟩
  have HSL := Lib.hid hslc
  have HOW := Lib.hid hown
  clear hslc hown h
  go_enter Tryd.func43, Tryd.ntmps43
  go_wp2_with (at_builtin
               refine wpList_append_slc rfl (.tmp 5) (.tmp 6) 67 rfl W.heap.size 82 i0 _ 8 Tryd.underlying67 hi0 hz0 hz1 hz2 rfl _ 0 [] rfl HOW.out .u64 _ 1 1 [(m : Int)] rfl HSL.out (by simp [maxLen]) (by omega) (by simp) ?_
               intro A' c' w' hown' hgr)
  go_ret
  have hgb : Below W.heap.size W w' := ((Below.refl _ _).alloc (Nat.le_refl _) (.cells #[] 82)).grown hgr (by simp) (fun b e => by
    have h5 : some W.heap.size = some b := e
    injection h5 with h5
    omega)
  rcases hown'.2 with ⟨e1, e2⟩ | ⟨g', cap, cur, e1, g1, g2, g3, g4, g5, g6⟩
  · omega
  · injection e1 with ea eb ec
    subst ea ec
    refine ⟨g', c', rfl, ⟨cur, g2, ?_⟩, g1, by omega, hgb⟩
    have : (cur.toList.take 1)[0]? = some (Value.int .u64 (m : Int)) := by
      rw [show (1 : Nat) = 0 + 1 from rfl]
      have h6 := g6
      simp only [Nat.zero_add, Nat.mul_one] at h6
      rw [Nat.zero_add, h6]
      rfl
    rw [List.getElem?_take_of_lt (by omega), Array.getElem?_toList] at this
    exact this
end Go.Proofs.YtlomhoohmcnniaaDoor
