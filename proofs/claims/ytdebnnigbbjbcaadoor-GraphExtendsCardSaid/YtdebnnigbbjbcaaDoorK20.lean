/-
  Edges turned round and some of them repeated: the same graph. Contracts of the program's functions at any later world. Mathematics and words for memory.
-/
import Derived.Test.YtdebnnigbbjbcaaDoorK19
import Derived.Test.YtdebnnigbbjbcaaDoorK18
import Derived.Test.YtdebnnigbbjbcaaDoorK16
import Derived.Test.YtdebnnigbbjbcaaDoorK6
import Derived.Test.YtdebnnigbbjbcaaDoorK5

namespace Go.Proofs.YtdebnnigbbjbcaaDoor
open Go Go.RowKit Go.Proofs

theorem succs_same {n : Nat} {E F : List (Nat × Nat)} (h : ∀ e, e ∈ E ↔ e ∈ F) : succs n E = succs n F := by
  unfold succs
  apply List.map_congr_left
  intro v _
  unfold succRow
  apply List.filter_congr
  intro w _
  rw [Bool.eq_iff_iff, decide_eq_true_eq, decide_eq_true_eq, h]
theorem rset_same {nx : List (List Nat)} {vs us : List Nat} (h : ∀ x, x ∈ vs ↔ x ∈ us) : rset nx vs = rset nx us := by
  refine sorted_ext_nat _ _ (rset_sorted _ _) (rset_sorted _ _) fun x => ?_
  rw [rset_mem, rset_mem]
  constructor
  · rintro ⟨h1, v, h2, h3⟩
    exact ⟨h1, v, (h v).1 h2, h3⟩
  · rintro ⟨h1, v, h2, h3⟩
    exact ⟨h1, v, (h v).2 h2, h3⟩
theorem fromV_mem {n : Nat} {zs : List Int} {x : Nat} : x ∈ fromV n zs ↔ x < n ∧ (x : Int) ∈ zs := by
  unfold fromV
  rw [List.mem_map]
  constructor
  · rintro ⟨z, hz, rfl⟩
    have h1 := List.mem_filter.1 hz
    have h2 := h1.2
    simp at h2
    obtain ⟨k, rfl⟩ := Int.eq_ofNat_of_zero_le h2.1
    exact ⟨by simp; omega, by simpa using h1.1⟩
  · rintro ⟨h1, h2⟩
    exact ⟨(x : Int), List.mem_filter.2 ⟨h2, by simp; omega⟩, by simp⟩
/-- What stands of the turned list when places p and above are told. -/
structure Rev (E : List (Nat × Nat)) (p : Nat) (L : List (Nat × Nat)) : Prop where
  sub : ∀ e ∈ L, e ∈ E
  all : ∀ i, p ≤ i → ∀ e, E[i]? = some e → e ∈ L
  len : L.length + 2 * p ≤ 2 * E.length
theorem Rev.start (E : List (Nat × Nat)) : Rev E E.length [] := ⟨(fun e h => by cases h), (fun i hi e he => by rw [List.getElem?_eq_none hi] at he; cases he), by simp⟩
theorem Rev.one {E L : List (Nat × Nat)} {p : Nat} {e : Nat × Nat} (h : Rev E (p + 1) L) (he : E[p]? = some e) : Rev E p (L ++ [e]) := by
  have := h.len
  refine ⟨fun x hx => ?_, fun i hi x hx => ?_, by rw [List.length_append, List.length_singleton]; omega⟩
  · rcases List.mem_append.1 hx with hx | hx
    · exact h.sub x hx
    · rw [List.mem_singleton] at hx
      exact hx ▸ List.mem_of_getElem? he
  · rcases Nat.lt_or_ge p i with k | k
    · exact List.mem_append_left _ (h.all i k x hx)
    · obtain rfl : i = p := by omega
      rw [he] at hx
      injection hx with hx
      rw [hx]
      simp
theorem Rev.two {E L : List (Nat × Nat)} {p : Nat} {e : Nat × Nat} (h : Rev E (p + 1) L) (he : E[p]? = some e) : Rev E p (L ++ [e] ++ [e]) := by
  have h1 := h.one he
  have := h.len
  refine ⟨fun x hx => ?_, fun i hi x hx => List.mem_append_left _ (h1.all i hi x hx), by simp only [List.length_append, List.length_singleton]; omega⟩
  rcases List.mem_append.1 hx with hx | hx
  · exact h1.sub x hx
  · exact h1.sub x (by rw [List.mem_singleton] at hx; rw [hx]; simp)
theorem Rev.done {E L : List (Nat × Nat)} (h : Rev E 0 L) : ∀ e, e ∈ E ↔ e ∈ L := fun e => by
  constructor
  · intro he
    obtain ⟨i, hi, k⟩ := List.mem_iff_getElem.1 he
    exact h.all i (Nat.zero_le _) e (by rw [List.getElem?_eq_getElem hi, k])
  · exact h.sub e
/-- The contracts at any later world. -/
def TopoAt (W0 : World) (k : Nat) (v : Value) (nx : List (List Nat)) : Prop := ∀ W, Below W0.heap.size W0 W → Calls Tryd.prog 14 #[.int .i64 (k : Int), v] W fun e w' => ∃ A c, e = .returned (.tuple #[.slice A (topoR nx).length c, .bool (decide ((topoL nx).length = k))]) ∧ Own w' W0.heap.size (.slice A (topoR nx).length c) (topoR nx) ∧ Below W.heap.size W w'
def CycAt (W0 : World) (k : Nat) (v : Value) (nx : List (List Nat)) : Prop := ∀ W, Below W0.heap.size W0 W → Calls Tryd.prog 21 #[.int .i64 (k : Int), v] W fun e w' => ∃ A C c, e = .returned (.slice A C.length c) ∧ IsCyc nx k k C ∧ Own w' W0.heap.size (.slice A C.length c) C ∧ Below W.heap.size W w'
def CompAt (W0 : World) (k : Nat) (v : Value) (nx : List (List Nat)) : Prop := ∀ W, Below W0.heap.size W0 W → Calls Tryd.prog 24 #[.int .i64 (k : Int), v] W fun e w' => ∃ A c, e = .returned (.slice A (comps nx).length c) ∧ All w' W0.heap.size (.slice A (comps nx).length c) (comps nx) ∧ Below W.heap.size W w'
def ReachAt (W0 : World) (k : Nat) (v : Value) (nx : List (List Nat)) : Prop := ∀ W, Below W0.heap.size W0 W → ∀ (F : Option Addr) (q c : Nat) (zs : List Int), Ints .i64 W.heap.size W F q zs → q ≤ 1000 → Calls Tryd.prog 19 #[.int .i64 (k : Int), v, .slice F q c] W fun e w' => ∃ A c, e = .returned (.slice A (rset nx (fromV k zs)).length c) ∧ Own w' W0.heap.size (.slice A (rset nx (fromV k zs)).length c) (rset nx (fromV k zs)) ∧ Below W.heap.size W w'
section
variable {W0 : World} {k m c : Nat} {A : Option Addr} {E : List (Nat × Nat)}
theorem topo_at (hk : k ≤ 10) (hm : m ≤ 1000) (hE : Edg W0 W0.heap.size A m E) (hd : ∀ e ∈ E, e.1 < k ∧ e.2 < k) : TopoAt W0 k (.slice A m c) (succs k E) := fun W hB => by
  refine (topo_any sort_own compact_own k m c A E W (by omega) hm ((hE.below hB).more hB.size) hd).mono ?_
  rintro e w' ⟨v, rfl, ho, hb⟩
  obtain ⟨A', c', rfl, _, _⟩ := ho.slice
  exact ⟨A', c', rfl, ho.base_ fun b h => by have := (ho.lt b h).1; have := hB.size; omega, hb⟩
theorem cyc_at (hk : k ≤ 10) (hm : m ≤ 1000) (hE : Edg W0 W0.heap.size A m E) (hd : ∀ e ∈ E, e.1 < k ∧ e.2 < k) (hT : Tab W0) : CycAt W0 k (.slice A m c) (succs k E) := fun W hB => by
  have htb : 0 < W0.heap.size := World.block_lt_of_cell? W0 _ (hT 0 (by omega))
  refine (cycle_is k m c A E W hk hm ((hE.below hB).more hB.size) hd (hT.keep (hB.block _ htb))).mono ?_
  rintro e w' ⟨v, C, rfl, hi, ho, hb⟩
  obtain ⟨A', c', rfl, _, _⟩ := ho.slice
  exact ⟨A', C, c', rfl, hi, ho.base_ fun b h => by have := (ho.lt b h).1; have := hB.size; omega, hb⟩
theorem comp_at (hk : k ≤ 10) (hm : m ≤ 1000) (hE : Edg W0 W0.heap.size A m E) (hd : ∀ e ∈ E, e.1 < k ∧ e.2 < k) : CompAt W0 k (.slice A m c) (succs k E) := fun W hB => by
  refine (comps_is k m c A E W (by omega) hm ((hE.below hB).more hB.size) hd).mono ?_
  rintro e w' ⟨v, rfl, ha, hb⟩
  obtain ⟨A', c', rfl⟩ := ha.form
  exact ⟨A', c', rfl, ha.more hB.size, hb⟩
theorem reach_at (hk : k ≤ 10) (hm : m ≤ 1000) (hE : Edg W0 W0.heap.size A m E) (hd : ∀ e ∈ E, e.1 < k ∧ e.2 < k) : ReachAt W0 k (.slice A m c) (succs k E) := fun W hB F q cf zs hF hq => by
  refine (reach_is k m c q cf A F E zs W (by omega) hm ((hE.below hB).more hB.size) hd hF (by omega)).mono ?_
  rintro e w' ⟨v, rfl, ho, hb⟩
  obtain ⟨A', c', rfl, _, _⟩ := ho.slice
  exact ⟨A', c', rfl, ho.base_ fun b h => by have := (ho.lt b h).1; have := hB.size; omega, hb⟩
end
theorem topoR_len (nx : List (List Nat)) : (topoR nx).length ≤ nx.length := by
  unfold topoR
  split
  · rename_i h
    omega
  · exact Nat.zero_le _
theorem cyc_len {nx : List (List Nat)} {n : Nat} {C : List Nat} (h : IsCyc nx n n C) : C.length ≤ n := by
  rcases h with ⟨rfl, _⟩ | ⟨L, s, _, h2, _, h4, rfl, _⟩
  · exact Nat.zero_le _
  · rw [wkL_len nx s L s ((wkL_iff nx s L s).2 h4)]
    exact h2
/-- SameInts at two rows of the call's own that hold the same. -/
theorem same_own (w : World) (lo lo2 c c2 : Nat) (A A2 : Option Addr) (l : List Nat) (h : Own w lo (.slice A l.length c) l) (h2 : Own w lo2 (.slice A2 l.length c2) l) (hl : l.length ≤ 1000) :
    Calls Tryd.prog 16 #[.slice A l.length c, .slice A2 l.length c2] w fun e w' => e = .returned (.bool true) ∧ Below w.heap.size w w' := by
  have h3 := sameInts_any A A2 l.length l.length c c2 _ _ w (ints_own h) (ints_own h2) (by omega)
  rw [decide_eq_true rfl] at h3
  exact h3
end Go.Proofs.YtdebnnigbbjbcaaDoor
