/-
  What graph.Reach gives: the vertices that can be reached, in order (the text of GReachM for a seat without the components); what it says of an order. Condition: the edges' ends are vertices.
-/
import Derived.Test.YtlgdcbhdmffnoaaDoorK30
import Derived.Test.YtlgdcbhdmffnoaaDoorK21
import Derived.Test.YtlgdcbhdmffnoaaDoorK26

namespace Go.Proofs.YtlgdcbhdmffnoaaDoor
open Go Go.RowKit

def sortN (l : List Nat) : List Nat := l.mergeSort fun x y => decide (x ≤ y)
theorem sortN_ints (l : List Nat) : sortI (ints l) = ints (sortN l) := by
  unfold sortI ints sortN
  rw [List.map_mergeSort]
  intro a _ b _
  by_cases h : a ≤ b
  · simp [h]
  · simp [h]
theorem sortN_sorted {l : List Nat} (h : l.Nodup) : (sortN l).Pairwise (· < ·) := by
  unfold sortN
  have h1 := List.pairwise_mergeSort (le := fun x y : Nat => decide (x ≤ y)) (by intro a b c h1 h2; simp at *; omega) (by intro a b; simp; omega) l
  have h2 : (l.mergeSort fun x y => decide (x ≤ y)).Nodup := (List.mergeSort_perm l _).nodup_iff.2 h
  have h3 := h1.and h2
  refine h3.imp ?_
  intro a b ⟨h4, h5⟩
  simp only [decide_eq_true_eq] at h4
  omega
theorem sortN_mem {l : List Nat} {x : Nat} : x ∈ sortN l ↔ x ∈ l := by
  unfold sortN
  exact (List.mergeSort_perm l _).mem_iff

/-- The vertices that can be reached from vs, in order. -/
noncomputable def rset (nx : List (List Nat)) (vs : List Nat) : List Nat := (List.range nx.length).filter fun x => @decide (∃ v ∈ vs, Rch nx v x) (Classical.propDecidable _)
theorem rset_mem {nx : List (List Nat)} {vs : List Nat} {x : Nat} : x ∈ rset nx vs ↔ x < nx.length ∧ ∃ v ∈ vs, Rch nx v x := by
  unfold rset
  rw [List.mem_filter, List.mem_range]
  constructor
  · exact fun h => ⟨h.1, @of_decide_eq_true _ (Classical.propDecidable _) h.2⟩
  · exact fun h => ⟨h.1, @decide_eq_true _ (Classical.propDecidable _) h.2⟩
theorem rset_sorted (nx : List (List Nat)) (vs : List Nat) : (rset nx vs).Pairwise (· < ·) := List.Pairwise.filter _ (range_sorted _)
theorem rset_len (nx : List (List Nat)) (vs : List Nat) : (rset nx vs).length ≤ nx.length := by
  unfold rset
  have := List.length_filter_le (fun x => @decide (∃ v ∈ vs, Rch nx v x) (Classical.propDecidable _)) (List.range nx.length)
  rw [List.length_range] at this
  exact this
theorem reach_rset {n : Nat} {nx : List (List Nat)} (hg : Good nx) (hn : nx.length = n) (zs : List Int) : sortI (ints (reachOut n nx zs)) = ints (rset nx (fromV n zs)) := by
  rw [sortN_ints]
  congr 1
  refine sorted_ext_nat _ _ (sortN_sorted (dfsL_nodup nx n hn _)) (rset_sorted _ _) fun x => ?_
  rw [sortN_mem, rset_mem]
  unfold reachOut
  rw [dfsL_reach nx n hn _ (fromV_lt n zs) hg]
  constructor
  · rintro ⟨v, hv, h⟩
    exact ⟨h.lt hg (by rw [hn]; exact fromV_lt n zs v hv), v, hv, h⟩
  · exact fun h => h.2
theorem reach_is (n m c k cf : Nat) (A F : Option Addr) (E : List (Nat × Nat)) (zs : List Int) (w : World) (hn : n ≤ 1000) (hm : m ≤ 1000) (hE : Edg w w.heap.size A m E) (hd : ∀ e ∈ E, e.1 < n ∧ e.2 < n) (hF : Ints .i64 w.heap.size w F k zs) (hk : k ≤ 100000) :
    Calls Tryd.prog 40 #[.int .i64 n, .slice A m c, .slice F k cf] w fun e w' => ∃ v, e = .returned v ∧ Own w' w.heap.size v (rset (succs n E) (fromV n zs)) ∧ Below w.heap.size w w' := by
  refine (reach_any n m c k cf A F E zs w hn hm hE hd hF hk).mono ?_
  rintro e w' ⟨v, rfl, ho, hB⟩
  rw [reach_rset (succs_good n E) (succs_len n E)] at ho
  exact ⟨v, rfl, own_iff.2 ho, hB⟩
theorem succs_nb {n : Nat} (hn : n ≤ 8) {E : List (Nat × Nat)} (hE : ∀ e ∈ E, e.1 < n ∧ e.2 < n) (a b : Nat) : b ∈ nb (succs n E) a ↔ b ∈ nb (PO.rows (PO.rowsP n E)) a := by
  rw [nb_succs hE, nb_E hn hE]
theorem up_succs {n : Nat} (hn : n ≤ 8) {E : List (Nat × Nat)} (hE : ∀ e ∈ E, e.1 < n ∧ e.2 < n) (a b : Nat) : PO.Up (succs n E) a b ↔ PO.Up (PO.rows (PO.rowsP n E)) a b := by
  constructor
  · intro h
    induction h with
    | one e => exact .one ((succs_nb hn hE _ _).1 e)
    | more e _ ih => exact .more ((succs_nb hn hE _ _).1 e) ih
  · intro h
    induction h with
    | one e => exact .one ((succs_nb hn hE _ _).2 e)
    | more e _ ih => exact .more ((succs_nb hn hE _ _).2 e) ih
/-- The graph has a topological order exactly if the pairs are an order's. -/
theorem ok_topo {n : Nat} (hn : n ≤ 8) {E : List (Nat × Nat)} (hE : ∀ e ∈ E, e.1 < n ∧ e.2 < n) : decide ((topoL (succs n E)).length = n) = okE n E := by
  have h1 := PO.topo_iff (succs n E)
  have h2 := PO.topo_iff (PO.rows (PO.rowsP n E))
  rw [succs_len] at h1
  rw [PO.rows_len, PO.rowsP_len] at h2
  unfold okE
  rw [decide_eq_decide, h1, h2]
  unfold PO.Cyc
  constructor
  · rintro h ⟨a, ha⟩
    exact h ⟨a, (up_succs hn hE a a).2 ha⟩
  · rintro h ⟨a, ha⟩
    exact h ⟨a, (up_succs hn hE a a).1 ha⟩
/-- The topological order is the order's least linear extension. -/
theorem topo_ord {n : Nat} (hn : n ≤ 8) {E : List (Nat × Nat)} (hE : ∀ e ∈ E, e.1 < n ∧ e.2 < n) (hk : okE n E = true) : topoR (succs n E) = topoL (PO.rows (ordE n E)) := by
  have hl := ok_topo hn hE
  rw [hk, decide_eq_true_iff] at hl
  obtain ⟨hc, hR, _⟩ := ordE_cl hn hE hk
  unfold topoR
  rw [succs_len, if_pos hl]
  exact PO.topo_closed hc.small (by rw [succs_len, hR]) fun a b => by rw [lt_ord hn hE hk, up_succs hn hE]
theorem rch_up {nx : List (List Nat)} {a b : Nat} (hne : a ≠ b) : Rch nx a b ↔ PO.Up nx a b := by
  constructor
  · intro h
    have : a = b ∨ PO.Up nx a b := by
      clear hne
      induction h with
      | refl a => exact .inl rfl
      | head e _ ih =>
        rcases ih with rfl | ih
        · exact .inr (.one e)
        · exact .inr (.more e ih)
    rcases this with h | h
    · exact absurd h hne
    · exact h
  · intro h
    clear hne
    induction h with
    | one e => exact Rch.one e
    | more e _ ih => exact .head e ih
/-- What can be reached from a, but for a itself, comes behind a. -/
theorem reach_ord {n : Nat} (hn : n ≤ 8) {E : List (Nat × Nat)} (hE : ∀ e ∈ E, e.1 < n ∧ e.2 < n) (hk : okE n E = true) {a b : Nat} (ha : a < n) (hb : b < n) : (decide (a ≠ b) && decide ((b : Int) ∈ (rset (succs n E) (fromV n [(a : Int)])).map fun n : Nat => (n : Int))) = PO.lt (ordE n E) a b := by
  have hfv : fromV n [(a : Int)] = [a] := by
    have h := fromV_snoc n [] (a : Int)
    rw [if_pos (by omega)] at h
    simpa [fromV] using h
  rw [hfv, Bool.eq_iff_iff, lt_ord hn hE hk, ← up_succs hn hE, Bool.and_eq_true, decide_eq_true_iff, decide_eq_true_iff]
  have hm : ((b : Int) ∈ (rset (succs n E) [a]).map fun n : Nat => (n : Int)) ↔ Rch (succs n E) a b := by
    rw [List.mem_map]
    constructor
    · rintro ⟨x, hx, e⟩
      have : x = b := by omega
      subst this
      obtain ⟨_, v, hv, h⟩ := rset_mem.1 hx
      rw [List.mem_singleton] at hv
      exact hv ▸ h
    · exact fun h => ⟨b, rset_mem.2 ⟨by rw [succs_len]; exact hb, a, by simp, h⟩, rfl⟩
  rw [hm]
  constructor
  · rintro ⟨h1, h2⟩
    exact (rch_up h1).1 h2
  · intro h
    have hne : a ≠ b := by
      rintro rfl
      have hc := (ordE_cl hn hE hk).1
      have := (lt_ord hn hE hk a a).2 ((up_succs hn hE a a).1 h)
      rw [hc.irr] at this
      cases this
    exact ⟨hne, (rch_up hne).2 h⟩
end Go.Proofs.YtlgdcbhdmffnoaaDoor
