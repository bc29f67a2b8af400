/-
  The library's Sort and Compact at rows of the call's own: out of the shelf's contracts. No condition but lengths.
  The contract of graph.Reach: what the search from the given vertices leaves, sorted. Condition: the edges' ends are vertices.
  What a depth-first search leaves: just what can be reached; and in which order (for the components). Plain mathematics; no function of the program.
-/
import Derived.Test.YtlgdcbhdmffnoaaDoorK25
import Derived.Test.YtlgdcbhdmffnoaaDoorK29
import Derived.Sort.OwnSortedInts
import Derived.Test.YtlgdcbhdmffnoaaDoorK28

namespace Go.Proofs.YtlgdcbhdmffnoaaDoor
open Go Go.RowKit Go.Sort Go.Proofs

theorem ownI_form {w : World} {base : Nat} {v : Value} {zs : List Int} (h : OwnI w base v zs) : (v = .slice none 0 0 ∧ zs = []) ∨ ∃ g cap cur, v = .slice (some ⟨g, 0, none⟩) zs.length cap ∧ base ≤ g ∧ w.heap[g]? = some (.cells cur 3 (0, 0)) ∧ zs.length ≤ cap ∧ cap ≤ maxLen ∧ cur.size = cap * 1 ∧ cur.toList.take zs.length = zs.map (Value.int .i64) := by
  rcases h.2 with ⟨h1, h2⟩ | ⟨g, cap, cur, h1, h2, h3, h4, h5, h6, h7⟩
  · exact .inl ⟨h1, List.eq_nil_of_length_eq_zero h2⟩
  · exact .inr ⟨g, cap, cur, h1, h2, h3, h4, h5, h6, by rw [Nat.mul_one] at h7; exact h7⟩
theorem ownI_cut {w : World} {base g cap n : Nat} {cur : Array Value} {ks rest : List Int} (hbase : base ≤ g) (hb : w.heap[g]? = some (.cells cur 3 (0, 0))) (h1 : (ks ++ rest).length ≤ cap) (h2 : cap ≤ maxLen) (h3 : cur.size = cap * 1) :
    OwnI (putRow (Value.int .i64) (Sort.ahead w n) g 0 (ks ++ rest).toArray) base (.slice (some ⟨g, 0, none⟩) ks.length cap) ks := by
  have hh := heap_sortedI (w := w) (g := g) (n := n) (os := #[]) (ks ++ rest).toArray hb
  rw [grow_empty] at hh
  refine ⟨by simp, .inr ⟨g, cap, _, rfl, hbase, hh, by rw [List.length_append] at h1; omega, h2, by simp [putCells, h3], ?_⟩⟩
  have ht := take_putCellsI cur (ks ++ rest) (by omega)
  rw [Nat.mul_one]
  have := congrArg (List.take ks.length) ht
  rw [List.take_take, Nat.min_eq_left (by simp), List.map_append, List.take_left' (by simp)] at this
  exact this
theorem grown_put {w : World} {g n : Nat} (d : Array Int) : w.grownBy (putRow (Value.int .i64) (Sort.ahead w n) g 0 d) (some g) := by
  have := grownBy_sortedI (w := w) (g := g) (n := n) (os := #[]) d
  rwa [grow_empty] at this
theorem own_of_base {w : World} {base base' : Nat} {v : Value} {zs : List Int} (h : OwnI w base v zs) (hb : ∀ b, v.ownBlock = some b → base' ≤ b) : OwnI w base' v zs := by
  refine ⟨h.1, ?_⟩
  rcases h.2 with h0 | ⟨g, cap, cur, rfl, h1, h2⟩
  · exact .inl h0
  · exact .inr ⟨g, cap, cur, rfl, hb g rfl, h2⟩
theorem sort_own : SortOwn := by
  intro base v zs W h hl
  rcases ownI_form h with ⟨rfl, rfl⟩ | ⟨g, cap, cur, rfl, hbase, hb, h1, h2, h3, h4⟩
  · refine (Tryd.slices_Sort_int_none none 0 W).mono ?_
    rintro e W' ⟨rfl, rfl⟩
    exact ⟨rfl, by rw [List.mergeSort_nil]; exact h, ⟨rfl, rfl, rfl, Nat.le_refl _, fun _ _ _ => rfl⟩⟩
  · refine (Tryd.slices_Sort_int g 0 cap zs W (holds_of_blockI hb h4) (heap_lt hb) (by omega)).mono ?_
    rintro e W' ⟨rfl, n, os, rfl⟩
    refine ⟨rfl, ?_, grownBy_sortedI _⟩
    have hm := ownsRow_sortedI (os := os) (n := n) (ss := zs) (ts := zs.mergeSort fun x y => decide (x ≤ y)) (by simp) hbase hb h1 h2 h3
    unfold OwnI
    rw [List.length_mergeSort]
    exact hm
theorem compact_len (d : Array Int) (m : Nat) : (Lib.compactUpTo d m).length ≤ m := by
  unfold Lib.compactUpTo
  rw [List.length_map]
  have := List.length_filter_le (Lib.keeps d) (List.range m)
  rwa [List.length_range] at this
theorem compact_own : CompactOwn := by
  intro base v zs W h hl
  rcases ownI_form h with ⟨rfl, rfl⟩ | ⟨g, cap, cur, rfl, hbase, hb, h1, h2, h3, h4⟩
  · refine (Tryd.slices_Compact_int_empty none 0 W).mono ?_
    rintro e W' ⟨rfl, rfl⟩
    exact ⟨_, rfl, h, ⟨rfl, rfl, rfl, Nat.le_refl _, fun _ _ _ => rfl⟩, fun _ hb => hb⟩
  · refine (Tryd.slices_Compact_int g 0 cap zs W (holds_of_blockI hb h4) (by omega) h1).mono ?_
    rintro e W' ⟨rfl, q, rfl⟩
    have hcl : (Lib.compact zs).length ≤ zs.length := compact_len _ _
    exact ⟨_, rfl, ownI_cut hbase hb (by rw [List.length_append, List.length_replicate]; omega) h2 h3, grown_put _, fun _ hb => hb⟩
end Go.Proofs.YtlgdcbhdmffnoaaDoor

namespace Go.Proofs.YtlgdcbhdmffnoaaDoor
open Go Go.RowKit

/-- The elements that are vertices. -/
def fromV (n : Nat) (zs : List Int) : List Nat := (zs.filter fun z => decide (0 ≤ z ∧ z < (n : Int))).map Int.toNat
theorem fromV_snoc (n : Nat) (zs : List Int) (z : Int) : fromV n (zs ++ [z]) = if 0 ≤ z ∧ z < (n : Int) then fromV n zs ++ [z.toNat] else fromV n zs := by
  unfold fromV
  rw [List.filter_append, List.map_append]
  by_cases h : 0 ≤ z ∧ z < (n : Int)
  · rw [if_pos h]
    simp [h]
  · rw [if_neg h]
    have : List.filter (fun z : Int => decide (0 ≤ z ∧ z < (n : Int))) [z] = [] := by
      rw [List.filter_cons, if_neg (by simpa using h)]
      rfl
    rw [this]
    simp
theorem fromV_lt (n : Nat) (zs : List Int) : ∀ v ∈ fromV n zs, v < n := by
  intro v hv
  obtain ⟨z, hz, rfl⟩ := List.mem_map.1 hv
  have := (List.mem_filter.1 hz).2
  simp at this
  omega
/-- The list that a search from zs leaves. -/
def reachOut (n : Nat) (nx : List (List Nat)) (zs : List Int) : List Nat := (dfsL nx (n + 1) (fromV n zs) (List.replicate n false, [])).2
def ints (l : List Nat) : List Int := l.map fun n : Nat => (n : Int)
def sortI (zs : List Int) : List Int := zs.mergeSort fun x y => decide (x ≤ y)
theorem unv_rep (n : Nat) : unv (List.replicate n false) = n := by
  unfold unv
  rw [List.filter_replicate]
  simp

set_option maxRecDepth 100000 in
set_option maxHeartbeats 2000000 in
theorem reach_any (n m c k cf : Nat) (A F : Option Addr) (E : List (Nat × Nat)) (zs : List Int) (w : World) (hn : n ≤ 1000) (hm : m ≤ 1000) (hE : Edg w w.heap.size A m E) (hd : ∀ e ∈ E, e.1 < n ∧ e.2 < n) (hF : Ints .i64 w.heap.size w F k zs) (hk : k ≤ 100000) :
    Calls Tryd.prog 40 #[.int .i64 n, .slice A m c, .slice F k cf] w fun e w' => ∃ v, e = .returned v ∧ OwnI w' w.heap.size v (sortI (ints (reachOut n (succs n E) zs))) ∧ Below w.heap.size w w' := by
  have hlz := hF.len
  obtain ⟨w0, hw0⟩ : ∃ W, w.alloc (.cells #[.slice none 0 0] 22) = W := ⟨_, rfl⟩
  have hw00 : Below w.heap.size w w0 := by rw [← hw0]; exact (Below.refl _ _).alloc (Nat.le_refl _) _
  have hsz0 : w0.heap.size = w.heap.size + 1 := by rw [← hw0]; simp
  have hbx : w0.heap[w.heap.size]? = some (.cells #[.slice none 0 0] 22 (0, 0)) := by rw [← hw0]; exact World.alloc_heap_new w _
  have HSU := Lib.hid (successors_any sort_own compact_own n m c A E w0 hn hm ((hE.below hw00).more (by omega)) hd)
  have HW0 := Lib.hid hw0
  have HBX := Lib.hid hbx
  have HS0 := Lib.hid hsz0
  have HLZ := Lib.hid hlz
  clear hE hw0 hbx hsz0 hlz
  go_enter Tryd.func40, Tryd.ntmps40
  go_wp2_with fail
  rw [HW0.out]
  refine HSU.out.mono ?_
  rintro e w1 ⟨g, cs, rfl, hR, hb1⟩
  have hs1 := hb1.size
  have hs0 := HS0.out
  have hb01 := hw00.trans (hb1.mono (by omega))
  obtain ⟨nx, hnx⟩ : ∃ nx, succs n E = nx := ⟨_, rfl⟩
  have hlen : nx.length = n := by rw [← hnx, succs_len]
  have hgd : Good nx := by rw [← hnx]; exact succs_good n E
  have hdf := depthFirst_any 61 g w.heap.size n w0.heap.size w1.heap.size cs nx w1 (by omega) (by rw [← hnx]; exact hR) (Nat.le_refl _) ((hb1.block _ (by omega)).trans HBX.out) (.inl (by omega))
  rw [hlen] at hdf
  have HDF := Lib.hid hdf
  have HNX := Lib.hid hnx
  have HLN := Lib.hid hlen
  have HG := Lib.hid hgd
  clear hdf hnx hlen hgd hR
  go_wp2_with fail
  refine HDF.out.mono ?_
  rintro e w2 ⟨bv, gv, bn, bs, bl, rfl, hEn, hDy, hb2, hgv, _, _, _, _⟩
  have hb02 := hb01.trans (hb2.mono (by omega))
  have hs2 := hb2.size
  obtain ⟨M, hM⟩ : ∃ M, w2.heap.size = M := ⟨_, rfl⟩
  rw [hM] at hEn hDy hs2
  have HEn := Lib.hid hEn
  have HDy := Lib.hid hDy
  have HM := Lib.hid hM
  have eg := enters_of Tryd.func61 (by kernel_rfl) rfl
  have HV := Lib.hid (visit_any 61 eg leave_reach M w0.heap.size w1.heap.size g bv gv bn bs bl w.heap.size n cs nx HG.out (by rw [HLN.out]; exact hn))
  clear hEn hDy hM eg
  go_wp2_with fail
  go_loopw [18] (fun i wr => ∃ j : Nat, j ≤ k ∧ i = .int .i64 j ∧ Dyn wr M gv w.heap.size (dfsL nx (n + 1) (fromV n (zs.take j)) (List.replicate n false, [])) ∧ Env wr M w0.heap.size w1.heap.size g bv gv bn bs bl 61 w.heap.size n cs nx ∧ Chg (May M gv w.heap.size) w2 wr) (fun i _ => k - (intOf i).toNat)
  case atStart => exact ⟨0, Nat.zero_le _, rfl, by rw [List.take_zero]; have := HDy.out; rw [HLN.out] at this; exact this, HEn.out, Chg.refl _ _⟩
  case round =>
    obtain ⟨j, hj, rfl, hDj, hEj, hCj⟩ := hrel
    have hst := dfsL_step nx (n + 1) (fromV n (zs.take j)) (List.replicate n false, [])
    have hst1 := hst.len
    have hst2 := hst.unv_
    have hst3 := hst.all
    obtain ⟨sj, hsj⟩ : ∃ sj, dfsL nx (n + 1) (fromV n (zs.take j)) (List.replicate n false, []) = sj := ⟨_, rfl⟩
    rw [hsj] at hDj hst1 hst2 hst3
    rw [unv_rep] at hst2 hst3
    rw [List.length_replicate] at hst1
    simp only [List.length_nil, Nat.zero_add] at hst3
    have HSJ := Lib.hid hsj
    have HDJ := Lib.hid hDj
    have HEJ := Lib.hid hEj
    have HST := Lib.hid hst1
    have hMj := hDj.size
    have hb2r : Below w.heap.size w wr := hb02.trans (hCj.below (fun b _ h => by
      rcases h with h | h | h <;> omega) (by have := HM.out; omega))
    by_cases hlt : j < k
    · obtain ⟨b, off, rfl, hbl, hcs⟩ := hF.at_ (by omega)
      have hcj := (hb2r.cell (p := ⟨b, off + j, none⟩) hbl).trans (hcs j hlt)
      obtain ⟨z, hz⟩ : ∃ z, zs[j]?.getD 0 = z := ⟨_, rfl⟩
      rw [hz] at hcj
      have hzl : zs[j]? = some z := by
        rw [List.getElem?_eq_getElem (by rw [HLZ.out]; exact hlt)] at hz ⊢
        exact congrArg some hz
      have HZ := Lib.hid hzl
      by_cases hv : 0 ≤ z ∧ z < (n : Int)
      · obtain ⟨v, rfl⟩ := Int.eq_ofNat_of_zero_le hv.1
        have hvn : v < n := by omega
        have hv0 : (0 : Int) ≤ (v : Int) := by omega
        have hv1 : (v : Int) < n := by omega
        have HX := Lib.hid (HV.out (n + 1) v wr sj (by rw [HLN.out]; exact hvn) (by rw [HLN.out, HST.out]) (by omega) (by omega) hEj hDj)
        clear hz hzl hsj hcs hDj hEj hst1 hv hst
        go_wp2_with (first
          | (go_at_call 62; refine (isVertex_yes _ _ _ (by assumption) (by assumption)).mono ?_; rintro e w' ⟨rfl, rfl⟩)
          | (go_at_call 73; refine HX.out.mono ?_; rintro e w3 ⟨rfl, hD3, hC3⟩))
        go_roundw
        case rel =>
          refine ⟨j + 1, by omega, by go_num, ?_, HEJ.out.chg hC3 hMj, hCj.trans hC3 (fun _ _ h => h)⟩
          rw [take_snoc' HZ.out, fromV_snoc, if_pos ⟨hv0, hv1⟩, dfsL_snoc, HSJ.out]
          exact hD3
        case measure => simp [intOf]; omega
      · have HNV := Lib.hid hv
        have hd0 := Lib.hid (decide_eq_false hv)
        have HIV := Lib.hid (isVertex_any n z wr)
        clear hz hzl hsj hcs hDj hEj hst1 hv hst
        go_wp2_with (go_at_call 62; refine HIV.out.mono ?_; rw [hd0.out]; rintro e w' ⟨rfl, rfl⟩)
        go_roundw
        case rel =>
          refine ⟨j + 1, by omega, by go_num, ?_, HEJ.out, hCj⟩
          rw [take_snoc' HZ.out, fromV_snoc, if_neg HNV.out, HSJ.out]
          exact HDJ.out
        case measure => simp [intOf]; omega
    · obtain rfl : k = j := by omega
      have hall : sj = dfsL nx (n + 1) (fromV n zs) (List.replicate n false, []) := by
        rw [← hsj, List.take_of_length_le (by rw [HLZ.out]; exact Nat.le_refl _)]
      have HALL := Lib.hid hall
      obtain ⟨sv, hx1, hx2⟩ := hDj.out
      have hcx := cell_of_row wr w.heap.size 0 _ _ (0, 0) hx1
      simp at hcx
      have HSO := Lib.hid (sort_own M sv _ wr (own_iff.1 hx2) (by rw [List.length_map]; omega))
      have hne : sv.ownBlock ≠ some w.heap.size := fun e => by have := (hx2.lt _ e).1; omega
      have hlts := Lib.hid hx2.lt
      clear hsj hall hDj hEj hst1 hst hx1 hx2
      go_wp2_with fail
      refine HSO.out.mono ?_
      rintro e w3 ⟨rfl, ho3, hg3⟩
      have hcx3 := hg3.cell hcx (Ne.symm hne)
      go_wp2_with fail
      go_ret
      refine ⟨sv, rfl, ?_, hb2r.grown hg3 (by have := hb2r.size; exact this) (fun b e => by have := (hlts.out b e).1; omega)⟩
      unfold reachOut
      rw [HNX.out, ← HALL.out]
      exact own_of_base ho3 (fun b hb => by have := (hlts.out b hb).1; omega)
end Go.Proofs.YtlgdcbhdmffnoaaDoor

namespace Go.Proofs.YtlgdcbhdmffnoaaDoor

/-- c can be reached from a. -/
inductive Rch (nx : List (List Nat)) : Nat → Nat → Prop
  | refl (a : Nat) : Rch nx a a
  | head {a b c : Nat} : b ∈ nb nx a → Rch nx b c → Rch nx a c
section
variable {nx : List (List Nat)} {a b c : Nat}
theorem Rch.trans (h : Rch nx a b) (k : Rch nx b c) : Rch nx a c := by
  induction h with
  | refl => exact k
  | head e _ ih => exact .head e (ih k)
theorem Rch.tail (h : Rch nx a b) (e : c ∈ nb nx b) : Rch nx a c := h.trans (.head e (.refl c))
theorem Rch.one (e : b ∈ nb nx a) : Rch nx a b := .head e (.refl b)
/-- What holds at a and goes along the edges holds at c. -/
theorem Rch.along {P : Nat → Prop} (h : Rch nx a c) (ha : P a) (hs : ∀ x y, P x → y ∈ nb nx x → P y) : P c := by
  induction h with
  | refl => exact ha
  | head e _ ih => exact ih (hs _ _ ha e)
/-- A way out of P leaves it by an edge. -/
theorem Rch.leaves {P : Nat → Prop} (h : Rch nx a c) (ha : P a) (hc : ¬ P c) : ∃ x y, Rch nx a x ∧ P x ∧ y ∈ nb nx x ∧ ¬ P y := by
  induction h with
  | refl => exact absurd ha hc
  | head e _ ih =>
    rename_i a' b' c' _
    rcases Classical.em (P b') with hb | hb
    · obtain ⟨x, y, h1, h2, h3, h4⟩ := ih hb hc
      exact ⟨x, y, .head e h1, h2, h3, h4⟩
    · exact ⟨a', b', .refl _, ha, e, hb⟩
theorem nb_lt (hg : Good nx) (e : b ∈ nb nx a) : b < nx.length := by
  unfold nb at e
  rcases Nat.lt_or_ge a nx.length with h | h
  · rw [List.getElem?_eq_getElem h] at e
    exact (hg _ (List.getElem_mem h)).2 b e
  · rw [List.getElem?_eq_none h] at e
    cases e
theorem Rch.lt (hg : Good nx) (h : Rch nx a c) (ha : a < nx.length) : c < nx.length := h.along (P := (· < nx.length)) ha fun _ _ _ e => nb_lt hg e
end
/-- Reachability against the edges. -/
theorem rch_preds {nx : List (List Nat)} (hg : Good nx) {a c : Nat} : Rch (preds nx) a c ↔ Rch nx c a := by
  constructor
  · intro h
    induction h with
    | refl => exact .refl _
    | head e _ ih => exact ih.tail ((nb_preds nx hg _ _).1 e)
  · intro h
    induction h with
    | refl => exact .refl _
    | head e _ ih => exact ih.tail ((nb_preds nx hg _ _).2 e)

/-- x is marked (what is no vertex is). -/
def Sn (s : List Bool × List Nat) (x : Nat) : Prop := s.1[x]?.getD true = true
theorem sn_set {s : List Bool × List Nat} {v : Nat} (x : Nat) (out : List Nat) : Sn (s.1.set v true, out) x ↔ x = v ∨ Sn s x := by
  unfold Sn
  by_cases e : v = x
  · subst e
    by_cases hl : v < s.1.length
    · rw [List.getElem?_set_self hl]
      simp
    · rw [List.getElem?_eq_none (by simpa using Nat.le_of_not_lt hl)]
      simp
  · rw [List.getElem?_set_ne e]
    constructor
    · exact fun h => .inr h
    · rintro (h | h)
      · exact absurd h.symm e
      · exact h
/-- What a search of the roots l from s to t leaves: seg. -/
structure Runs (nx : List (List Nat)) (l : List Nat) (s t : List Bool × List Nat) (seg : List Nat) : Prop where
  out : t.2 = s.2 ++ seg
  seen : ∀ x, Sn t x ↔ Sn s x ∨ x ∈ seg
  fresh : ∀ x ∈ seg, ¬ Sn s x
  nodup : seg.Nodup
  comes : ∀ x ∈ seg, ∃ v ∈ l, Rch nx v x
  closed : ∀ x ∈ seg, ∀ y ∈ nb nx x, Sn t y
  roots : ∀ v ∈ l, Sn t v
/-- All that is marked is grey, or its successors are marked. -/
def Cl (nx : List (List Nat)) (G : Nat → Prop) (s : List Bool × List Nat) : Prop := ∀ a, Sn s a → G a ∨ ∀ y ∈ nb nx a, Sn s y
/-- The order in which the search leaves. -/
def KQ (nx : List (List Nat)) (G : Nat → Prop) (seg : List Nat) : Prop := ∀ A r B, seg = A ++ r :: B → ∀ u ∈ A, Rch nx u r → Rch nx r u ∨ (∃ u' ∈ B, Rch nx u u' ∧ Rch nx u' u) ∨ ∃ g, G g ∧ Rch nx u g
theorem split_append {S T A B : List Nat} {r : Nat} (h : S ++ T = A ++ r :: B) : (∃ B1, S = A ++ r :: B1 ∧ B = B1 ++ T) ∨ ∃ A2, T = A2 ++ r :: B ∧ A = S ++ A2 := by
  rcases List.append_eq_append_iff.1 h with ⟨L1, h1, h2⟩ | ⟨bs, h1, h2⟩
  · exact .inr ⟨L1, h2, h1⟩
  · cases bs with
    | nil =>
      refine .inr ⟨[], ?_, ?_⟩
      · simpa using h2.symm
      · simpa using h1.symm
    | cons b bs =>
      rw [List.cons_append] at h2
      injection h2 with h3 h4
      subst h3
      exact .inl ⟨bs, h1, h4⟩
theorem Runs.mono {nx : List (List Nat)} {l seg : List Nat} {s t : List Bool × List Nat} (h : Runs nx l s t seg) (x : Nat) (hx : Sn s x) : Sn t x := (h.seen x).2 (.inl hx)
theorem Runs.cl {nx : List (List Nat)} {l seg : List Nat} {s t : List Bool × List Nat} {G : Nat → Prop} (h : Runs nx l s t seg) (hc : Cl nx G s) : Cl nx G t := fun a ha => by
  rcases (h.seen a).1 ha with h1 | h1
  · rcases hc a h1 with h2 | h2
    · exact .inl h2
    · exact .inr fun y hy => h.mono y (h2 y hy)
  · exact .inr fun y hy => h.closed a h1 y hy
theorem runs_nil (nx : List (List Nat)) (s : List Bool × List Nat) (l : List Nat) (hl : ∀ v ∈ l, Sn s v) : Runs nx l s s [] :=
  ⟨by simp, fun _ => by simp, (fun x h => by cases h), List.nodup_nil, (fun x h => by cases h), (fun x h => by cases h), hl⟩
theorem kq_nil (nx : List (List Nat)) (G : Nat → Prop) : KQ nx G [] := fun A r B h => by
  have := congrArg List.length h
  simp at this
theorem runs_list {nx : List (List Nat)} {f : Nat} (ih : ∀ v s (G : Nat → Prop), unv s.1 < f → Cl nx G s → ∃ seg, Runs nx [v] s (dfs nx f v s) seg ∧ KQ nx G seg) :
    ∀ l s (G : Nat → Prop), unv s.1 < f → Cl nx G s → ∃ seg, Runs nx l s (dfsL nx f l s) seg ∧ KQ nx G seg
  | [], s, G, _, _ => ⟨[], runs_nil nx s [] (fun v h => by cases h), kq_nil nx G⟩
  | v :: vs, s, G, hu, hc => by
    obtain ⟨s1, hs1⟩ : ∃ s1, dfs nx f v s = s1 := ⟨_, rfl⟩
    obtain ⟨g1, r1, q1⟩ := ih v s G hu hc
    have hst := (dfs_step nx f v s).unv_
    rw [hs1] at r1 hst
    obtain ⟨g2, r2, q2⟩ := runs_list ih vs s1 G (by omega) (r1.cl hc)
    have hL : dfsL nx f (v :: vs) s = dfsL nx f vs s1 := by rw [← hs1]; rfl
    obtain ⟨t, ht⟩ : ∃ t, dfsL nx f vs s1 = t := ⟨_, rfl⟩
    rw [hL]
    rw [ht] at r2 ⊢
    refine ⟨g1 ++ g2, ⟨?_, ?_, ?_, ?_, ?_, ?_, ?_⟩, ?_⟩
    · rw [r2.out, r1.out, List.append_assoc]
    · intro x
      rw [r2.seen, r1.seen, List.mem_append]
      constructor
      · rintro ((h | h) | h)
        · exact .inl h
        · exact .inr (.inl h)
        · exact .inr (.inr h)
      · rintro (h | h | h)
        · exact .inl (.inl h)
        · exact .inl (.inr h)
        · exact .inr h
    · intro x hx
      rcases List.mem_append.1 hx with hx | hx
      · exact r1.fresh x hx
      · exact fun h => r2.fresh x hx (r1.mono x h)
    · rw [List.nodup_append]
      exact ⟨r1.nodup, r2.nodup, fun a ha b hb e => r2.fresh b hb ((r1.seen b).2 (.inr (e ▸ ha)))⟩
    · intro x hx
      rcases List.mem_append.1 hx with hx | hx
      · obtain ⟨w, hw, h⟩ := r1.comes x hx
        rw [List.mem_singleton] at hw
        exact ⟨w, by simp [hw], h⟩
      · obtain ⟨w, hw, h⟩ := r2.comes x hx
        exact ⟨w, by simp [hw], h⟩
    · intro x hx y hy
      rcases List.mem_append.1 hx with hx | hx
      · exact r2.mono y (r1.closed x hx y hy)
      · exact r2.closed x hx y hy
    · intro w hw
      rcases List.mem_cons.1 hw with hw | hw
      · exact r2.mono w (r1.roots w (by simp [hw]))
      · exact r2.roots w hw
    · intro A r B h u hA hr
      rcases split_append h with ⟨B1, h1, h2⟩ | ⟨A2, h1, h2⟩
      · rcases q1 A r B1 h1 u hA hr with h3 | ⟨u', h3, h4⟩ | h3
        · exact .inl h3
        · exact .inr (.inl ⟨u', by rw [h2]; exact List.mem_append_left _ h3, h4⟩)
        · exact .inr (.inr h3)
      · rw [h2] at hA
        rcases List.mem_append.1 hA with hA | hA
        · have hrf : ¬ Sn s1 r := r2.fresh r (by rw [h1]; simp)
          have hus : Sn s1 u := (r1.seen u).2 (.inr hA)
          obtain ⟨x, y, h3, h4, h5, h6⟩ := hr.leaves (P := Sn s1) hus hrf
          rcases r1.cl hc x h4 with h7 | h7
          · exact .inr (.inr ⟨x, h7, h3⟩)
          · exact absurd (h7 y h5) h6
        · exact q2 A2 r B h1 u hA hr
theorem dfs_runs (nx : List (List Nat)) : ∀ (f v : Nat) (s : List Bool × List Nat) (G : Nat → Prop), unv s.1 < f → Cl nx G s → ∃ seg, Runs nx [v] s (dfs nx f v s) seg ∧ KQ nx G seg
  | 0, _, _, _, h, _ => absurd h (by omega)
  | f + 1, v, s, G, hu, hc => by
    by_cases h : s.1[v]?.getD true = true
    · rw [dfs_seen nx f v s h]
      exact ⟨[], runs_nil nx s [v] (fun w hw => by rw [List.mem_singleton] at hw; subst hw; exact h), kq_nil nx G⟩
    · have hv : s.1[v]? = some false := by
        cases hs : s.1[v]? with
        | none => rw [hs] at h; simp at h
        | some b => rw [hs] at h; cases b <;> simp_all
      have h2 := unv_set s.1 v hv
      rw [dfs_new nx f v s hv]
      obtain ⟨s0, hs0⟩ : ∃ s0, (s.1.set v true, s.2) = s0 := ⟨_, rfl⟩
      have hsn : ∀ x, Sn s0 x ↔ x = v ∨ Sn s x := fun x => by rw [← hs0]; exact sn_set x s.2
      have hu0 : unv s0.1 < f := by rw [← hs0]; simp only; omega
      have ho0 : s0.2 = s.2 := by rw [← hs0]
      obtain ⟨seg, r, q⟩ := runs_list (dfs_runs nx f) (nb nx v) s0 (fun x => G x ∨ x = v) hu0 (fun a ha => by
        rcases (hsn a).1 ha with h3 | h3
        · exact .inl (.inr h3)
        · rcases hc a h3 with h4 | h4
          · exact .inl (.inl h4)
          · exact .inr fun y hy => (hsn y).2 (.inr (h4 y hy)))
      rw [hs0]
      obtain ⟨t, ht⟩ : ∃ t, dfsL nx f (nb nx v) s0 = t := ⟨_, rfl⟩
      rw [ht] at r ⊢
      have hcv : ∀ x ∈ seg, Rch nx v x := fun x hx => by
        obtain ⟨w, hw, h3⟩ := r.comes x hx
        exact .head hw h3
      have hvs : v ∉ seg := fun hm => r.fresh v hm ((hsn v).2 (.inl rfl))
      refine ⟨seg ++ [v], ⟨?_, ?_, ?_, ?_, ?_, ?_, ?_⟩, ?_⟩
      · show t.2 ++ [v] = s.2 ++ (seg ++ [v])
        rw [r.out, ho0, List.append_assoc]
      · intro x
        show Sn t x ↔ _
        rw [r.seen, hsn, List.mem_append, List.mem_singleton]
        constructor
        · rintro ((h3 | h3) | h3)
          · exact .inr (.inr h3)
          · exact .inl h3
          · exact .inr (.inl h3)
        · rintro (h3 | h3 | h3)
          · exact .inl (.inr h3)
          · exact .inr h3
          · exact .inl (.inl h3)
      · intro x hx
        rcases List.mem_append.1 hx with hx | hx
        · exact fun h3 => r.fresh x hx ((hsn x).2 (.inr h3))
        · rw [List.mem_singleton] at hx
          subst hx
          exact h
      · rw [List.nodup_append]
        exact ⟨r.nodup, by simp, fun a ha b hb e => by
          rw [List.mem_singleton] at hb
          subst hb
          exact hvs (e ▸ ha)⟩
      · intro x hx
        rcases List.mem_append.1 hx with hx | hx
        · exact ⟨v, by simp, hcv x hx⟩
        · rw [List.mem_singleton] at hx
          subst hx
          exact ⟨x, by simp, .refl _⟩
      · intro x hx y hy
        rcases List.mem_append.1 hx with hx | hx
        · exact r.closed x hx y hy
        · rw [List.mem_singleton] at hx
          subst hx
          exact r.roots y hy
      · intro w hw
        rw [List.mem_singleton] at hw
        subst hw
        exact r.mono w ((hsn w).2 (.inl rfl))
      · intro A r' B hs u hA hr
        rcases split_append hs with ⟨B1, h3, h4⟩ | ⟨A2, h3, h4⟩
        · rcases q A r' B1 h3 u hA hr with h5 | ⟨u', h5, h6⟩ | ⟨g, h5 | h5, h6⟩
          · exact .inl h5
          · exact .inr (.inl ⟨u', by rw [h4]; exact List.mem_append_left _ h5, h6⟩)
          · exact .inr (.inr ⟨g, h5, h6⟩)
          · subst h5
            exact .inr (.inl ⟨g, by rw [h4]; simp, h6, hcv u (by rw [h3]; exact List.mem_append_left _ hA)⟩)
        · have hA2 : A2 = [] ∧ r' = v := by
            cases A2 with
            | nil =>
              rw [List.nil_append] at h3
              injection h3 with h5 h6
              exact ⟨rfl, h5.symm⟩
            | cons x xs =>
              have := congrArg List.length h3
              simp at this
          obtain ⟨rfl, rfl⟩ := hA2
          rw [h4, List.append_nil] at hA
          exact .inl (hcv u hA)
theorem dfsL_runs (nx : List (List Nat)) (f : Nat) (l : List Nat) (s : List Bool × List Nat) (G : Nat → Prop) (hu : unv s.1 < f) (hc : Cl nx G s) : ∃ seg, Runs nx l s (dfsL nx f l s) seg ∧ KQ nx G seg := runs_list (dfs_runs nx f) l s G hu hc

theorem sn_rep (n x : Nat) : Sn (List.replicate n false, []) x ↔ n ≤ x := by
  unfold Sn
  simp only [List.getElem?_replicate]
  by_cases h : x < n
  · rw [if_pos h]
    simp
    exact h
  · rw [if_neg h]
    simp
    omega
theorem cl_rep {nx : List (List Nat)} {n : Nat} (hl : nx.length = n) (G : Nat → Prop) : Cl nx G (List.replicate n false, []) := fun a ha => .inr fun y hy => by
  rw [sn_rep] at ha
  unfold nb at hy
  rw [List.getElem?_eq_none (by omega)] at hy
  cases hy
/-- A search from the roots l leaves just what can be reached from them, each once. -/
theorem dfsL_reach (nx : List (List Nat)) (n : Nat) (hl : nx.length = n) (l : List Nat) (hr : ∀ v ∈ l, v < n) (hg : Good nx) (x : Nat) : x ∈ (dfsL nx (n + 1) l (List.replicate n false, [])).2 ↔ ∃ v ∈ l, Rch nx v x := by
  obtain ⟨seg, r, _⟩ := dfsL_runs nx (n + 1) l (List.replicate n false, []) (fun _ => False) (by rw [unv_rep]; omega) (cl_rep hl _)
  rw [r.out]
  simp only [List.nil_append]
  constructor
  · exact r.comes x
  · rintro ⟨v, hv, h⟩
    have hcl := r.cl (cl_rep (G := fun _ => False) hl)
    have h1 := h.along (P := Sn _) (r.roots v hv) (fun a b ha hb => (hcl a ha).elim (fun h => h.elim) fun h => h b hb)
    rcases (r.seen x).1 h1 with h2 | h2
    · rw [sn_rep] at h2
      have := h.lt hg (by rw [hl]; exact hr v hv)
      omega
    · exact h2
theorem dfsL_nodup (nx : List (List Nat)) (n : Nat) (hl : nx.length = n) (l : List Nat) : (dfsL nx (n + 1) l (List.replicate n false, [])).2.Nodup := by
  obtain ⟨seg, r, _⟩ := dfsL_runs nx (n + 1) l (List.replicate n false, []) (fun _ => False) (by rw [unv_rep]; omega) (cl_rep hl _)
  rw [r.out]
  exact r.nodup
end Go.Proofs.YtlgdcbhdmffnoaaDoor
