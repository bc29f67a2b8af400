/-
  graph.Reach at start lists of any length (the text of Reach, its bound on the length widened).
  Mathematics of the closure law: the reachable set contains its starts, is monotone and idempotent; two vertices lie in one component just if they reach each other. Contract of graph.Reach at no vertex.
-/
import Derived.Test.YtdebnnigbbjbcaaDoorK18
import Derived.Test.YtdebnnigbbjbcaaDoorK20
import Derived.Test.YtdebnnigbbjbcaaDoorK6

namespace Go.Proofs.YtdebnnigbbjbcaaDoor
open Go Go.RowKit

set_option maxRecDepth 100000 in
set_option maxHeartbeats 2000000 in
theorem reach_long (n m c k cf : Nat) (A F : Option Addr) (E : List (Nat × Nat)) (zs : List Int) (w : World) (hn : n ≤ 1000) (hm : m ≤ 1000) (hE : Edg w w.heap.size A m E) (hd : ∀ e ∈ E, e.1 < n ∧ e.2 < n) (hF : Ints .i64 w.heap.size w F k zs) (hk : k ≤ maxLen) :
    Calls Tryd.prog 19 #[.int .i64 n, .slice A m c, .slice F k cf] w fun e w' => ∃ v, e = .returned v ∧ OwnI w' w.heap.size v (sortI (ints (reachOut n (succs n E) zs))) ∧ Below w.heap.size w w' := by
  have hlz := hF.len
  unfold maxLen at hk
  obtain ⟨w0, hw0⟩ : ∃ W, w.alloc (.cells #[.slice none 0 0] 22) = W := ⟨_, rfl⟩
  have hw00 : Below w.heap.size w w0 := by rw [← hw0]; exact (Below.refl _ _).alloc (Nat.le_refl _) _
  have hsz0 : w0.heap.size = w.heap.size + 1 := by rw [← hw0]; simp
  have hbx : w0.heap[w.heap.size]? = some (.cells #[.slice none 0 0] 22 (0, 0)) := by rw [← hw0]; exact World.alloc_heap_new w _
  have HSU := Lib.hid (successors_any sort_own compact_own n m c A E w0 hn hm ((hE.below hw00).more (by omega)) hd)
  have HW0 := Lib.hid hw0
  have HBX := Lib.hid hbx
  have HS0 := Lib.hid hsz0
  have HLZ := Lib.hid hlz
  clear hE hw0 hbx hsz0 hlz
  go_enter Tryd.func19, Tryd.ntmps19
  go_wp2_with fail
  rw [HW0.out]
  refine HSU.out.mono ?_
  rintro e w1 ⟨g, cs, rfl, hR, hb1⟩
  have hs1 := hb1.size
  have hs0 := HS0.out
  have hb01 := hw00.trans (hb1.mono (by omega))
  obtain ⟨nx, hnx⟩ : ∃ nx, succs n E = nx := ⟨_, rfl⟩
  have hlen : nx.length = n := by rw [← hnx, succs_len]
  have hgd : Good nx := by rw [← hnx]; exact succs_good n E
  have hdf := depthFirst_any 35 g w.heap.size n w0.heap.size w1.heap.size cs nx w1 (by omega) (by rw [← hnx]; exact hR) (Nat.le_refl _) ((hb1.block _ (by omega)).trans HBX.out) (.inl (by omega))
  rw [hlen] at hdf
  have HDF := Lib.hid hdf
  have HNX := Lib.hid hnx
  have HLN := Lib.hid hlen
  have HG := Lib.hid hgd
  clear hdf hnx hlen hgd hR
  go_wp2_with fail
  refine HDF.out.mono ?_
  rintro e w2 ⟨bv, gv, bn, bs, bl, rfl, hEn, hDy, hb2, hgv, _, _, _, _⟩
  have hb02 := hb01.trans (hb2.mono (by omega))
  have hs2 := hb2.size
  obtain ⟨M, hM⟩ : ∃ M, w2.heap.size = M := ⟨_, rfl⟩
  rw [hM] at hEn hDy hs2
  have HEn := Lib.hid hEn
  have HDy := Lib.hid hDy
  have HM := Lib.hid hM
  have eg := enters_of Tryd.func35 (by kernel_rfl) rfl
  have HV := Lib.hid (visit_any 35 eg leave_reach M w0.heap.size w1.heap.size g bv gv bn bs bl w.heap.size n cs nx HG.out (by rw [HLN.out]; exact hn))
  clear hEn hDy hM eg
  go_wp2_with fail
  go_loopw [18] (fun i wr => ∃ j : Nat, j ≤ k ∧ i = .int .i64 j ∧ Dyn wr M gv w.heap.size (dfsL nx (n + 1) (fromV n (zs.take j)) (List.replicate n false, [])) ∧ Env wr M w0.heap.size w1.heap.size g bv gv bn bs bl 35 w.heap.size n cs nx ∧ Chg (May M gv w.heap.size) w2 wr) (fun i _ => k - (intOf i).toNat)
  case atStart => exact ⟨0, Nat.zero_le _, rfl, by rw [List.take_zero]; have := HDy.out; rw [HLN.out] at this; exact this, HEn.out, Chg.refl _ _⟩
  case round =>
    obtain ⟨j, hj, rfl, hDj, hEj, hCj⟩ := hrel
    have hst := dfsL_step nx (n + 1) (fromV n (zs.take j)) (List.replicate n false, [])
    have hst1 := hst.len
    have hst2 := hst.unv_
    have hst3 := hst.all
    obtain ⟨sj, hsj⟩ : ∃ sj, dfsL nx (n + 1) (fromV n (zs.take j)) (List.replicate n false, []) = sj := ⟨_, rfl⟩
    rw [hsj] at hDj hst1 hst2 hst3
    rw [unv_rep] at hst2 hst3
    rw [List.length_replicate] at hst1
    simp only [List.length_nil, Nat.zero_add] at hst3
    have HSJ := Lib.hid hsj
    have HDJ := Lib.hid hDj
    have HEJ := Lib.hid hEj
    have HST := Lib.hid hst1
    have hMj := hDj.size
    have hb2r : Below w.heap.size w wr := hb02.trans (hCj.below (fun b _ h => by
      rcases h with h | h | h <;> omega) (by have := HM.out; omega))
    by_cases hlt : j < k
    · obtain ⟨b, off, rfl, hbl, hcs⟩ := hF.at_ (by omega)
      have hcj := (hb2r.cell (p := ⟨b, off + j, none⟩) hbl).trans (hcs j hlt)
      obtain ⟨z, hz⟩ : ∃ z, zs[j]?.getD 0 = z := ⟨_, rfl⟩
      rw [hz] at hcj
      have hzl : zs[j]? = some z := by
        rw [List.getElem?_eq_getElem (by rw [HLZ.out]; exact hlt)] at hz ⊢
        exact congrArg some hz
      have HZ := Lib.hid hzl
      by_cases hv : 0 ≤ z ∧ z < (n : Int)
      · obtain ⟨v, rfl⟩ := Int.eq_ofNat_of_zero_le hv.1
        have hvn : v < n := by omega
        have hv0 : (0 : Int) ≤ (v : Int) := by omega
        have hv1 : (v : Int) < n := by omega
        have HX := Lib.hid (HV.out (n + 1) v wr sj (by rw [HLN.out]; exact hvn) (by rw [HLN.out, HST.out]) (by omega) (by omega) hEj hDj)
        clear hz hzl hsj hcs hDj hEj hst1 hv hst
        go_wp2_with (first
          | (go_at_call 36; refine (isVertex_yes _ _ _ (by assumption) (by assumption)).mono ?_; rintro e w' ⟨rfl, rfl⟩)
          | (go_at_call 48; refine HX.out.mono ?_; rintro e w3 ⟨rfl, hD3, hC3⟩))
        go_roundw
        case rel =>
          refine ⟨j + 1, by omega, by go_num, ?_, HEJ.out.chg hC3 hMj, hCj.trans hC3 (fun _ _ h => h)⟩
          rw [take_snoc' HZ.out, fromV_snoc, if_pos ⟨hv0, hv1⟩, dfsL_snoc, HSJ.out]
          exact hD3
        case measure => simp [intOf]; omega
      · have HNV := Lib.hid hv
        have hd0 := Lib.hid (decide_eq_false hv)
        have HIV := Lib.hid (isVertex_any n z wr)
        clear hz hzl hsj hcs hDj hEj hst1 hv hst
        go_wp2_with (go_at_call 36; refine HIV.out.mono ?_; rw [hd0.out]; rintro e w' ⟨rfl, rfl⟩)
        go_roundw
        case rel =>
          refine ⟨j + 1, by omega, by go_num, ?_, HEJ.out, hCj⟩
          rw [take_snoc' HZ.out, fromV_snoc, if_neg HNV.out, HSJ.out]
          exact HDJ.out
        case measure => simp [intOf]; omega
    · obtain rfl : k = j := by omega
      have hall : sj = dfsL nx (n + 1) (fromV n zs) (List.replicate n false, []) := by
        rw [← hsj, List.take_of_length_le (by rw [HLZ.out]; exact Nat.le_refl _)]
      have HALL := Lib.hid hall
      obtain ⟨sv, hx1, hx2⟩ := hDj.out
      have hcx := cell_of_row wr w.heap.size 0 _ _ (0, 0) hx1
      simp at hcx
      have HSO := Lib.hid (sort_own M sv _ wr (own_iff.1 hx2) (by rw [List.length_map]; omega))
      have hne : sv.ownBlock ≠ some w.heap.size := fun e => by have := (hx2.lt _ e).1; omega
      have hlts := Lib.hid hx2.lt
      clear hsj hall hDj hEj hst1 hst hx1 hx2
      go_wp2_with fail
      refine HSO.out.mono ?_
      rintro e w3 ⟨rfl, ho3, hg3⟩
      have hcx3 := hg3.cell hcx (Ne.symm hne)
      go_wp2_with fail
      go_ret
      refine ⟨sv, rfl, ?_, hb2r.grown hg3 (by have := hb2r.size; exact this) (fun b e => by have := (hlts.out b e).1; omega)⟩
      unfold reachOut
      rw [HNX.out, ← HALL.out]
      exact own_of_base ho3 (fun b hb => by have := (hlts.out b hb).1; omega)
end Go.Proofs.YtdebnnigbbjbcaaDoor

namespace Go.Proofs.YtdebnnigbbjbcaaDoor
open Go Go.RowKit Go.Proofs

def fewN (k : Nat) (ys : List Int) : List Nat := ys.map fun z => (around z k).toNat
theorem fewN_lt {k : Nat} (hk : 0 < k) (ys : List Int) : ∀ x ∈ fewN k ys, x < k := by
  intro x hx
  unfold fewN at hx
  obtain ⟨z, _, rfl⟩ := List.mem_map.1 hx
  have := around_in z (k : Int) (by omega)
  omega
theorem fewN_len (k : Nat) (ys : List Int) : (fewN k ys).length = ys.length := List.length_map _
theorem fewN_snoc (k : Nat) (ys : List Int) (z : Int) : fewN k (ys ++ [z]) = fewN k ys ++ [(around z k).toNat] := by
  unfold fewN
  rw [List.map_append]
  rfl
theorem fromV_nat {n : Nat} {l : List Nat} (h : ∀ x ∈ l, x < n) : fromV n (l.map fun n : Nat => (n : Int)) = l := by
  induction l with
  | nil => rfl
  | cons a t ih =>
    have h1 := h a List.mem_cons_self
    have h2 := ih fun x hx => h x (List.mem_cons_of_mem a hx)
    unfold fromV at h2 ⊢
    rw [List.map_cons, List.filter_cons, if_pos (by simp; omega), List.map_cons, h2]
    rfl
theorem rset_start {nx : List (List Nat)} {l : List Nat} {x : Nat} (h : x ∈ l) (hx : x < nx.length) : x ∈ rset nx l := rset_mem.2 ⟨hx, x, h, .refl x⟩
theorem rset_mono {nx : List (List Nat)} {l m : List Nat} (h : ∀ x ∈ l, x ∈ m) : ∀ x ∈ rset nx l, x ∈ rset nx m := by
  intro x hx
  obtain ⟨h1, v, h2, h3⟩ := rset_mem.1 hx
  exact rset_mem.2 ⟨h1, v, h v h2, h3⟩
theorem rset_lt {nx : List (List Nat)} {l : List Nat} : ∀ x ∈ rset nx l, x < nx.length := fun _ hx => (rset_mem.1 hx).1
theorem rset_idem (nx : List (List Nat)) (l : List Nat) : rset nx (rset nx l) = rset nx l := by
  refine sorted_ext_nat _ _ (rset_sorted _ _) (rset_sorted _ _) fun x => ?_
  constructor
  · intro hx
    obtain ⟨h1, v, h2, h3⟩ := rset_mem.1 hx
    obtain ⟨_, u, h4, h5⟩ := rset_mem.1 h2
    exact rset_mem.2 ⟨h1, u, h4, h5.trans h3⟩
  · intro hx
    exact rset_start hx (rset_lt x hx)
/-- Some of the lists holds both. -/
def tog (cs : List (List Nat)) (v w : Nat) : Bool := cs.any fun c => decide (v ∈ c) && decide (w ∈ c)
theorem tog_snoc (cs : List (List Nat)) (c : List Nat) (v w : Nat) : tog (cs ++ [c]) v w = (tog cs v w || (decide (v ∈ c) && decide (w ∈ c))) := by
  unfold tog
  simp
theorem tog_both {nx : List (List Nat)} {v w : Nat} (hv : v < nx.length) (hw : w < nx.length) : tog (comps nx) v w = (decide (w ∈ rset nx [v]) && decide (v ∈ rset nx [w])) := by
  rw [both_rset hv hw]
  unfold tog
  rw [Bool.eq_iff_iff, List.any_eq_true]
  constructor
  · rintro ⟨c, hc, h⟩
    obtain ⟨u, _, rfl⟩ := (comps_mem c).1 hc
    rw [Bool.and_eq_true, decide_eq_true_eq, decide_eq_true_eq, cls_mem, cls_mem] at h
    exact @decide_eq_true _ (Classical.propDecidable _) (h.1.2.symm.trans h.2.2)
  · intro h
    have h := @of_decide_eq_true _ (Classical.propDecidable _) h
    refine ⟨cls nx v, (comps_mem _).2 ⟨v, hv, rfl⟩, ?_⟩
    rw [Bool.and_eq_true, decide_eq_true_eq, decide_eq_true_eq, cls_mem, cls_mem]
    exact ⟨⟨hv, .refl nx v⟩, hw, h⟩
/-- A row of the call's own that the literal []int{} makes. -/
theorem own_lit0 (w : World) (lo : Nat) (h : lo ≤ w.heap.size) : (w.alloc (.cells #[] 3)).ownsRow lo 3 1 (.slice (some ⟨w.heap.size, 0, none⟩) 0 0) 0 [] :=
  ⟨rfl, .inr ⟨w.heap.size, 0, #[], rfl, h, World.alloc_heap_new w _, Nat.le_refl _, by simp [maxLen], rfl, rfl⟩⟩
theorem reach_own {W0 : World} {k : Nat} {v : Value} {nx : List (List Nat)} (h : ReachAt W0 k v nx) (l : List Nat) (hl : ∀ x ∈ l, x < k) (hn : l.length ≤ 1000) : ∀ W, Below W0.heap.size W0 W → ∀ (lo : Nat) (F : Option Addr) (n c : Nat), Own W lo (.slice F n c) l →
    Calls Tryd.prog 19 #[.int .i64 (k : Int), v, .slice F n c] W fun e w' => ∃ A c, e = .returned (.slice A (rset nx l).length c) ∧ Own w' W0.heap.size (.slice A (rset nx l).length c) (rset nx l) ∧ Below W.heap.size W w' := fun W hB lo F n c ho => by
  have h1 := h W hB F n c _ (ints_own ho) (by have := ho.lst.1; omega)
  rw [fromV_nat hl] at h1
  exact h1
/-- graph.Reach without a vertex. -/
theorem reach_zero (k cf : Nat) (F : Option Addr) (zs : List Int) (w : World) (hF : Ints .i64 w.heap.size w F k zs) (hk : k ≤ maxLen) :
    Calls Tryd.prog 19 #[.int .i64 0, .slice none 0 0, .slice F k cf] w fun e w' => ∃ A c, e = .returned (.slice A 0 c) ∧ Below w.heap.size w w' := by
  refine (reach_long 0 0 0 k cf none F [] zs w (by omega) (by omega) ⟨rfl, fun h => absurd h (by simp)⟩ (fun e he => by cases he) hF hk).mono ?_
  rintro e w' ⟨v, rfl, ho, hb⟩
  rw [reach_rset (succs_good 0 []) (succs_len 0 [])] at ho
  have hl : rset (succs 0 []) (fromV 0 zs) = [] := by
    apply List.eq_nil_of_length_eq_zero
    have := rset_len (succs 0 []) (fromV 0 zs)
    rw [succs_len] at this
    omega
  rw [hl] at ho
  obtain ⟨A, c, rfl, _, _⟩ := own_slice ho
  exact ⟨A, c, rfl, hb⟩
end Go.Proofs.YtdebnnigbbjbcaaDoor
