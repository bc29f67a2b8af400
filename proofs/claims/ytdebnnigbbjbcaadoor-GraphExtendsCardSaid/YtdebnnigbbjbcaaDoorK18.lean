/-
  What graph.Reach gives: the vertices that can be reached, in order. Condition: the edges' ends are vertices.
  The contract of the reference's Reach: the same vertices. Condition: the edges' ends are vertices.
  The contract of the reference's Reach: the vertices that can be reached, in order. Condition: the edges' ends are vertices; few vertices.
-/
import Derived.Test.YtdebnnigbbjbcaaDoorK15
import Derived.Test.YtdebnnigbbjbcaaDoorK10
import Derived.Test.YtdebnnigbbjbcaaDoorK5

namespace Go.Proofs.YtdebnnigbbjbcaaDoor
open Go Go.RowKit

/-- The vertices that can be reached from vs, in order. -/
noncomputable def rset (nx : List (List Nat)) (vs : List Nat) : List Nat := (List.range nx.length).filter fun x => @decide (∃ v ∈ vs, Rch nx v x) (Classical.propDecidable _)
theorem rset_mem {nx : List (List Nat)} {vs : List Nat} {x : Nat} : x ∈ rset nx vs ↔ x < nx.length ∧ ∃ v ∈ vs, Rch nx v x := by
  unfold rset
  rw [List.mem_filter, List.mem_range]
  constructor
  · exact fun h => ⟨h.1, @of_decide_eq_true _ (Classical.propDecidable _) h.2⟩
  · exact fun h => ⟨h.1, @decide_eq_true _ (Classical.propDecidable _) h.2⟩
theorem rset_sorted (nx : List (List Nat)) (vs : List Nat) : (rset nx vs).Pairwise (· < ·) := List.Pairwise.filter _ (range_sorted _)
theorem rset_len (nx : List (List Nat)) (vs : List Nat) : (rset nx vs).length ≤ nx.length := by
  unfold rset
  have := List.length_filter_le (fun x => @decide (∃ v ∈ vs, Rch nx v x) (Classical.propDecidable _)) (List.range nx.length)
  rw [List.length_range] at this
  exact this
theorem reach_rset {n : Nat} {nx : List (List Nat)} (hg : Good nx) (hn : nx.length = n) (zs : List Int) : sortI (ints (reachOut n nx zs)) = ints (rset nx (fromV n zs)) := by
  rw [sortN_ints]
  congr 1
  refine sorted_ext_nat _ _ (sortN_sorted (dfsL_nodup nx n hn _)) (rset_sorted _ _) fun x => ?_
  rw [sortN_mem, rset_mem]
  unfold reachOut
  rw [dfsL_reach nx n hn _ (fromV_lt n zs) hg]
  constructor
  · rintro ⟨v, hv, h⟩
    exact ⟨h.lt hg (by rw [hn]; exact fromV_lt n zs v hv), v, hv, h⟩
  · exact fun h => h.2
theorem reach_is (n m c k cf : Nat) (A F : Option Addr) (E : List (Nat × Nat)) (zs : List Int) (w : World) (hn : n ≤ 1000) (hm : m ≤ 1000) (hE : Edg w w.heap.size A m E) (hd : ∀ e ∈ E, e.1 < n ∧ e.2 < n) (hF : Ints .i64 w.heap.size w F k zs) (hk : k ≤ 100000) :
    Calls Tryd.prog 19 #[.int .i64 n, .slice A m c, .slice F k cf] w fun e w' => ∃ v, e = .returned v ∧ Own w' w.heap.size v (rset (succs n E) (fromV n zs)) ∧ Below w.heap.size w w' := by
  refine (reach_any n m c k cf A F E zs w hn hm hE hd hF hk).mono ?_
  rintro e w' ⟨v, rfl, ho, hB⟩
  rw [reach_rset (succs_good n E) (succs_len n E)] at ho
  exact ⟨v, rfl, own_iff.2 ho, hB⟩
end Go.Proofs.YtdebnnigbbjbcaaDoor

namespace Go.Proofs.YtdebnnigbbjbcaaDoor
open Go Go.RowKit

def inAt (I : List Bool) (x : Nat) : Bool := I[x]?.getD false
theorem inAt_set (I : List Bool) {u : Nat} (x : Nat) (hu : u < I.length) : inAt (I.set u true) x = if u = x then true else inAt I x := by
  unfold inAt
  by_cases e : u = x
  · subst e
    rw [if_pos rfl, List.getElem?_set_self hu]
    rfl
  · rw [if_neg e, List.getElem?_set_ne e]
theorem inAt_rep (n x : Nat) : inAt (List.replicate n false) x = false := by
  unfold inAt
  rw [List.getElem?_replicate]
  split <;> rfl
/-- Block gv holds the marks I. -/
def Bl (W : World) (gv : Nat) (I : List Bool) : Prop := W.heap[gv]? = some (.cells (I.map Value.bool).toArray 4 (0, 0))
def isF : Value → Bool
  | .bool false => true
  | _ => false
/-- How many marks of block gv are false. -/
def fls (W : World) (gv : Nat) : Nat := match W.heap[gv]? with
  | some (.cells cs _ _) => (cs.toList.filter isF).length
  | _ => 0
section
variable {W W' : World} {gv : Nat} {I : List Bool}
theorem Bl.fls_ (h : Bl W gv I) : fls W gv = unv I := by
  unfold fls unv
  unfold Bl at h
  rw [h]
  simp only [List.filter_map, List.length_map]
  congr 1
  apply List.filter_congr
  intro b _
  cases b <;> rfl
theorem Bl.cell (h : Bl W gv I) {x : Nat} (hx : x < I.length) : W.cell? ⟨gv, x, none⟩ = some (.bool (inAt I x)) := by
  rw [cell_of_row W gv x _ _ (0, 0) h, List.getElem?_toArray, List.getElem?_map, List.getElem?_eq_getElem hx]
  unfold inAt
  rw [List.getElem?_eq_getElem hx]
  rfl
theorem Bl.free (h : Bl W gv I) (x : Nat) : W.frozen? ⟨gv, x, none⟩ = false := by
  unfold Bl at h
  simp [World.frozen?, h]
theorem Bl.set (h : Bl W gv I) (x : Nat) : Bl (W.setCell ⟨gv, x, none⟩ (.bool true)) gv (I.set x true) := by
  unfold Bl at *
  simp only [World.setCell, Array.getElem?_modify]
  simp [h, List.map_set]
theorem Bl.keep (h : Bl W gv I) (hk : W'.heap[gv]? = W.heap[gv]?) : Bl W' gv I := hk.trans h
end
theorem inAt_false {I : List Bool} {x : Nat} (hx : x < I.length) (h : inAt I x = false) : I[x]? = some false := by
  unfold inAt at h
  rw [List.getElem?_eq_getElem hx] at h ⊢
  exact congrArg some h
/-- What holds of the marks. -/
structure Mk0 (nx : List (List Nat)) (n : Nat) (vs : List Nat) (I : List Bool) : Prop where
  len : I.length = n
  sound : ∀ x, inAt I x = true → ∃ v ∈ vs, Rch nx v x
  starts : ∀ v ∈ vs, inAt I v = true
theorem Mk0.step {nx : List (List Nat)} {n : Nat} {vs : List Nat} {I : List Bool} {x y : Nat} (h : Mk0 nx n vs I) (hy : y < n) (hx : inAt I x = true) (he : y ∈ nb nx x) : Mk0 nx n vs (I.set y true) := by
  have hs := fun z => inAt_set I z (by rw [h.len]; exact hy)
  refine ⟨by rw [List.length_set]; exact h.len, fun z hz => ?_, fun v hv => ?_⟩
  · rw [hs] at hz
    by_cases e : y = z
    · subst e
      obtain ⟨v, hv, hr⟩ := h.sound x hx
      exact ⟨v, hv, hr.tail he⟩
    · rw [if_neg e] at hz
      exact h.sound z hz
  · rw [hs]
    split
    · rfl
    · exact h.starts v hv
/-- Marks that are closed under the edges are just what can be reached. -/
theorem Mk0.all {n : Nat} {E : List (Nat × Nat)} (hd : ∀ e ∈ E, e.1 < n ∧ e.2 < n) {vs : List Nat} {I : List Bool} (h : Mk0 (succs n E) n vs I) (hc : ∀ e ∈ E, inAt I e.1 = true → inAt I e.2 = true) : ((List.range n).filter fun x => inAt I x) = rset (succs n E) vs := by
  refine sorted_ext_nat _ _ (List.Pairwise.filter _ (range_sorted _)) (rset_sorted _ _) fun x => ?_
  rw [rset_mem, List.mem_filter, List.mem_range, succs_len]
  constructor
  · exact fun k => ⟨k.1, h.sound x k.2⟩
  · rintro ⟨k1, v, k2, k3⟩
    exact ⟨k1, k3.along (P := fun x => inAt I x = true) (h.starts v k2) fun a b ha hb => hc (a, b) ((nb_succs hd a b).1 hb) ha⟩
end Go.Proofs.YtdebnnigbbjbcaaDoor

namespace Go.Proofs.YtdebnnigbbjbcaaDoor
open Go Go.RowKit

def tv : Value → Nat
  | .bool true => 1
  | _ => 0
set_option maxRecDepth 100000 in
set_option maxHeartbeats 4000000 in
theorem refreach_any (B n m c k cf : Nat) (A F : Option Addr) (E : List (Nat × Nat)) (zs : List Int) (w : World) (hn : n ≤ 1000) (hm : m ≤ 1000) (hB0 : B ≤ w.heap.size) (hE : Edg w B A m E) (hd : ∀ e ∈ E, e.1 < n ∧ e.2 < n) (hF : Ints .i64 B w F k zs) (hk : k ≤ 100000) :
    Calls Tryd.prog 20 #[.int .i64 n, .slice A m c, .slice F k cf] w fun e w' => ∃ v, e = .returned v ∧ Own w' w.heap.size v (rset (succs n E) (fromV n zs)) ∧ Below w.heap.size w w' := by
  obtain ⟨i0, hi0, hz0, hz1, hz2⟩ := info_parts info_int
  have hmk := make_bools n (by omega)
  have HE := Lib.hid hE
  have HF := Lib.hid hF
  have HD := Lib.hid hd
  have HLZ := Lib.hid hF.len
  have hEl := hE.1
  clear hE hF hd
  go_enter Tryd.func20, Tryd.ntmps20
  go_wp2_with fail
  obtain ⟨w1, hw1⟩ : ∃ W, w.alloc (.cells (Array.replicate n (.bool false)) 4) = W := ⟨_, rfl⟩
  obtain ⟨gv, hgv⟩ : ∃ g, w.heap.size = g := ⟨_, rfl⟩
  have hbl1 : Bl w1 gv (List.replicate n false) := by
    unfold Bl
    rw [← hw1, ← hgv, World.alloc_heap_new w]
    simp
  have hB1 : Below gv w w1 := by rw [← hw1, ← hgv]; exact (Below.refl _ _).alloc (Nat.le_refl _) _
  have hsz1 : gv < w1.heap.size := heap_lt hbl1
  rw [hw1, hgv]
  clear hw1
  go_loopw [8] (fun i wr => ∃ (j : Nat) (I : List Bool), j ≤ k ∧ i = .int .i64 j ∧ Bl wr gv I ∧ Hid (I.length = n ∧ ∀ x, inAt I x = true ↔ x ∈ fromV n (zs.take j)) ∧ Below gv w wr) (fun i _ => k - (intOf i).toNat)
  case atStart => exact ⟨0, _, Nat.zero_le _, rfl, hbl1, ⟨by simp, fun x => by rw [inAt_rep]; simp [fromV]⟩, hB1⟩
  case round =>
    obtain ⟨j, I, hj, rfl, hbl, hI, hB⟩ := hrel
    have hsz := heap_lt hbl
    by_cases hlt : j < k
    · obtain ⟨b, off, rfl, hbb, hcs⟩ := HF.out.at_ (by omega)
      have hcj := (hB.cell (p := ⟨b, off + j, none⟩) (by show b < _; omega)).trans (hcs j hlt)
      obtain ⟨z, hz⟩ : ∃ z, zs[j]?.getD 0 = z := ⟨_, rfl⟩
      rw [hz] at hcj
      have hzl : zs[j]? = some z := by
        rw [List.getElem?_eq_getElem (by rw [HLZ.out]; exact hlt)] at hz ⊢
        exact congrArg some hz
      have HZ := Lib.hid hzl
      have HBL := Lib.hid hbl
      by_cases hv : 0 ≤ z ∧ z < (n : Int)
      · obtain ⟨v, rfl⟩ := Int.eq_ofNat_of_zero_le hv.1
        have hvn : v < n := by omega
        have hv0 : (0 : Int) ≤ (v : Int) := by omega
        have hv1 : (v : Int) < n := by omega
        have hcv := hbl.cell (x := v) (by rw [hI.out.1]; exact hvn)
        have hfv := hbl.free v
        clear hz hzl hcs hv hbl hbl1
        go_wp2_with fail
        go_roundw
        case rel =>
          refine ⟨j + 1, _, by omega, by go_num, HBL.out.set v, ⟨by rw [List.length_set]; exact hI.out.1, fun x => ?_⟩, hB.setCell (p := ⟨gv, v, none⟩) (Nat.le_refl _) _⟩
          rw [take_snoc' HZ.out, fromV_snoc, if_pos (show 0 ≤ (v : Int) ∧ (v : Int) < (n : Int) from ⟨hv0, hv1⟩), List.mem_append, List.mem_singleton, ← hI.out.2 x, inAt_set _ _ (by rw [hI.out.1]; exact hvn)]
          by_cases e : v = x
          · subst e
            simp
          · rw [if_neg e]
            constructor
            · exact fun h => .inl h
            · rintro (h | h)
              · exact h
              · exact absurd (by simpa using h.symm) e
        case measure => simp [intOf]; omega
      · have HNV := Lib.hid hv
        have HEQ := Lib.hid (show fromV n (zs.take (j + 1)) = fromV n (zs.take j) by rw [take_snoc' HZ.out, fromV_snoc, if_neg hv])
        by_cases h0 : 0 ≤ z
        · have h1 : ¬ z < (n : Int) := fun h => hv ⟨h0, h⟩
          clear hz hzl hcs hv hbl hbl1
          go_wp2_with fail
          go_roundw
          case rel => exact ⟨j + 1, I, by omega, by go_num, HBL.out, by rw [HEQ.out]; exact hI, hB⟩
          case measure => simp [intOf]; omega
        · clear hz hzl hcs hv hbl hbl1
          go_wp2_with fail
          go_roundw
          case rel => exact ⟨j + 1, I, by omega, by go_num, HBL.out, by rw [HEQ.out]; exact hI, hB⟩
          case measure => simp [intOf]; omega
    · obtain rfl : k = j := by omega
      have hm0 : Mk0 (succs n E) n (fromV n zs) I := by
        have h1 := hI.out.2
        rw [List.take_of_length_le (by rw [HLZ.out]; exact Nat.le_refl _)] at h1
        exact ⟨hI.out.1, fun x hx => ⟨x, (h1 x).1 hx, .refl x⟩, fun v hv => (h1 v).2 hv⟩
      have HM0 := Lib.hid hm0
      have HBL := Lib.hid hbl
      obtain ⟨vs, hvs⟩ : ∃ vs, fromV n zs = vs := ⟨_, rfl⟩
      rw [hvs] at HM0
      have HVS := Lib.hid hvs
      clear hm0 hbl hbl1 hI hvs
      go_wp2_with fail
      go_loopw [9] (fun ch wr => ∃ (b : Bool) (I : List Bool), ch = .bool b ∧ Bl wr gv I ∧ Hid (Mk0 (succs n E) n vs I) ∧ Hid (b = false → ∀ e ∈ E, inAt I e.1 = true → inAt I e.2 = true) ∧ Below gv w wr) (fun ch wr => 2 * fls wr gv + tv ch)
      case atStart => exact ⟨true, I, rfl, HBL.out, HM0.out, (show true = false → _ from fun h => by cases h), hB⟩
      case round =>
        obtain ⟨b, I, rfl, hbl, hmk0, hcl, hB⟩ := hrel
        have hsz := heap_lt hbl
        have HBL := Lib.hid hbl
        obtain ⟨wo, hwo⟩ : ∃ W, W = wr := ⟨_, rfl⟩
        subst hwo
        cases b with
        | true =>
          clear hbl
          go_wp2_with fail
          go_loopw [9, 10] (fun ch i wi => ∃ (b : Bool) (j : Nat) (I' : List Bool), j ≤ m ∧ ch = .bool b ∧ i = .int .i64 j ∧ Bl wi gv I' ∧ Hid (Mk0 (succs n E) n vs I') ∧ Hid (b = false → I' = I ∧ ∀ e ∈ E.take j, inAt I e.1 = true → inAt I e.2 = true) ∧ Hid (b = true → unv I' < unv I) ∧ Hid (unv I' ≤ unv I) ∧ Below gv w wi) (fun _ i _ => m - (intOf i).toNat)
          case atStart => exact ⟨false, 0, I, Nat.zero_le _, rfl, rfl, HBL.out, hmk0, (show false = false → I = I ∧ ∀ e ∈ E.take 0, _ from fun _ => ⟨rfl, fun e he => by simp at he⟩), (show false = true → _ from fun h => by cases h), Nat.le_refl _, hB⟩
          case round =>
            obtain ⟨b, j, I', hj, rfl, rfl, hbl', hmk', hb0, hb1, hle, hB'⟩ := hrel
            have HBL' := Lib.hid hbl'
            by_cases hlt : j < m
            · obtain ⟨bb, off, x, y, rfl, hbb, hxy, hc1, hc2⟩ := (HE.out.below (hB'.mono (by omega))).at_ hlt
              have hxyl := HD.out _ (List.mem_of_getElem? hxy)
              simp only at hxyl
              unfold nv at hc1 hc2
              have hIl := hmk'.out.len
              have hcx := hbl'.cell (x := x) (by omega)
              have hcy := hbl'.cell (x := y) (by omega)
              have hfy := hbl'.free y
              have HXY := Lib.hid hxy
              have hxn := hxyl.1
              have hyn := hxyl.2
              have htk : E.take (j + 1) = E.take j ++ [(x, y)] := take_snoc' hxy
              have HTK := Lib.hid htk
              clear hbl' hxy htk
              cases hix : inAt I' x with
              | false =>
                rw [hix] at hcx
                have HIX := Lib.hid hix
                clear hix hcy
                go_wp2_with fail
                go_roundw
                case rel =>
                  refine ⟨b, j + 1, I', by omega, rfl, by go_num, HBL'.out, hmk', (show b = false → _ from fun h => ?_), hb1, hle, hB'⟩
                  obtain ⟨h1, h2⟩ := hb0.out h
                  refine ⟨h1, fun e he hx => ?_⟩
                  rw [HTK.out] at he
                  rcases List.mem_append.1 he with he | he
                  · exact h2 e he hx
                  · rw [List.mem_singleton] at he
                    subst he
                    rw [← h1] at hx
                    rw [HIX.out] at hx
                    cases hx
                case measure => simp [intOf]; omega
              | true =>
                rw [hix] at hcx
                have HIX := Lib.hid hix
                cases hiy : inAt I' y with
                | true =>
                  rw [hiy] at hcy
                  have HIY := Lib.hid hiy
                  clear hix hiy
                  go_wp2_with fail
                  go_roundw
                  case rel =>
                    refine ⟨b, j + 1, I', by omega, rfl, by go_num, HBL'.out, hmk', (show b = false → _ from fun h => ?_), hb1, hle, hB'⟩
                    obtain ⟨h1, h2⟩ := hb0.out h
                    refine ⟨h1, fun e he hx => ?_⟩
                    rw [HTK.out] at he
                    rcases List.mem_append.1 he with he | he
                    · exact h2 e he hx
                    · rw [List.mem_singleton] at he
                      subst he
                      rw [← h1]
                      exact HIY.out
                  case measure => simp [intOf]; omega
                | false =>
                  rw [hiy] at hcy
                  have hus := unv_set I' y (inAt_false (by omega) hiy)
                  have HUS := Lib.hid hus
                  clear hix hiy hus
                  go_wp2_with fail
                  go_roundw
                  case rel =>
                    have h1 := hle.out
                    have h2 := HUS.out
                    exact ⟨true, j + 1, _, by omega, rfl, by go_num, HBL'.out.set y, hmk'.out.step hyn HIX.out ((nb_succs HD.out x y).2 (List.mem_of_getElem? HXY.out)), (show true = false → _ from fun h => by cases h), (show true = true → _ from fun _ => by omega), (show unv (I'.set y true) ≤ unv I by omega), hB'.setCell (p := ⟨gv, y, none⟩) (Nat.le_refl _) _⟩
                  case measure => simp [intOf]; omega
            · obtain rfl : m = j := by omega
              have HF1 := Lib.hid HBL.out.fls_
              have HF2 := Lib.hid HBL'.out.fls_
              clear hbl'
              go_wp2_with fail
              go_roundw
              case rel =>
                refine ⟨b, I', rfl, HBL'.out, hmk', (show b = false → _ from fun h => ?_), hB'⟩
                obtain ⟨h1, h2⟩ := hb0.out h
                rw [List.take_of_length_le (by omega)] at h2
                rw [h1]
                exact h2
              case measure =>
                rw [HF1.out, HF2.out]
                cases b with
                | true =>
                  have := hb1.out rfl
                  simp only [tv]
                  omega
                | false =>
                  have := hle.out
                  simp only [tv]
                  omega
        | false =>
          have HR := Lib.hid (hmk0.out.all HD.out (hcl.out rfl))
          have HIL := Lib.hid hmk0.out.len
          clear hbl
          go_wp2_with fail
          go_loopw [11, 12] (fun o i wi => ∃ j : Nat, j ≤ n ∧ i = .int .i64 j ∧ Bl wi gv I ∧ Own wi w.heap.size o ((List.range j).filter fun x => inAt I x) ∧ (∀ b, o.ownBlock = some b → b ≠ gv) ∧ Below gv w wi) (fun _ i _ => n - (intOf i).toNat)
          case atStart => exact ⟨0, Nat.zero_le _, rfl, HBL.out, Own.nil _ _, fun b hb => by simp [Value.ownBlock] at hb, hB⟩
          case round =>
            obtain ⟨j, hj, rfl, hbl, ho, hne, hB⟩ := hrel
            obtain ⟨oA, oc, rfl, _, _⟩ := ho.slice
            obtain ⟨L, hL⟩ : ∃ L, (List.range j).filter (fun x => inAt I x) = L := ⟨_, rfl⟩
            have hLl : L.length ≤ 1000 := by
              have := List.length_filter_le (fun x => inAt I x) (List.range j)
              rw [hL, List.length_range] at this
              omega
            rw [hL] at ho hne ⊢
            have HL := Lib.hid hL
            have HO := Lib.hid ho
            have HBLi := Lib.hid hbl
            have HNE := Lib.hid hne
            have hszi := heap_lt hbl
            obtain ⟨wi, hwi⟩ : ∃ W, W = wr := ⟨_, rfl⟩
            subst hwi
            by_cases hlt : j < n
            · have hcx := hbl.cell (x := j) (by rw [HIL.out]; exact hlt)
              clear hbl hL ho hne
              cases hij : inAt I j with
              | true =>
                rw [hij] at hcx
                have HIJ := Lib.hid hij
                have HOA := Lib.hid (own_of_block (w' := wi.alloc (.cells #[.int .i64 (j : Int)] 3)) HO.out (fun b hb => Below.heap_alloc _ _ _ (HO.out.lt b hb).2))
                clear hij
                go_wp2_with (at_builtin
                             refine wpList_append_lies _ rfl (.tmp 82) (.tmp 84) 22 rfl w.heap.size 3 i0 _ 1 8 Tryd.underlying22 hi0 hz0 hz1 hz2 rfl (by decide) (.slice oA L.length oc) L.length (L.map nv) rfl HOA.out ⟨wi.heap.size, 0, none⟩ 1 1 [.int .i64 (j : Int)] rfl rfl (fun j u hu => cell_one_new wi _ _ j u hu) (by simp [Value.oneCell']) (by decide) (by simp only [maxLen]; omega) (by omega) (by simp; omega) _ rfl ?_
                             intro g7 c7 w7 hown7 hgrow7 hat7 hlt7
                             have ho7 : Own w7 w.heap.size (.slice (some ⟨g7, 0, none⟩) (L.length + 1) c7) (L ++ [j]) := by
                               unfold Own
                               rw [List.length_append, List.map_append]
                               exact hown7
                             have HO7 := Lib.hid ho7
                             have hal : (wi.alloc (.cells #[.int .i64 (j : Int)] 3)).heap.size = wi.heap.size + 1 := by simp
                             have HG7 := Lib.hid (show g7 ≠ gv by
                               rcases hat7 with e | e
                               · exact HNE.out g7 e
                               · omega)
                             have HB7 := Lib.hid ((hB.alloc (by omega) (.cells #[.int .i64 (j : Int)] 3)).grown hgrow7 (by omega) (fun b e => by have := (HO.out.lt b e).1; omega))
                             have HBL7 := Lib.hid (HBLi.out.keep ((hgrow7.block gv (by omega) (fun e => HNE.out gv e.symm rfl)).trans (Below.heap_alloc wi _ gv hszi)))
                             clear ho7 hown7 hgrow7 hat7)
                go_roundw
                case rel =>
                  refine ⟨j + 1, by omega, by go_num, HBL7.out, ?_, fun b hb => ?_, HB7.out⟩
                  · rw [List.range_succ, List.filter_append, HL.out]
                    simp only [List.filter_cons, List.filter_nil, HIJ.out, if_true]
                    exact HO7.out
                  · have e1 : g7 = b := by simpa [Value.ownBlock] using hb
                    exact e1 ▸ HG7.out
                case measure => simp [intOf]; omega
              | false =>
                rw [hij] at hcx
                have HIJ := Lib.hid hij
                clear hij
                go_wp2_with fail
                go_roundw
                case rel =>
                  refine ⟨j + 1, by omega, by go_num, HBLi.out, ?_, HNE.out, hB⟩
                  rw [List.range_succ, List.filter_append, HL.out]
                  simp only [List.filter_cons, List.filter_nil, HIJ.out, Bool.false_eq_true, if_false, List.append_nil]
                  exact HO.out
                case measure => simp [intOf]; omega
            · obtain rfl : n = j := by omega
              have HEQ := Lib.hid (show L = rset (succs n E) (fromV n zs) by rw [← HL.out, HR.out, HVS.out])
              clear hbl hL ho hne
              go_wp2_with fail
              go_ret
              refine ⟨_, rfl, ?_, hB.mono (by omega)⟩
              rw [← HEQ.out]
              exact HO.out
end Go.Proofs.YtdebnnigbbjbcaaDoor
