/-
  The contract of graph.dropEdgesBetween: each row keeps what is at home where the row is. Condition: the parts and the rows name vertices.
  The library's IndexFunc at a row of the call's own with the predicate of leastWalk, and leastWalk on lists. Condition: the row names vertices.
  The contract of graph.leastWalk. Conditions: the rows name vertices; each step of the walk finds its vertex.
  appendTaken at what groupsOf makes; cycleFrom on lists; the sources in memory.
  The contract of graph.cycleFrom for few vertices. Condition: the walk that the search promises is there.
-/
import Derived.Test.YtdebnnigbbjbcaaDoorK13
import Derived.Test.YtdebnnigbbjbcaaDoorK4

namespace Go.Proofs.YtdebnnigbbjbcaaDoor
open Go Go.RowKit Go.Proofs

def homeSet (H : List Nat) (i : Nat) (c : List Nat) : List Nat := c.foldl (fun h v => h.set v i) H
def homeTo (n : Nat) (ys : List (List Nat)) (k : Nat) : List Nat := (List.range k).foldl (fun h i => homeSet h i (nb ys i)) (List.replicate n 0)
theorem homeSet_len (H : List Nat) (i : Nat) (c : List Nat) : (homeSet H i c).length = H.length := by
  induction c generalizing H with
  | nil => rfl
  | cons x xs ih =>
    show (homeSet (H.set x i) i xs).length = _
    rw [ih, List.length_set]
theorem homeSet_snoc (H : List Nat) (i : Nat) (c : List Nat) (x : Nat) : homeSet H i (c ++ [x]) = (homeSet H i c).set x i := by
  unfold homeSet
  rw [List.foldl_append]
  rfl
theorem homeTo_succ (n : Nat) (ys : List (List Nat)) (k : Nat) : homeTo n ys (k + 1) = homeSet (homeTo n ys k) k (nb ys k) := by
  unfold homeTo
  rw [List.range_succ, List.foldl_append]
  rfl
theorem homeTo_len (n : Nat) (ys : List (List Nat)) (k : Nat) : (homeTo n ys k).length = n := by
  induction k with
  | zero => simp [homeTo]
  | succ k ih => rw [homeTo_succ, homeSet_len, ih]
def dropRow (nx : List (List Nat)) (H : List Nat) (v : Nat) : List Nat := (nb nx v).filter fun w => decide (homeAt H w = homeAt H v)
def dropTo (nx : List (List Nat)) (H : List Nat) (k : Nat) : List (List Nat) := (List.range nx.length).map fun v => if v < k then dropRow nx H v else nb nx v
theorem dropTo_len (nx : List (List Nat)) (H : List Nat) (k : Nat) : (dropTo nx H k).length = nx.length := by simp [dropTo]
theorem dropTo_at (nx : List (List Nat)) (H : List Nat) (k : Nat) {v : Nat} (h : v < nx.length) : (dropTo nx H k)[v]? = some (if v < k then dropRow nx H v else nb nx v) := by simp [dropTo, h]
theorem dropTo_zero (nx : List (List Nat)) (H : List Nat) : dropTo nx H 0 = nx := by
  apply List.ext_getElem?
  intro i
  by_cases hi : i < nx.length
  · rw [dropTo_at nx H 0 hi, if_neg (by omega)]
    unfold nb
    rw [List.getElem?_eq_getElem hi]
    rfl
  · rw [List.getElem?_eq_none (by rw [dropTo_len]; omega), List.getElem?_eq_none (by omega)]
theorem dropTo_succ (nx : List (List Nat)) (H : List Nat) (k : Nat) : dropTo nx H (k + 1) = (dropTo nx H k).set k (dropRow nx H k) := by
  apply List.ext_getElem?
  intro i
  by_cases hi : i < nx.length
  · rw [dropTo_at nx H _ hi]
    by_cases h : k = i
    · subst h
      rw [List.getElem?_set_self (by rw [dropTo_len]; exact hi), if_pos (by omega)]
    · rw [List.getElem?_set_ne h, dropTo_at nx H _ hi]
      by_cases h2 : i < k
      · rw [if_pos h2, if_pos (by omega)]
      · rw [if_neg h2, if_neg (by omega)]
  · rw [List.getElem?_eq_none (by rw [dropTo_len]; omega), List.getElem?_eq_none (by rw [List.length_set, dropTo_len]; omega)]
/-- All edges between parts dropped. -/
def dropL (nx : List (List Nat)) (ys : List (List Nat)) : List (List Nat) := dropTo nx (homeTo nx.length ys ys.length) nx.length

theorem All.at_ {W : World} {lo m c k : Nat} {A : Option Addr} {ys : List (List Nat)} (h : All W lo (.slice A m c) ys) : m = ys.length ∧ (k < ys.length → ∃ gA v l, A = some ⟨gA, 0, none⟩ ∧ gA < W.heap.size ∧ ys[k]? = some l ∧ Own W lo v l ∧ W.cell? ⟨gA, k, none⟩ = some v) := by
  obtain ⟨vs, ho, hr⟩ := h
  obtain ⟨A', c', e, _, _⟩ := own_slice ho
  injection e with e1 e2 e3
  refine ⟨e2, fun hk => ?_⟩
  have hvl : vs.length = ys.length := by have := ho.1; simpa using this
  rcases ho.2 with ⟨_, h0⟩ | ⟨g, cap, cur, e, h1, h2, h3, h4, h5, h6⟩
  · omega
  · injection e with e1 _ _
    refine ⟨g, vs[k]'(by omega), ys[k], e1, heap_lt h2, List.getElem?_eq_getElem hk, hr k _ _ (List.getElem?_eq_getElem (by omega)) (List.getElem?_eq_getElem hk), ?_⟩
    rw [cell_of_row W g k cur 22 (0, 0) h2]
    have h7 : (cur.toList.take (ys.length * 1))[k]? = vs[k]? := by rw [h6]
    rw [List.getElem?_take_of_lt (by omega), Array.getElem?_toList, List.getElem?_eq_getElem (by omega)] at h7
    exact h7

theorem dat_set {W : World} {gh x i : Nat} {H : List Nat} (h : W.heap[gh]? = some (.cells (H.map nv).toArray 3 (0, 0))) : (W.setCell ⟨gh, x, none⟩ (.int .i64 (i : Int))).heap[gh]? = some (.cells ((H.set x i).map nv).toArray 3 (0, 0)) := by
  simp only [World.setCell, Array.getElem?_modify]
  simp [h, List.map_set]
  rfl

set_option maxRecDepth 100000 in
set_option maxHeartbeats 2000000 in
theorem drop_any (g lo hi c lo2 m c2 : Nat) (A : Option Addr) (cs : Array Value) (nx ys : List (List Nat)) (w : World) (hn : nx.length ≤ 1000) (hR : Rows2 w lo hi g cs nx) (hh : hi ≤ w.heap.size) (hg : Good nx) (hA : All w lo2 (.slice A m c2) ys) (hy : ys.length ≤ 1000) (hyl : ∀ l ∈ ys, l.length ≤ 1000 ∧ ∀ x ∈ l, x < nx.length) :
    Calls Tryd.prog 38 #[.slice A m c2, .slice (some ⟨g, 0, none⟩) nx.length c] w fun e w' => e = .returned (.tuple #[]) ∧ ∃ cs', Rows2 w' lo hi g cs' (dropL nx ys) ∧ Chg (fun b => lo ≤ b ∧ b < hi) w w' := by
  obtain ⟨n, hnx⟩ : ∃ n, nx.length = n := ⟨_, rfl⟩
  rw [hnx] at hn hyl ⊢
  have hmk := make_ints n n (Nat.le_refl _) (by omega)
  obtain ⟨w0, hw0⟩ : ∃ W, (w.alloc (.cells (Array.replicate n (.int .i64 0)) 3)).alloc (.cells #[.slice (some ⟨w.heap.size, 0, none⟩) n n] 22) = W := ⟨_, rfl⟩
  have hb0 : Below w.heap.size w w0 := by rw [← hw0]; exact ((Below.refl _ _).alloc (Nat.le_refl _) _).alloc (by simp) _
  have hsz0 : w0.heap.size = w.heap.size + 1 + 1 := by rw [← hw0]; simp
  have hd0 : w0.heap[w.heap.size]? = some (.cells ((homeTo n ys 0).map nv).toArray 3 (0, 0)) := by
    rw [← hw0, Below.heap_alloc _ _ _ (by simp), World.alloc_heap_new]
    simp [homeTo, nv]
  have hx0 : w0.heap[w.heap.size + 1]? = some (.cells #[.slice (some ⟨w.heap.size, 0, none⟩) n n] 22 (0, 0)) := by
    have := World.alloc_heap_new (w.alloc (.cells (Array.replicate n (.int .i64 0)) 3)) (.cells #[.slice (some ⟨w.heap.size, 0, none⟩) n n] 22)
    rw [World.size_alloc] at this
    rw [← hw0]
    exact this
  obtain ⟨hm, _⟩ := hA.at_ (k := 0)
  subst hm
  have HW0 := Lib.hid hw0
  have HN := Lib.hid hnx
  have HR := Lib.hid hR
  have HA := Lib.hid hA
  have HG := Lib.hid hg
  have HYL := Lib.hid hyl
  have HD0 := Lib.hid hd0
  have HX0 := Lib.hid hx0
  have HSZ := Lib.hid hsz0
  have hgin := hR.gin
  clear hw0 hnx hR hA hg hyl hd0 hx0 hsz0
  go_enter Tryd.func38, Tryd.ntmps38
  go_wp2_with fail
  rw [HW0.out]
  go_loopw [16] (fun i wr => ∃ k : Nat, k ≤ ys.length ∧ i = .int .i64 k ∧ wr.heap[w.heap.size]? = some (.cells ((homeTo n ys k).map nv).toArray 3 (0, 0)) ∧ wr.heap[w.heap.size + 1]? = some (.cells #[.slice (some ⟨w.heap.size, 0, none⟩) n n] 22 (0, 0)) ∧ Below w.heap.size w wr) (fun i _ => ys.length - (intOf i).toNat)
  case atStart => exact ⟨0, Nat.zero_le _, rfl, HD0.out, HX0.out, hb0⟩
  case round =>
    obtain ⟨k, hk, rfl, hdat, hbox, hB⟩ := hrel
    obtain ⟨wo, hwo⟩ : ∃ W, W = wr := ⟨_, rfl⟩
    subst hwo
    have HDAT := Lib.hid hdat
    have HBOX := Lib.hid hbox
    by_cases hlt : k < ys.length
    · obtain ⟨gA, v, l, rfl, hgA, hl, ho, hcv⟩ := (HA.out.at_ (k := k)).2 hlt
      obtain ⟨A3, c3, rfl, hlc, hcm⟩ := ho.slice
      have hcv1 := (hB.cell (p := ⟨gA, k, none⟩) hgA).trans hcv
      obtain ⟨hll, hlv⟩ := HYL.out l (List.mem_of_getElem? hl)
      have hnb : nb ys k = l := by unfold nb; rw [hl]; rfl
      have HNB := Lib.hid hnb
      have HO := Lib.hid ho
      have HLV := Lib.hid hlv
      clear hdat hbox hl ho hcv hnb hlv
      go_wp2_with fail
      go_loopw [23] (fun i wr => ∃ j : Nat, j ≤ l.length ∧ i = .int .i64 j ∧ wr.heap[w.heap.size]? = some (.cells ((homeSet (homeTo n ys k) k (l.take j)).map nv).toArray 3 (0, 0)) ∧ wr.heap[w.heap.size + 1]? = some (.cells #[.slice (some ⟨w.heap.size, 0, none⟩) n n] 22 (0, 0)) ∧ Below w.heap.size w wr) (fun i _ => l.length - (intOf i).toNat)
      case atStart => exact ⟨0, Nat.zero_le _, rfl, HDAT.out, HBOX.out, hB⟩
      case round =>
        obtain ⟨j, hj, rfl, hdat, hbox, hBj⟩ := hrel
        have HDATJ := Lib.hid hdat
        have HBOXJ := Lib.hid hbox
        by_cases hlj : j < l.length
        · obtain ⟨gl, cl, e, _, hg2, _, _⟩ := HO.out.form (by omega)
          injection e with e1 e2 e3
          subst e1 e3
          obtain ⟨x, hxl⟩ : ∃ x, l[j]? = some x := ⟨_, List.getElem?_eq_getElem hlj⟩
          have hcx := HO.out.cell hlj
          rw [hxl] at hcx
          have hcx1 : wr.cell? ⟨gl, j, none⟩ = some (.int .i64 (x : Int)) := (hBj.cell (p := ⟨gl, j, none⟩) hg2).trans hcx
          have hxn := HLV.out x (List.mem_of_getElem? hxl)
          have hbc := box_cell hbox
          have hdl : (homeSet (homeTo n ys k) k (l.take j)).length = n := by rw [homeSet_len, homeTo_len]
          have hdc := dat_cell hdat (x := x) (by rw [hdl]; exact hxn)
          have hdf : wr.frozen? ⟨w.heap.size, x, none⟩ = false := by simp [World.frozen?, hdat]
          have HXL := Lib.hid hxl
          clear hdat hbox hxl hcx e2 hdl
          go_wp2_with fail
          go_roundw
          case rel => exact ⟨j + 1, by omega, by go_num, by rw [take_snoc' HXL.out, homeSet_snoc]; exact dat_set HDATJ.out, (Below.heap_setCell _ _ _ _ (by show w.heap.size + 1 ≠ w.heap.size; omega)).trans HBOXJ.out, hBj.setCell (p := ⟨w.heap.size, x, none⟩) (Nat.le_refl _) _⟩
          case measure => simp [intOf]; omega
        · obtain rfl : l.length = j := by omega
          have hfin : wr.heap[w.heap.size]? = some (.cells ((homeTo n ys (k + 1)).map nv).toArray 3 (0, 0)) := by
            rw [homeTo_succ, HNB.out]
            rw [List.take_length] at hdat
            exact hdat
          have HFIN := Lib.hid hfin
          clear hdat hbox hfin
          go_wp2_with fail
          go_roundw
          case rel => exact ⟨k + 1, by omega, by go_num, HFIN.out, HBOXJ.out, hBj⟩
          case measure => simp [intOf]; omega
    · obtain rfl : ys.length = k := by omega
      obtain ⟨H, hH⟩ : ∃ H, homeTo n ys ys.length = H := ⟨_, rfl⟩
      have hHl : H.length = n := by rw [← hH, homeTo_len]
      rw [hH] at hdat HDAT
      have HH := Lib.hid hH
      have HHL := Lib.hid hHl
      have hs1 := hB.size
      have hR1 : Rows2 wo lo hi g cs (dropTo nx H 0) := by rw [dropTo_zero]; exact HR.out.keep fun b _ hb => hB.block b (by omega)
      have HR1 := Lib.hid hR1
      have hwz : w.heap.size + 1 < wo.heap.size := heap_lt hbox
      clear hdat hbox hH hHl hR1
      go_wp2_with fail
      go_loopw [35] (fun i wr => ∃ (k : Nat) (ds : Array Value), k ≤ n ∧ i = .int .i64 k ∧ Rows2 wr lo hi g ds (dropTo nx H k) ∧ wr.heap[w.heap.size]? = some (.cells (H.map nv).toArray 3 (0, 0)) ∧ wr.heap[w.heap.size + 1]? = some (.cells #[.slice (some ⟨w.heap.size, 0, none⟩) n n] 22 (0, 0)) ∧ Chg (fun b => lo ≤ b ∧ b < hi) w wr) (fun i _ => n - (intOf i).toNat)
      case atStart => exact ⟨0, cs, Nat.zero_le _, rfl, HR1.out, HDAT.out, HBOX.out, Chg.of_new hB _⟩
      case round =>
        obtain ⟨k, ds, hk, rfl, hRk, hdat, hbox, hC⟩ := hrel
        have hs2 := hC.size
        have HDATK := Lib.hid hdat
        have HBOXK := Lib.hid hbox
        have HRK := Lib.hid hRk
        have hbl := heap_lt hbox
        by_cases hlt : k < n
        · obtain ⟨v, l, hv, hl, ho, hcv⟩ := HRK.out.at_ (i := k) (by rw [dropTo_len, HN.out]; exact hlt)
          rw [dropTo_at nx H k (by rw [HN.out]; exact hlt), if_neg (Nat.lt_irrefl _)] at hl
          injection hl with hl
          have hin := HRK.out.inn k v
          have hfz := HRK.out.frozen k
          have hne := own_ne_g HRK.out ho
          have hnl := nb_short nx HG.out k
          have hnn := HN.out
          rw [hl, hnn] at hnl
          have hlx : ∀ x ∈ l, x < n := fun x hx => by
            rw [← hl] at hx
            unfold nb at hx
            cases hq : nx[k]? with
            | none => rw [hq] at hx; cases hx
            | some r =>
              rw [hq] at hx
              have := (HG.out r (List.mem_of_getElem? hq)).2 x hx
              rw [HN.out] at this
              exact this
          obtain ⟨W1, hW1⟩ : ∃ W, wr.alloc (.cells #[.int .i64 (k : Int)] 3) = W := ⟨_, rfl⟩
          have hk1 : ∀ b, b < wr.heap.size → W1.heap[b]? = wr.heap[b]? := fun b hb => by rw [← hW1]; exact Below.heap_alloc _ _ _ hb
          have hz1 : W1.heap.size = wr.heap.size + 1 := by rw [← hW1]; simp
          have hvb : W1.heap[wr.heap.size]? = some (.cells #[.int .i64 (k : Int)] 3 (0, 0)) := by rw [← hW1]; exact World.alloc_heap_new wr _
          have hHI : HomeIn W1.drew w.heap.size (w.heap.size + 1) wr.heap.size n k H := ⟨(hk1 _ hbl).trans hbox, hvb, (hk1 _ (by omega)).trans hdat, HHL.out, hlt⟩
          have hO1 : Own W1.drew lo v l := ho.keep fun b hb => hk1 b (ho.lt b hb).2
          have hgr : ∀ b, v.ownBlock = some b → lo ≤ b ∧ b < hi := fun b hb => ⟨(ho.lt b hb).1, hin b hv hb⟩
          have HDEL := Lib.hid (delete_own lo v l W1.drew hHI hO1 hlx (by omega) (fun b hb => by have := hgr b hb; omega))
          have hcg : W1.cell? ⟨g, k, none⟩ = some v := (World.cell?_of_block (w := wr) (hk1 g (by omega))).trans hcv
          have hcvb := box_cell hvb
          have hfg : W1.frozen? ⟨g, k, none⟩ = false := (World.frozen?_of_block (w := wr) (hk1 g (by omega))).trans hfz
          have hvn : some wr.heap.size ≠ v.ownBlock := fun e => by have := hgr _ e.symm; omega
          have HW1 := Lib.hid hW1
          have HV := Lib.hid hv
          have HL := Lib.hid hl
          have HK1 := Lib.hid hk1
          have HGR := Lib.hid hgr
          clear hdat hbox hRk hv hl ho hW1 hk1 hvb hHI hO1 hgr hin hlx
          go_wp2_with fail
          rw [HW1.out]
          go_wp2_with fail
          go_region_with (go_at_call 51; refine HDEL.out.mono ?_; rintro e w3 ⟨v3, rfl, ho3, hg3, hb3⟩; obtain ⟨A3, cc3, rfl, _, _⟩ := ho3.slice; have hcg3 := hg3.cell (show W1.drew.cell? ⟨g, k, none⟩ = some v from hcg) (Ne.symm hne); have hcvb3 := hg3.cell (show W1.drew.cell? ⟨wr.heap.size, 0, none⟩ = some (.int .i64 (k : Int)) from hcvb) hvn; have hf3 : w3.frozen? ⟨g, k, none⟩ = false := (World.frozen?_of_block (hg3.block g (by show g < W1.heap.size; omega) (Ne.symm hne))).trans hfg)
          all_goals
            have hsz3 := hg3.size
            have hsz4 : wr.heap.size < w3.heap.size := by
              have : W1.drew.heap.size = W1.heap.size := rfl
              omega
            have hk3 : ∀ b, b < wr.heap.size → v.ownBlock ≠ some b → w3.heap[b]? = wr.heap[b]? := fun b hb hnb => (hg3.block b (by show b < W1.heap.size; omega) (Ne.symm hnb)).trans (HK1.out b hb)
            have hno : ∀ b, ¬ (lo ≤ b ∧ b < hi) → v.ownBlock ≠ some b := fun b hb e => hb (HGR.out b e)
            have hup := HRK.out.upd (w' := w3) HV.out (Nat.le_refl _) (fun b _ hb hnb => hk3 b (by omega) hnb) ho3 (fun b hb => .inl (hb3 b hb)) (fun b hb => (HGR.out b (hb3 b hb)).2)
            have hrow : dropRow nx H k = l.filter fun x => decide (homeAt H x = homeAt H k) := by unfold dropRow; rw [HL.out]
            have HUP := Lib.hid hup
            have HROW := Lib.hid hrow
            have HK3 := Lib.hid hk3
            have HNO := Lib.hid hno
            have HC := Lib.hid (show Chg (fun b => lo ≤ b ∧ b < hi) wr w3 from ⟨hg3.os.trans (by rw [← HW1.out]; rfl), hg3.tape.trans (by rw [← HW1.out]; rfl), hg3.output.trans (by rw [← HW1.out]; rfl), by omega, fun b hb hn => hk3 b hb (hno b hn)⟩)
            clear hup hrow hk3 hno hg3 ho3 hb3
            go_wp2_with fail
            go_roundw
            case rel =>
              refine ⟨k + 1, _, by omega, by go_num, by rw [dropTo_succ, HROW.out]; exact HUP.out, ?_, ?_, (hC.trans HC.out (fun _ _ h => h)).setCell (fun _ => hgin) _⟩
              · exact (Below.heap_setCell _ _ _ _ (by show w.heap.size ≠ g; omega)).trans ((HK3.out _ (by omega) (HNO.out _ (by omega))).trans HDATK.out)
              · exact (Below.heap_setCell _ _ _ _ (by show w.heap.size + 1 ≠ g; omega)).trans ((HK3.out _ (by omega) (HNO.out _ (by omega))).trans HBOXK.out)
            case measure => simp [intOf]; omega
        · obtain rfl : n = k := by omega
          clear hdat hbox hRk
          go_wp2_with fail
          go_end0
          exact ⟨rfl, ds, by unfold dropL; rw [HN.out, HH.out]; exact HRK.out, hC⟩
end Go.Proofs.YtdebnnigbbjbcaaDoor

namespace Go.Proofs.YtdebnnigbbjbcaaDoor
open Go Go.RowKit Go.Sort Go.Proofs Go.Lib

/-- The first successor of v at distance r. -/
def stepTo (nx : List (List Nat)) (D : List Nat) (v r : Nat) : Option Nat := (nb nx v).find? fun x => decide (homeAt D x = r)
/-- The walk that leastWalk takes from v, r steps from its end. -/
def walkL (nx : List (List Nat)) (D : List Nat) : Nat → Nat → List Nat
  | _, 0 => []
  | v, r + 1 => match stepTo nx D v (r + 1) with
    | none => []
    | some x => x :: walkL nx D x r
/-- Each step of that walk finds its vertex. -/
def LeadsL (nx : List (List Nat)) (D : List Nat) : Nat → Nat → Prop
  | _, 0 => True
  | v, r + 1 => ∃ x, stepTo nx D v (r + 1) = some x ∧ LeadsL nx D x r
theorem walk_step {nx : List (List Nat)} {D : List Nat} {v r x : Nat} (h : stepTo nx D v (r + 1) = some x) : walkL nx D v (r + 1) = x :: walkL nx D x r := by
  rw [walkL, h]
theorem find_at {l : List Nat} {p : Nat → Bool} {x : Nat} (h : l.find? p = some x) : p x = true ∧ ∃ k, k < l.length ∧ l[k]? = some x ∧ ∀ j y, j < k → l[j]? = some y → p y = false := by
  obtain ⟨h1, i, hi, h2, h3⟩ := List.find?_eq_some_iff_getElem.1 h
  refine ⟨h1, i, hi, by rw [List.getElem?_eq_getElem hi, h2], fun j y hj hy => ?_⟩
  have h4 := h3 j hj
  rw [List.getElem?_eq_getElem (by omega)] at hy
  injection hy with hy
  rw [hy] at h4
  simpa using h4

/-- What the predicate reads. -/
structure DistIn (W : World) (gd hb vb n r : Nat) (D : List Nat) : Prop where
  box : W.heap[hb]? = some (.cells #[.slice (some ⟨gd, 0, none⟩) n n] 22 (0, 0))
  var : W.heap[vb]? = some (.cells #[.int .i64 (r : Int)] 3 (0, 0))
  dat : W.heap[gd]? = some (.cells (D.map nv).toArray 3 (0, 0))
  len : D.length = n
theorem DistIn.keep {W W' : World} {gd hb vb n r : Nat} {D : List Nat} (h : DistIn W gd hb vb n r D) (hk : ∀ b, b = gd ∨ b = hb ∨ b = vb → W'.heap[b]? = W.heap[b]?) : DistIn W' gd hb vb n r D :=
  ⟨(hk _ (.inr (.inl rfl))).trans h.box, (hk _ (.inr (.inr rfl))).trans h.var, (hk _ (.inl rfl)).trans h.dat, h.len⟩
set_option maxHeartbeats 1000000 in
theorem dist_gives {W : World} {gd hb vb n r : Nat} {D : List Nat} (h : DistIn W gd hb vb n r D) (x : Fin n) :
    FnGives Tryd.prog 97 #[.pointer (some ⟨hb, 0, none⟩), .pointer (some ⟨vb, 0, none⟩)] #[.int .i64 ((x.1 : Nat) : Int)] (.bool (decide (homeAt D x.1 = r))) W := by
  have c1 := box_cell h.box
  have c2 := box_cell h.var
  have c3 := dat_cell h.dat (x := x.1) (by rw [h.len]; exact x.2)
  obtain ⟨a, ha⟩ : ∃ a, homeAt D x.1 = a := ⟨_, rfl⟩
  rw [ha] at c3 ⊢
  have hxl := x.2
  obtain ⟨y, hy⟩ : ∃ y : Nat, x.1 = y := ⟨_, rfl⟩
  rw [hy] at c3 hxl ⊢
  have hy0 : (0 : Int) ≤ (y : Int) := by omega
  have hy1 : (y : Int) < (n : Int) := by omega
  clear ha hy h
  show Calls Tryd.prog 97 #[.int .i64 (y : Int), .pointer (some ⟨hb, 0, none⟩), .pointer (some ⟨vb, 0, none⟩)] W _
  by_cases hab : a = r
  · subst hab
    go_enter Tryd.func97, Tryd.ntmps97
    go_wp2
    go_quiet (fail)
    all_goals go_wp2
    all_goals
      go_ret
      exact ⟨by simp, _, rfl⟩
  · have hab1 : ((a : Int) == (r : Int)) = false := by simp; omega
    have HAB := Lib.hid (show decide (a = r) = false by simp [hab])
    clear hab
    go_enter Tryd.func97, Tryd.ntmps97
    go_wp2
    go_quiet (fail)
    all_goals go_wp2
    all_goals
      go_ret
      exact ⟨by rw [HAB.out]; rfl, _, rfl⟩

theorem index_own (lo : Nat) (sv : Value) (l : List Nat) (W : World) {gd hb vb n r k x : Nat} {D : List Nat} (hD : DistIn W gd hb vb n r D) (ho : Own W lo sv l) (hl : ∀ x ∈ l, x < n) (hn : l.length ≤ 100000)
    (hk : l[k]? = some x) (hx : homeAt D x = r) (hbefore : ∀ j y, j < k → l[j]? = some y → homeAt D y ≠ r) :
    Calls Tryd.prog 75 #[sv, .func (.func 97) #[] #[.pointer (some ⟨hb, 0, none⟩), .pointer (some ⟨vb, 0, none⟩)]] W fun e W' => e = .returned (.int .i64 (k : Int)) ∧ ∃ q, W' = W.drewN q := by
  obtain ⟨hkl, hkx⟩ := List.getElem?_eq_some_iff.1 hk
  obtain ⟨g, c, rfl, _, hg2, _, _⟩ := ho.form (by omega)
  have hn0 : 0 < n := by have := hl x (List.mem_of_getElem? hk); omega
  obtain ⟨zs, hzs⟩ := exists_fin n l hl
  haveI : Inhabited (Fin n) := ⟨⟨0, hn0⟩⟩
  have hzl : zs.length = l.length := by rw [← hzs, List.length_map]
  have hza : ∀ j, j < zs.length → l[j]? = some (zs[j]!).1 := fun j hj => by
    rw [← hzs, List.getElem?_map, List.getElem?_eq_getElem hj, getElem!_pos zs j hj]
    rfl
  have hpred : PredAt Tryd.prog 97 #[.pointer (some ⟨hb, 0, none⟩), .pointer (some ⟨vb, 0, none⟩)] (fun x : Fin n => Value.int .i64 ((x.1 : Nat) : Int)) (fun x => decide (homeAt D x.1 = r)) W :=
    fun W' x hbel => dist_gives (hD.keep fun b hb => hbel.block b (by
      rcases hb with rfl | rfl | rfl
      · exact heap_lt hD.dat
      · exact heap_lt hD.box
      · exact heap_lt hD.var)) x
  have eg := enters_of Tryd.func97 (by kernel_rfl) rfl
  have hcon := Tryd.slices_IndexFunc (fun x : Fin n => Value.int .i64 ((x.1 : Nat) : Int)) (fun x => decide (homeAt D x.1 = r)) 97 #[.pointer (some ⟨hb, 0, none⟩), .pointer (some ⟨vb, 0, none⟩)] eg g 0 l.length c zs W hpred (by omega) (by omega) (fun j hj => by
    rw [Nat.zero_add, ho.cell (by omega), hza j hj]
    rfl)
  have hid := idxBy_hit (fun _ y => decide (homeAt D (y : Fin n).1 = r)) zs l.length k default hkl (by omega) (by
    have h1 := hza k (by omega)
    rw [hk] at h1
    injection h1 with h1
    simp only [← h1, hx]
    simp) (fun j hj => by
    have := hbefore j _ hj (hza j (by omega))
    simpa using this)
  rw [hid] at hcon
  exact hcon
end Go.Proofs.YtdebnnigbbjbcaaDoor

namespace Go.Proofs.YtdebnnigbbjbcaaDoor
open Go Go.RowKit Go.Proofs

def cycLen : Value → Nat
  | .slice _ m _ => m
  | _ => 0

set_option maxRecDepth 100000 in
set_option maxHeartbeats 2000000 in
theorem least_any (g lo hi gd c s r n : Nat) (cs : Array Value) (nx : List (List Nat)) (D : List Nat) (w : World) (hnx : nx.length = n) (hn : n ≤ 1000) (hR : Rows2 w lo hi g cs nx) (hh : hi ≤ w.heap.size) (hg : Good nx)
    (hd : w.heap[gd]? = some (.cells (D.map nv).toArray 3 (0, 0))) (hdl : D.length = n) (hs : s < n) (hr : r ≤ 1000) (hL : LeadsL nx D s r) :
    Calls Tryd.prog 81 #[.int .i64 (s : Int), .int .i64 ((r : Int) + 1), .slice (some ⟨g, 0, none⟩) n c, .slice (some ⟨gd, 0, none⟩) n n] w fun e w' => ∃ v, e = .returned v ∧ Own w' w.heap.size v (s :: walkL nx D s r) ∧ Below w.heap.size w w' := by
  obtain ⟨i0, hi0, hz0, hz1, hz2⟩ := info_parts info_int
  obtain ⟨w0, hw0⟩ : ∃ W, (w.alloc (.cells #[.slice (some ⟨gd, 0, none⟩) n n] 22)).alloc (.cells #[.int .i64 (s : Int)] 3) = W := ⟨_, rfl⟩
  have hb0 : Below w.heap.size w w0 := by rw [← hw0]; exact ((Below.refl _ _).alloc (Nat.le_refl _) _).alloc (by simp) _
  have hx0 : w0.heap[w.heap.size]? = some (.cells #[.slice (some ⟨gd, 0, none⟩) n n] 22 (0, 0)) := by
    rw [← hw0, Below.heap_alloc _ _ _ (by simp), World.alloc_heap_new]
  have ho0 : Own w0 (w.heap.size + 1) (.slice (some ⟨w.heap.size + 1, 0, none⟩) 1 1) [s] := by
    have h1 := World.alloc_heap_new (w.alloc (.cells #[.slice (some ⟨gd, 0, none⟩) n n] 22)) (.cells #[.int .i64 (s : Int)] 3)
    rw [World.size_alloc, hw0] at h1
    exact ⟨by simp, .inr ⟨w.heap.size + 1, 1, _, by simp, Nat.le_refl _, h1, by simp, by simp [maxLen], by simp, by simp [nv]⟩⟩
  have HW0 := Lib.hid hw0
  have HX0 := Lib.hid hx0
  have HO0 := Lib.hid ho0
  have HN := Lib.hid hnx
  have HR := Lib.hid hR
  have HG := Lib.hid hg
  have HD := Lib.hid hd
  have HDL := Lib.hid hdl
  have HL := Lib.hid hL
  have hgl := heap_lt hd
  have hgin := hR.gin
  clear hw0 hx0 ho0 hnx hR hg hd hdl hL
  go_enter Tryd.func81, Tryd.ntmps81
  go_wp2_with fail
  rw [HW0.out]
  go_loopw [9, 10] (fun q v wr => ∃ (j x : Nat) (dn : List Nat), j ≤ r ∧ v = .int .i64 (x : Int) ∧ x < n ∧ Hid (LeadsL nx D x j) ∧ Hid (dn ++ walkL nx D x j = s :: walkL nx D s r) ∧ dn.length + j = r + 1 ∧ Own wr (w.heap.size + 1) q dn ∧ wr.heap[w.heap.size]? = some (.cells #[.slice (some ⟨gd, 0, none⟩) n n] 22 (0, 0)) ∧ Below w.heap.size w wr) (fun q _ _ => r + 1 - cycLen q)
  case atStart => exact ⟨r, s, [s], Nat.le_refl _, rfl, hs, HL, rfl, by simp; omega, HO0.out, HX0.out, hb0⟩
  case round =>
    obtain ⟨j, x, dn, hj, rfl, hx, hLx, hE, hdl, hoq, hbox, hB⟩ := hrel
    obtain ⟨A3, c3, rfl, hq1, hq2⟩ := hoq.slice
    obtain ⟨L, hLn⟩ : ∃ L, dn.length = L := ⟨_, rfl⟩
    rw [hLn] at hdl hq1
    have HLN := Lib.hid hLn
    have HOQ := Lib.hid hoq
    rw [hLn]
    have hsz := hB.size
    have hbl := heap_lt hbox
    rcases j with _ | j
    · have hfin : Own wr w.heap.size (.slice A3 L c3) (s :: walkL nx D s r) := by
        have h1 := hE.out
        rw [walkL, List.append_nil] at h1
        rw [← h1, ← hLn]
        exact hoq.base_ fun b hb => by have := (hoq.lt b hb).1; omega
      have HF := Lib.hid hfin
      clear hfin hoq hbox hLx hE hLn
      go_wp2_with fail
      go_ret
      exact ⟨_, rfl, HF.out, hB⟩
    · obtain ⟨y, hy, hLy⟩ := hLx.out
      obtain ⟨hyD, k, hkl, hky, hkb⟩ := find_at hy
      have hyD' : homeAt D y = j + 1 := by simpa using hyD
      obtain ⟨v, l, hv, hl, ho, hcv⟩ := HR.out.at_ (i := x) (by rw [HN.out]; exact hx)
      have hnb : nb nx x = l := by unfold nb; rw [hl]; rfl
      rw [hnb] at hkl hky hkb
      obtain ⟨gl, cl, rfl, hgl1, hgl2, hcl1, hcl2⟩ := ho.form (by omega)
      have hin := HR.out.inn x _ gl hv rfl
      have hlx : ∀ z ∈ l, z < n := fun z hz => by
        have := (HG.out l (List.mem_of_getElem? hl)).2 z hz
        rw [HN.out] at this
        exact this
      have hll : l.length ≤ 1000 := by
        have := nb_short nx HG.out x
        rw [hnb, HN.out] at this
        omega
      have hyn := hlx y (List.mem_of_getElem? hky)
      have hrest : (r : Int) + 1 - (L : Int) = ((j + 1 : Nat) : Int) := by omega
      obtain ⟨o, hob⟩ : ∃ o, Obj.cells #[.int .i64 ((r : Int) + 1 - (L : Int))] 3 (0, 0) = o := ⟨_, rfl⟩
      have hk1 : ∀ b, b < wr.heap.size → (wr.alloc o).heap[b]? = wr.heap[b]? := fun b hb => Below.heap_alloc _ _ _ hb
      have hDI : DistIn (wr.alloc o) gd w.heap.size wr.heap.size n (j + 1) D := ⟨(hk1 _ hbl).trans hbox, by rw [← hrest, hob]; exact World.alloc_heap_new wr o, (hk1 _ (by omega)).trans ((hB.block gd hgl).trans HD.out), HDL.out⟩
      have hO1 : Own (wr.alloc o) lo (.slice (some ⟨gl, 0, none⟩) l.length cl) l := ho.keep fun b hb => (hk1 b (by have := (ho.lt b hb).2; omega)).trans (hB.block b (ho.lt b hb).2)
      have HIDX := Lib.hid (index_own lo _ l (wr.alloc o) hDI hO1 hlx (by omega) hky hyD' (fun i z hi hz => by simpa using hkb i z hi hz))
      have hcg : (wr.alloc o).cell? ⟨g, x, none⟩ = some (.slice (some ⟨gl, 0, none⟩) l.length cl) := (World.cell?_of_block (w := wr) (hk1 g (by omega))).trans ((hB.cell (p := ⟨g, x, none⟩) (by show g < _; omega)).trans hcv)
      have hcl : (wr.alloc o).cell? ⟨gl, k, none⟩ = some (.int .i64 (y : Int)) := by
        have := hO1.cell (i := k) hkl
        rw [hky] at this
        exact this
      have HOA := Lib.hid (show ∀ (q : Nat) (o2 : Obj), Own (((wr.alloc o).drewN q).alloc o2) (w.heap.size + 1) (.slice A3 L c3) dn from fun q o2 => by
        have h1 := HOQ.out
        rw [HLN.out] at h1
        exact h1.keep fun b hb => (Below.heap_alloc _ _ _ (by have := (h1.lt b hb).2; show b < (wr.alloc o).heap.size; simp; omega)).trans (hk1 b (h1.lt b hb).2))
      have hnb2 : some w.heap.size ≠ (Value.slice A3 L c3).ownBlock := fun e => by
        have h1 := HOQ.out
        rw [HLN.out] at h1
        have := (h1.lt _ e.symm).1
        omega
      have hlo : ∀ b, (Value.slice A3 L c3).ownBlock = some b → w.heap.size ≤ b := fun b hb => by
        have h1 := HOQ.out
        rw [HLN.out] at h1
        have := (h1.lt _ hb).1
        omega
      have HC1 := Lib.hid (show ∀ (q : Nat) (i : Nat) (z : Value), [Value.int .i64 (y : Int)][i]? = some z → (((wr.alloc o).drewN q).alloc (.cells #[.int .i64 (y : Int)] 3)).cell? ((⟨wr.heap.size + 1, 0, none⟩ : Addr).add i) = some z from fun q i z hz => by
        have h1 := cell_one_new ((wr.alloc o).drewN q) (.int .i64 (y : Int)) 3 i z hz
        rw [show ((wr.alloc o).drewN q).heap.size = wr.heap.size + 1 by simp] at h1
        exact h1)
      have hk0 : (0 : Int) ≤ (k : Int) := by omega
      have hkl' : (k : Int) < (l.length : Int) := by omega
      have hstep := walk_step hy
      have HK1 := Lib.hid hk1
      have HST := Lib.hid hstep
      have HLY := Lib.hid hLy
      have HLO := Lib.hid hlo
      have HBOX := Lib.hid hbox
      have hlt : (L : Int) < (r : Int) + 1 := by omega
      clear hk1 hDI hO1 hky hkb hyD hyD' hLx hLy hy hv hl hnb ho hcv hlx hoq hbox hstep hlo hLn hrest
      subst hob
      go_wp2_with (first
        | (go_at_call 75
           refine HIDX.out.mono ?_
           rintro e w3 ⟨rfl, q, rfl⟩)
        | (at_builtin
           refine wpList_append_lies _ rfl (.tmp 20) (.tmp 22) 22 rfl (w.heap.size + 1) 3 i0 _ 1 8 Tryd.underlying22 hi0 hz0 hz1 hz2 rfl (by decide) (.slice A3 L c3) L (dn.map nv) rfl (by have := HOA.out q (.cells #[.int .i64 (y : Int)] 3); unfold Own at this; rw [HLN.out] at this; exact this) ⟨wr.heap.size + 1, 0, none⟩ 1 1 [.int .i64 (y : Int)] rfl rfl (HC1.out q) (by simp [Value.oneCell']) (by decide) (by simp only [maxLen]; omega) (by omega) (by simp; omega) (wr.heap.size + 1 + 1) (by simp) ?_
           intro gg cap w4 hown hgrow hat hlt4))
      go_roundw
      case rel =>
        have hlen : (dn ++ [y]).length = L + 1 := by rw [← HLN.out]; simp
        have hrow : w4.ownsRow (w.heap.size + 1) 3 1 (.slice (some ⟨gg, 0, none⟩) (dn ++ [y]).length cap) (dn ++ [y]).length ((dn ++ [y]).map nv) := by
          rw [hlen, show (dn ++ [y]).map nv = dn.map nv ++ [.int .i64 (y : Int)] by simp [nv]]
          exact hown
        rw [hlen] at hrow
        refine ⟨j, y, dn ++ [y], by omega, rfl, hyn, HLY, Lib.hid ?_, by rw [hlen]; omega, ?_, ?_, ?_⟩
        · rw [List.append_assoc]
          show dn ++ (y :: walkL nx D y j) = _
          rw [← HST.out]
          exact hE.out
        · unfold Own
          rw [hlen]
          exact hrow
        · exact (hgrow.block w.heap.size (by simp; omega) hnb2).trans ((Below.heap_alloc _ _ _ (by simp; omega)).trans ((HK1.out _ hbl).trans HBOX.out))
        · have h1 := hB.alloc hsz (.cells #[.int .i64 ((r : Int) + 1 - (L : Int))] 3)
          have h2 : Below w.heap.size w ((wr.alloc (.cells #[.int .i64 ((r : Int) + 1 - (L : Int))] 3)).drewN q) := ⟨h1.os, h1.tape, h1.output, h1.size, h1.block⟩
          exact (h2.alloc (by simp; omega) _).grown hgrow (by simp; omega) HLO.out
      case measure => simp [cycLen]; omega
end Go.Proofs.YtdebnnigbbjbcaaDoor

namespace Go.Proofs.YtdebnnigbbjbcaaDoor
open Go Go.RowKit Go.Proofs

theorem taken_any (qv gv : Value) (base B gs u : Nat) (ql l : List Nat) (w : World) (hT : Tab w) (ho : Own w base qv ql) (hql : ql.length ≤ 1000) (hw : Wrd w gs u) (hg : Groups w B gv l) (hl : ∀ x ∈ l, x < 10) (hu : u < 1024) (hbase : base ≤ w.heap.size) (hd : qv.ownBlock ≠ some gs) (hz : gs ≠ 0) (hz2 : qv.ownBlock ≠ some 0) :
    Calls Tryd.prog 80 #[qv, .slice (some ⟨gs, 0, none⟩) 1 1, gv] w (Taken base gs u qv ql (u &&& mask l) w) := by
  rcases hg with ⟨rfl, rfl⟩ | ⟨_, gb, cap, rfl, _, h⟩
  · rw [show mask [] = 0 from rfl, Nat.and_zero]
    exact taken_none qv base gs u ql w ho hw
  · exact taken_some qv base gs gb cap u (mask l) ql w hT ho hql hw h hu (mask_small l hl) hbase hd hz hz2

/-- The marks of one round: true where the start is met. -/
def setTo (s len : Nat) : List Nat → List Nat → Bool × List Nat
  | [], D => (false, D)
  | u :: us, D => if u = s then (true, D) else setTo s len us (D.set u len)
/-- cycleFrom's search. -/
def bfs (srcs : List (List Nat)) (s below : Nat) : Nat → Nat → Nat → List Nat → List Nat → Option (Nat × List Nat)
  | 0, _, _, _, _ => none
  | f + 1, i, unf, D, Q =>
    if i < Q.length then
      if below ≤ homeAt D (homeAt Q i) + 1 then none
      else match setTo s (homeAt D (homeAt Q i) + 1) (bitsL (unf &&& mask (nb srcs (homeAt Q i)))) D with
        | (true, D') => some (homeAt D (homeAt Q i) + 1, D')
        | (false, D') => bfs srcs s below f (i + 1) (unf ^^^ (unf &&& mask (nb srcs (homeAt Q i)))) D' (Q ++ bitsL (unf &&& mask (nb srcs (homeAt Q i))))
    else none
def bfsL (srcs : List (List Nat)) (s n below : Nat) : Option (Nat × List Nat) := bfs srcs s below 12 0 (mask (List.range' s (n - s))) (List.replicate n 0) [s]
def fromL (nx srcs : List (List Nat)) (s n below : Nat) : List Nat := match bfsL srcs s n below with
  | none => []
  | some (len, D) => s :: walkL nx D s (len - 1)

theorem setTo_len (s len : Nat) (us D : List Nat) : (setTo s len us D).2.length = D.length := by
  induction us generalizing D with
  | nil => rfl
  | cons u us ih =>
    unfold setTo
    by_cases h : u = s
    · rw [if_pos h]
    · rw [if_neg h, ih, List.length_set]
theorem part_len (l : List Nat) (p q : Nat → Bool) : (l.filter fun i => p i && q i).length + (l.filter fun i => p i && !q i).length = (l.filter p).length := by
  induction l with
  | nil => rfl
  | cons x xs ih =>
    simp only [List.filter_cons]
    cases p x <;> cases q x <;> simp <;> omega
/-- What is taken is no longer there. -/
theorem bits_part (u m : Nat) : (bitsL (u &&& m)).length + (bitsL (u ^^^ (u &&& m))).length = (bitsL u).length := by
  have h := part_len (List.range 10) (fun i => u.testBit i) (fun i => m.testBit i)
  unfold bitsL
  rw [← h]
  congr 2
  · apply List.filter_congr
    intro i _
    rw [Nat.testBit_and]
  · apply List.filter_congr
    intro i _
    rw [Nat.testBit_xor, Nat.testBit_and]
    cases u.testBit i <;> cases m.testBit i <;> rfl
theorem bits_of_and {u m x : Nat} (h : x ∈ bitsL (u &&& m)) : x ∈ bitsL u := by
  unfold bitsL at *
  rw [List.mem_filter] at *
  refine ⟨h.1, ?_⟩
  have := h.2
  rw [Nat.testBit_and] at this
  exact (Bool.and_eq_true_iff.1 this).1
theorem bits_of_xor {u m x : Nat} (h : x ∈ bitsL (u ^^^ (u &&& m))) : x ∈ bitsL u := by
  unfold bitsL at *
  rw [List.mem_filter] at *
  refine ⟨h.1, ?_⟩
  have := h.2
  rw [Nat.testBit_xor, Nat.testBit_and] at this
  cases hu : u.testBit x with
  | true => rfl
  | false => rw [hu] at this; simp at this

/-- The slice of the sources' groups, in block gS. -/
def Srcs (W : World) (gS n : Nat) (srcs : List (List Nat)) : Prop := ∀ v, v < n → ∃ gv, W.cell? ⟨gS, v, none⟩ = some gv ∧ Groups W 0 gv (nb srcs v)
theorem Groups.keep {W W' : World} {B : Nat} {gv : Value} {l : List Nat} (h : Groups W B gv l) (hk : ∀ b, b < W.heap.size → W'.heap[b]? = W.heap[b]?) : Groups W' B gv l := by
  rcases h with h | ⟨h1, gb, cap, h2, h3, h4⟩
  · exact .inl h
  · exact .inr ⟨h1, gb, cap, h2, h3, h4.keep (hk gb h4.lt)⟩
theorem Srcs.below {W W' : World} {gS n : Nat} {srcs : List (List Nat)} (h : Srcs W gS n srcs) (hB : Below W.heap.size W W') : Srcs W' gS n srcs := fun v hv => by
  obtain ⟨gv, h1, h2⟩ := h v hv
  exact ⟨gv, (World.cell?_of_block (w := W) (hB.block gS (World.block_lt_of_cell? W _ h1))).trans h1, h2.keep fun b hb => hB.block b hb⟩
end Go.Proofs.YtdebnnigbbjbcaaDoor

namespace Go.Proofs.YtdebnnigbbjbcaaDoor
open Go Go.RowKit Go.Proofs

theorem homeAt_mem {Q : List Nat} {k : Nat} (h : k < Q.length) : homeAt Q k ∈ Q := by
  unfold homeAt
  rw [List.getElem?_eq_getElem h]
  exact List.getElem_mem h

set_option pp.maxSteps 100000 in
set_option pp.deepTerms true in
set_option maxRecDepth 100000 in
set_option maxHeartbeats 4000000 in
theorem from_any (g lo hi gS c cS s n below : Nat) (cs : Array Value) (nx srcs : List (List Nat)) (w : World) (hnx : nx.length = n) (hn : n ≤ 10) (hR : Rows2 w lo hi g cs nx) (hh : hi ≤ w.heap.size) (hg : Good nx)
    (hS : Srcs w gS n srcs) (hsl : ∀ v x, x ∈ nb srcs v → x < n) (hs : s < n) (hbl : below ≤ 1000) (hT : Tab w) (hlead : ∀ len D, bfsL srcs s n below = some (len, D) → LeadsL nx D s (len - 1)) :
    Calls Tryd.prog 59 #[.int .i64 (s : Int), .slice (some ⟨g, 0, none⟩) n c, .slice (some ⟨gS, 0, none⟩) n cS, .int .i64 (below : Int)] w fun e w' => ∃ v, e = .returned v ∧ ((bfsL srcs s n below = none ∧ v = .slice none 0 0) ∨ ∃ len D, bfsL srcs s n below = some (len, D) ∧ Own w' w.heap.size v (s :: walkL nx D s (len - 1))) ∧ Below w.heap.size w w' := by
  have hmk := make_ints n n (Nat.le_refl _) (by omega)
  have HV := Lib.hid (vertices_any s n w (by omega) hn (by omega))
  have hgin := hR.gin
  have htb : 0 < w.heap.size := World.block_lt_of_cell? w _ (hT 0 (by omega))
  have HN := Lib.hid hnx
  have HR := Lib.hid hR
  have HG := Lib.hid hg
  have HS := Lib.hid hS
  have HSL := Lib.hid hsl
  have HT := Lib.hid hT
  have HLD := Lib.hid hlead
  clear hnx hR hg hS hsl hT hlead
  go_enter Tryd.func59, Tryd.ntmps59
  go_wp2_with (go_at_call 79
               refine HV.out.mono ?_
               rintro e w1 ⟨gU, rfl, hgU, hwU, hB1⟩
               have HWU := Lib.hid hwU
               clear hwU)
  obtain ⟨w2, hw2⟩ : ∃ W, (w1.alloc (.cells (Array.replicate n (.int .i64 0)) 3)).alloc (.cells #[.int .i64 (s : Int)] 3) = W := ⟨_, rfl⟩
  have hgU1 : gU < w1.heap.size := heap_lt HWU.out
  have hs1 := hB1.size
  have hb2 : Below w.heap.size w w2 := by rw [← hw2]; exact (hB1.alloc hs1 _).alloc (by simp; omega) _
  have hz2 : w2.heap.size = w1.heap.size + 1 + 1 := by rw [← hw2]; simp
  have hd2 : w2.heap[w1.heap.size]? = some (.cells ((List.replicate n 0).map nv).toArray 3 (0, 0)) := by
    rw [← hw2, Below.heap_alloc _ _ _ (by simp), World.alloc_heap_new]
    simp [nv]
  have ho2 : Own w2 (w1.heap.size + 1) (.slice (some ⟨w1.heap.size + 1, 0, none⟩) 1 1) [s] := by
    have h1 := World.alloc_heap_new (w1.alloc (.cells (Array.replicate n (.int .i64 0)) 3)) (.cells #[.int .i64 (s : Int)] 3)
    rw [World.size_alloc, hw2] at h1
    exact ⟨by simp, .inr ⟨w1.heap.size + 1, 1, _, by simp, Nat.le_refl _, h1, by simp, by simp [maxLen], by simp, by simp [nv]⟩⟩
  have hu2 : Wrd w2 gU (mask (List.range' s (n - s))) := HWU.out.keep (by rw [← hw2, Below.heap_alloc _ _ _ (by simp; omega), Below.heap_alloc _ _ _ hgU1])
  have HD2 := Lib.hid hd2
  have HO2 := Lib.hid ho2
  have HU2 := Lib.hid hu2
  rw [hw2]
  clear hw2 hd2 ho2 hu2
  go_loopw [11, 12] (fun q i wr => ∃ (k f unf : Nat) (D Q : List Nat), i = .int .i64 (k : Int) ∧ k + f = 12 ∧ k ≤ Q.length ∧ Hid (bfs srcs s below f k unf D Q = bfsL srcs s n below) ∧ Q.length + (bitsL unf).length ≤ 11 ∧ Hid (∀ x ∈ Q, x < n) ∧ unf < 1024 ∧ Hid (∀ x ∈ bitsL unf, x < n) ∧ D.length = n ∧ Hid (∀ x, homeAt D x ≤ 1000) ∧ Own wr (w1.heap.size + 1) q Q ∧ Wrd wr gU unf ∧ wr.heap[w1.heap.size]? = some (.cells (D.map nv).toArray 3 (0, 0)) ∧ Below w.heap.size w wr) (fun _ i _ => 12 - (intOf i).toNat)
  case atStart =>
    refine ⟨0, 12, mask (List.range' s (n - s)), List.replicate n 0, [s], rfl, by omega, by simp, rfl, ?_, Lib.hid ?_, ?_, Lib.hid ?_, by simp, Lib.hid ?_, HO2.out, HU2.out, HD2.out, hb2⟩
    · have := bits_len (mask (List.range' s (n - s)))
      simp; omega
    · intro x hx
      rw [List.mem_singleton] at hx
      omega
    · exact mask_small _ fun x hx => by have := List.mem_range'_1.1 hx; omega
    · intro x hx
      unfold bitsL at hx
      have h1 := (List.mem_filter.1 hx).2
      rw [mask_bit, decide_eq_true_eq, List.mem_range'_1] at h1
      omega
    · intro x
      unfold homeAt
      rw [List.getElem?_replicate]
      split <;> simp
  case round =>
    obtain ⟨k, f, unf, D, Q, rfl, hkf, hkQ, hE, hQl, hQn, hun, hub, hDl, hDs, hoq, hwu, hdat, hB⟩ := hrel
    obtain ⟨wo, hwo⟩ : ∃ W, W = wr := ⟨_, rfl⟩
    subst hwo
    by_cases hlt : k < Q.length
    · obtain ⟨f, rfl⟩ : ∃ f', f = f' + 1 := ⟨f - 1, by omega⟩
      obtain ⟨gq, cq, rfl, hgq1, hgq2, hcq1, hcq2⟩ := hoq.form (by omega)
      obtain ⟨v, hv⟩ : ∃ v, homeAt Q k = v := ⟨_, rfl⟩
      have hvn : v < n := by rw [← hv]; exact hQn.out _ (homeAt_mem hlt)
      obtain ⟨d, hd⟩ : ∃ d, homeAt D v = d := ⟨_, rfl⟩
      have hd1 : d ≤ 1000 := by rw [← hd]; exact hDs.out v
      have cq0 := hoq.cell hlt
      rw [show Q[k]?.getD 0 = v from hv] at cq0
      replace cq0 : wo.cell? ⟨gq, k, none⟩ = some (.int .i64 (v : Int)) := cq0
      have cd0 := dat_cell hdat (x := v) (by omega)
      rw [hd] at cd0
      have hE1 := hE.out
      rw [bfs, if_pos hlt, hv, hd] at hE1
      by_cases hbe : below ≤ d + 1
      · rw [if_pos hbe] at hE1
        have HE1 := Lib.hid hE1
        clear hE1 hv hd hE hoq hwu hdat
        go_wp2_with fail
        go_ret
        exact ⟨_, rfl, .inl ⟨HE1.out.symm, rfl⟩, hB⟩
      · rw [if_neg hbe] at hE1
        obtain ⟨gv, hgv, hGr⟩ := (HS.out.below (hB.mono (Nat.le_refl _))) v hvn
        obtain ⟨tk, htk⟩ : ∃ t, unf &&& mask (nb srcs v) = t := ⟨_, rfl⟩
        rw [htk] at hE1
        have htab : Tab wo := HT.out.keep (hB.block _ htb)
        have hneU : (Value.slice (some ⟨gq, 0, none⟩) Q.length cq).ownBlock ≠ some gU := fun e => by
          have e2 : gq = gU := by injection e
          omega
        have hneT : (Value.slice (some ⟨gq, 0, none⟩) Q.length cq).ownBlock ≠ some 0 := fun e => by
          have e2 : gq = 0 := by injection e
          omega
        have HTK := Lib.hid (taken_any (.slice (some ⟨gq, 0, none⟩) Q.length cq) gv (w1.heap.size + 1) 0 gU unf Q (nb srcs v) wo htab hoq (by omega) hwu hGr (fun x hx => by have := HSL.out v x hx; omega) hun (by have := heap_lt hdat; omega) hneU (by omega) hneT)
        rw [htk] at HTK
        have hbits : (bitsL tk).length + (bitsL (unf ^^^ tk)).length = (bitsL unf).length := by rw [← htk]; exact bits_part unf _
        have HP1 := Lib.hid (show ∀ x ∈ Q ++ bitsL tk, x < n from fun x hx => by
          rcases List.mem_append.1 hx with h | h
          · exact hQn.out x h
          · exact hub.out x (bits_of_and (by rw [htk]; exact h)))
        have hp2 : unf ^^^ tk < 1024 := Nat.xor_lt_two_pow (n := 10) hun (by rw [← htk]; exact Nat.lt_of_le_of_lt Nat.and_le_left hun)
        have HP3 := Lib.hid (show ∀ x ∈ bitsL (unf ^^^ tk), x < n from fun x hx => hub.out x (bits_of_xor (by rw [htk]; exact hx)))
        obtain ⟨T, hT⟩ : ∃ T, bitsL tk = T := ⟨_, rfl⟩
        rw [hT] at hbits hE1 HP1
        have HTT := Lib.hid hT
        have HE1 := Lib.hid hE1
        have HDAT := Lib.hid hdat
        have HPOS := Lib.hid (show 0 < (Q ++ bitsL tk).length by rw [List.length_append]; omega)
        have hdl := heap_lt hdat
        clear hE1 hv hd hE hoq hwu hdat hGr htab hT
        by_cases hTe : T = []
        · subst hTe
          have HN1 := Lib.hid (show bfs srcs s below f (k + 1) (unf ^^^ tk) D Q = bfsL srcs s n below by have := HE1.out; simp only [setTo, List.append_nil] at this; exact this)
          rw [List.append_nil] at HP1
          go_wp2_with (go_at_call 80
                       refine HTK.out.mono ?_
                       rintro e w3 ⟨q3, rfl, ho3, hw3, hb3, hc3⟩
                       obtain ⟨gq3, cq3, rfl, hgq3, hgq4, hcq3, hcq4⟩ := ho3.form HPOS.out
                       rw [HTT.out] at ho3 hcq3
                       rw [HTT.out]
                       rw [List.length_append] at hcq3
                       have hd3 : w3.heap[w1.heap.size]? = some (.cells (D.map nv).toArray 3 (0, 0)) := (hc3.block _ hdl (fun h => by
                         rcases h with h | h
                         · omega
                         · have e2 : gq = w1.heap.size := by injection h
                           omega)).trans HDAT.out
                       have hB3 : Below w.heap.size w w3 := hB.trans (hc3.below (fun b _ h => by
                         rcases h with h | h
                         · omega
                         · have e2 : gq = b := by injection h
                           omega) hB.size)
                       have HO3 := Lib.hid ho3
                       have HW3 := Lib.hid hw3
                       have HD3 := Lib.hid hd3
                       have HC3 := Lib.hid hc3.size
                       clear ho3 hw3 hb3 hc3 hd3)
          all_goals
            go_loopw [58] (fun i W => i = .int .i64 0 ∧ W = w3) (fun _ _ => 0)
            case atStart => exact ⟨rfl, rfl⟩
            case round =>
              obtain ⟨rfl, rfl⟩ := hrel
              go_wp2_with fail
              go_roundw
              case rel =>
                have ho := HO3.out
                rw [List.append_nil] at ho
                refine ⟨k + 1, f, unf ^^^ tk, D, Q, by go_num, by omega, by omega, HN1, by simp at hbits; omega, HP1, hp2, HP3, hDl, hDs, ?_, HW3.out, HD3.out, hB3⟩
                first
                  | exact ho
                  | (have hcc : Q.length = cq3 := by omega
                     rw [← hcc] at ho
                     exact ho)
              case measure => simp [intOf]; omega
        · have hTl : 0 < T.length := by
            rcases T with _ | ⟨a, b⟩
            · exact absurd rfl hTe
            · simp
          go_wp2_with (go_at_call 80
                       refine HTK.out.mono ?_
                       rintro e w3 ⟨q3, rfl, ho3, hw3, hb3, hc3⟩
                       obtain ⟨gq3, cq3, rfl, hgq3, hgq4, hcq3, hcq4⟩ := ho3.form HPOS.out
                       rw [HTT.out] at ho3 hcq3
                       rw [HTT.out]
                       rw [List.length_append] at hcq3
                       have hd3 : w3.heap[w1.heap.size]? = some (.cells (D.map nv).toArray 3 (0, 0)) := (hc3.block _ hdl (fun h => by
                         rcases h with h | h
                         · omega
                         · have e2 : gq = w1.heap.size := by injection h
                           omega)).trans HDAT.out
                       have hB3 : Below w.heap.size w w3 := hB.trans (hc3.below (fun b _ h => by
                         rcases h with h | h
                         · omega
                         · have e2 : gq = b := by injection h
                           omega) hB.size)
                       have HO3 := Lib.hid ho3
                       have HW3 := Lib.hid hw3
                       have HD3 := Lib.hid hd3
                       have HC3 := Lib.hid hc3.size
                       clear ho3 hw3 hb3 hc3 hd3)
          have HM := Lib.hid hmk
          have hqw : w1.heap.size < gq3 := by omega
          have hdl3 := heap_lt HD3.out
          clear hmk hB
          go_loopw [58] (fun i W => ∃ (j : Nat) (D' : List Nat), j ≤ T.length ∧ i = .int .i64 (j : Int) ∧ Hid (setTo s (d + 1) (T.drop j) D' = setTo s (d + 1) T D) ∧ D'.length = n ∧ Hid (∀ x, homeAt D' x ≤ 1000) ∧ W.heap[w1.heap.size]? = some (.cells (D'.map nv).toArray 3 (0, 0)) ∧ Chg (fun b => b = w1.heap.size) w3 W) (fun i _ => T.length - (intOf i).toNat)
          case atStart => exact ⟨0, D, Nat.zero_le _, rfl, rfl, hDl, hDs, HD3.out, Chg.refl _ _⟩
          case round =>
            obtain ⟨j, D', hj, rfl, hSe, hDl', hDs', hdat, hC⟩ := hrel
            have hBW : Below w.heap.size w wr := hB3.trans (hC.below (fun b _ h => by omega) hB3.size)
            have HDJ := Lib.hid hdat
            by_cases hjl : j < T.length
            · obtain ⟨u, hu⟩ : ∃ u, T[j]? = some u := ⟨_, List.getElem?_eq_getElem hjl⟩
              have hdr : T.drop j = u :: T.drop (j + 1) := by
                rw [List.drop_eq_getElem_cons hjl]
                rw [List.getElem?_eq_getElem hjl] at hu
                injection hu with hu
                rw [hu]
              have hidx : (Q ++ T)[Q.length + j]? = some u := by
                rw [List.getElem?_append_right (by omega), show Q.length + j - Q.length = j by omega]
                exact hu
              have hun' : u < n := HP1.out u (List.mem_append_right _ (List.mem_of_getElem? hu))
              have hcu : wr.cell? ⟨gq3, Q.length + j, none⟩ = some (.int .i64 (u : Int)) := by
                have h1 := HO3.out.cell (i := Q.length + j) (by rw [List.length_append]; omega)
                rw [hidx] at h1
                exact (hC.cell (p := ⟨gq3, Q.length + j, none⟩) hgq4 (by show ¬ gq3 = w1.heap.size; omega)).trans h1
              have hS1 := hSe.out
              rw [hdr, setTo] at hS1
              by_cases hus : u = s
              · subst hus
                rw [if_pos rfl] at hS1
                have hfnd : bfsL srcs u n below = some (d + 1, D') := by
                  have h1 := HE1.out
                  rw [← hS1] at h1
                  exact h1.symm
                have HLST := Lib.hid (least_any g lo hi w1.heap.size c u d n cs nx D' wr HN.out (by omega) (HR.out.keep fun b _ hb => hBW.block b (by omega)) (by have := hBW.size; omega) HG.out hdat hDl' hun' hd1 (HLD.out _ _ hfnd))
                have HF := Lib.hid hfnd
                clear hdat hSe hS1 hfnd hu hdr hidx
                go_wp2_with (go_at_call 81
                             refine HLST.out.mono ?_
                             rintro e w5 ⟨v5, rfl, ho5, hB5⟩
                             have HO5 := Lib.hid ho5
                             have HB5 := Lib.hid hB5
                             clear ho5 hB5)
                have hsz := hBW.size
                go_ret
                exact ⟨_, rfl, .inr ⟨d + 1, D', HF.out, HO5.out.base_ fun b hb => by have := (HO5.out.lt b hb).1; omega⟩, hBW.trans (HB5.out.mono hsz)⟩
              · rw [if_neg hus] at hS1
                have HS1 := Lib.hid hS1
                have hdc := dat_cell hdat (x := u) (by omega)
                have hdf : wr.frozen? ⟨w1.heap.size, u, none⟩ = false := by simp [World.frozen?, hdat]
                have hne : ((u : Int) == (s : Int)) = false := by simp; omega
                clear hdat hSe hS1 hu hdr hidx
                go_wp2_with fail
                go_roundw
                case rel =>
                  refine ⟨j + 1, D'.set u (d + 1), by omega, by go_num, HS1, by rw [List.length_set]; exact hDl', Lib.hid ?_, ?_, hC.setCell (p := ⟨w1.heap.size, u, none⟩) (fun _ => rfl) _⟩
                  · intro x
                    unfold homeAt
                    rw [List.getElem?_set]
                    split
                    · split
                      · show d + 1 ≤ 1000
                        omega
                      · exact Nat.zero_le _
                    · exact hDs'.out x
                  · exact dat_set (x := u) (i := d + 1) HDJ.out
                case measure => simp [intOf]; omega
            · obtain rfl : T.length = j := by omega
              have hS1 := hSe.out
              rw [List.drop_length, setTo] at hS1
              have HN1 := Lib.hid (show bfs srcs s below f (k + 1) (unf ^^^ tk) D' (Q ++ T) = bfsL srcs s n below by
                have h1 := HE1.out
                rw [← hS1] at h1
                exact h1)
              have HO6 := Lib.hid (HO3.out.chg hC (fun b hb => by
                have e2 : gq3 = b := by injection hb
                omega))
              have HW6 := Lib.hid (HW3.out.keep (hC.block gU (heap_lt HW3.out) (by omega)))
              clear hdat hSe hS1
              go_wp2_with fail
              go_roundw
              case rel => exact ⟨k + 1, f, unf ^^^ tk, D', Q ++ T, by go_num, by omega, by rw [List.length_append]; omega, HN1, by rw [List.length_append]; omega, HP1, hp2, HP3, hDl', hDs', by rw [← List.length_append]; exact HO6.out, HW6.out, HDJ.out, hBW⟩
              case measure => simp [intOf]; omega
    · obtain ⟨Aq, cq, rfl, _, _⟩ := hoq.slice
      have hnone : bfsL srcs s n below = none := by
        rw [← hE.out]
        rcases f with _ | f
        · rfl
        · rw [bfs, if_neg hlt]
      have HNO := Lib.hid hnone
      clear hnone hE hoq hwu hdat
      go_wp2_with fail
      go_ret
      exact ⟨_, rfl, .inl ⟨HNO.out, rfl⟩, hB⟩
end Go.Proofs.YtdebnnigbbjbcaaDoor
