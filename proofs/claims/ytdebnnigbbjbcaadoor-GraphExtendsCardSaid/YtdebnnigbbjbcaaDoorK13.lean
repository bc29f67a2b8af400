/-
  The contract of graph.components: the trees of the second search, sorted. Condition: each row names vertices.
  The library's DeleteFunc at a row of the call's own, with the predicate of dropEdgesBetween. Condition: the row names vertices.
-/
import Derived.Test.YtdebnnigbbjbcaaDoorK12

namespace Go.Proofs.YtdebnnigbbjbcaaDoor
open Go Go.RowKit Go.Shelf
attribute [local go_sem] Oper.semAt_some run_store_func

theorem box_set {W : World} {b : Nat} {v u : Value} {t : TypeId} (h : W.heap[b]? = some (.cells #[v] t (0, 0))) : (W.setCell ⟨b, 0, none⟩ u).heap[b]? = some (.cells #[u] t (0, 0)) := by
  simp only [World.setCell, Array.getElem?_modify]
  simp [h]
theorem box_cell {W : World} {b : Nat} {v : Value} {t : TypeId} (h : W.heap[b]? = some (.cells #[v] t (0, 0))) : W.cell? ⟨b, 0, none⟩ = some v := cell_of_row W b 0 _ t (0, 0) h
theorem box_free {W : World} {b : Nat} {v : Value} {t : TypeId} (h : W.heap[b]? = some (.cells #[v] t (0, 0))) : W.frozen? ⟨b, 0, none⟩ = false := by simp [World.frozen?, h]
theorem dfsL_range (nx : List (List Nat)) (f k : Nat) (s : List Bool × List Nat) : dfsL nx f (List.range (k + 1)) s = dfs nx f k (dfsL nx f (List.range k) s) := by
  rw [List.range_succ, dfsL_snoc]

set_option maxRecDepth 100000 in
set_option maxHeartbeats 4000000 in
theorem components_in (k : Nat) (hk : 3 ≤ k) (g lo hi c : Nat) (cs : Array Value) (nx : List (List Nat)) (w : World) (hn : nx.length ≤ 1000) (hR : Rows2 w lo hi g cs nx) (hh : hi ≤ w.heap.size) (hg : Good nx) :
    CallsIn Fence.wide k Tryd.prog 39 #[.slice (some ⟨g, 0, none⟩) nx.length c] w fun e W' => ∃ av ys, e = .returned av ∧ All W' w.heap.size av ys ∧ ys.Perm (partsOf nx) ∧ ys.Pairwise (fun a b => cmpL a b ≤ 0) ∧ Below w.heap.size w W' := by
  have hk1 : 1 ≤ k := by omega
  obtain ⟨w0, hw0⟩ : ∃ W, w.alloc (.cells #[.slice none 0 0] 22) = W := ⟨_, rfl⟩
  have hw00 : Below w.heap.size w w0 := by rw [← hw0]; exact (Below.refl _ _).alloc (Nat.le_refl _) _
  have hsz0 : w0.heap.size = w.heap.size + 1 := by rw [← hw0]; simp
  have hbx : w0.heap[w.heap.size]? = some (.cells #[.slice none 0 0] 22 (0, 0)) := by rw [← hw0]; exact World.alloc_heap_new w _
  have HDF := Lib.hid (depthFirst_any 53 g w.heap.size c lo hi cs nx w0 hn (hR.keep fun b _ hb => hw00.block b (by omega)) (by omega) hbx (.inr hh))
  have HW0 := Lib.hid hw0
  have HR := Lib.hid hR
  have HG := Lib.hid hg
  obtain ⟨n, hnx⟩ : ∃ n, nx.length = n := ⟨_, rfl⟩
  rw [hnx] at HDF hn ⊢
  have HN := Lib.hid hnx
  clear hw0 hbx hR hg hnx
  refine callsIn_of_wp_marks Tryd.func39 rfl trivial ?_ rfl
  simp only [Tryd.ntmps39, List.size_toArray, List.length_cons, List.length_nil, Nat.reduceAdd, Nat.reduceSub, Array.replicate_succ, Array.replicate_zero, List.push_toArray, List.append_toArray, List.nil_append, List.cons_append]
  gi_wp2_with (fail)
  rw [HW0.out]
  refine ⟨trivial, (callsIn_wide.2 HDF.out).mono ?_⟩
  rintro e w1 ⟨bv, gv, bn, bs, bl, rfl, hEn, hDy, hb1, q1, q2, q3, q4, q5⟩
  obtain ⟨w2, hw2⟩ : ∃ W, w1.alloc (.cells #[.func (.func 48) #[] #[.pointer (some ⟨bv, 0, none⟩), .pointer (some ⟨bn, 0, none⟩), .pointer (some ⟨bs, 0, none⟩), .pointer (some ⟨bl, 0, none⟩)]] 54) = W := ⟨_, rfl⟩
  have hb12 : Below w1.heap.size w1 w2 := by rw [← hw2]; exact (Below.refl _ _).alloc (Nat.le_refl _) _
  have hsz2 : w2.heap.size = w1.heap.size + 1 := by rw [← hw2]; simp
  have hbvv : w2.heap[w1.heap.size]? = some (.cells #[.func (.func 48) #[] #[.pointer (some ⟨bv, 0, none⟩), .pointer (some ⟨bn, 0, none⟩), .pointer (some ⟨bs, 0, none⟩), .pointer (some ⟨bl, 0, none⟩)]] 54 (0, 0)) := by rw [← hw2]; exact World.alloc_heap_new w1 _
  have hs1 := hb1.size
  have hEb := hEn.below
  have hEa := hEn.apart
  have hE2 : Env w2 w2.heap.size lo hi g bv gv bn bs bl 53 w.heap.size c cs nx := (hEn.keep fun b h1 _ _ => hb12.block b h1).more (by omega)
  have hD2 : Dyn w2 w2.heap.size gv w.heap.size (List.replicate n false, []) := by
    obtain ⟨sv, h1, h2⟩ := hDy.out
    have h0 := hDy.vis
    rw [HN.out] at h0
    have hsv : sv = .slice none 0 0 := by
      rcases h2.2 with ⟨e, _⟩ | ⟨g', _, _, e, h4, h5, _⟩
      · exact e
      · have := heap_lt h5
        omega
    subst hsv
    exact ⟨(hb12.block gv (by omega)).trans h0, ⟨_, (hb12.block _ (by omega)).trans h1, Own.nil _ _⟩, Nat.le_refl _⟩
  have eg := enters_of Tryd.func53 (by kernel_rfl) rfl
  have HV := Lib.hid (visit_any 53 eg leave_left w2.heap.size lo hi g bv gv bn bs bl w.heap.size c cs nx HG.out (by rw [HN.out]; exact hn))
  have HE2 := Lib.hid hE2
  have HD2 := Lib.hid hD2
  have HBV := Lib.hid hbvv
  have HW2 := Lib.hid hw2
  have hw02 : Below w.heap.size w w2 := (hw00.trans (hb1.mono (by omega))).trans (hb12.mono (by omega))
  have HSZ2 := Lib.hid hsz2
  clear hEn hDy hE2 hD2 hbvv hw2 eg HDF
  gi_wp2_with (fail)
  rw [HW2.out]
  gi_loopw [15] (fun i wr => ∃ j : Nat, j ≤ n ∧ i = .int .i64 j ∧ Dyn wr w2.heap.size gv w.heap.size (dfsL nx (n + 1) (List.range j) (List.replicate n false, [])) ∧ Env wr w2.heap.size lo hi g bv gv bn bs bl 53 w.heap.size c cs nx ∧ Chg (May w2.heap.size gv w.heap.size) w2 wr) (fun i _ => n - (intOf i).toNat)
  case atStart => exact ⟨0, Nat.zero_le _, rfl, HD2.out, HE2.out, Chg.refl _ _⟩
  case round =>
    obtain ⟨j, hj, rfl, hDj, hEj, hCj⟩ := hrel
    have hst := dfsL_step nx (n + 1) (List.range j) (List.replicate n false, [])
    have hst1 := hst.len
    have hst2 := hst.unv_
    have hst3 := hst.all
    obtain ⟨sj, hsj⟩ : ∃ sj, dfsL nx (n + 1) (List.range j) (List.replicate n false, []) = sj := ⟨_, rfl⟩
    rw [hsj] at hDj hst1 hst2 hst3
    rw [unv_rep] at hst2 hst3
    rw [List.length_replicate] at hst1
    simp only [List.length_nil, Nat.zero_add] at hst3
    have HSJ := Lib.hid hsj
    have HDJ := Lib.hid hDj
    have HEJ := Lib.hid hEj
    have HST := Lib.hid hst1
    have hMj := hDj.size
    have hbvr : wr.heap[w1.heap.size]? = _ := (hCj.block w1.heap.size (by have := HSZ2.out; omega) (by rintro (h | h | h) <;> have := HSZ2.out <;> omega)).trans HBV.out
    have hcv := box_cell hbvr
    have HBVR := Lib.hid hbvr
    by_cases hlt : j < n
    · have HX := Lib.hid (HV.out (n + 1) j wr sj (by rw [HN.out]; exact hlt) (by rw [HN.out, HST.out]) (by omega) (by omega) hEj hDj)
      clear hst hst1 hsj hDj hEj hbvr
      gi_wp2_with (fail)
      refine ⟨trivial, (callsIn_wide.2 HX.out).mono ?_⟩
      rintro e w3 ⟨rfl, hD3, hC3⟩
      gi_wp2_with (fail)
      go_roundw
      case rel => exact ⟨j + 1, by omega, by go_num, by rw [dfsL_range, HSJ.out]; exact hD3, HEJ.out.chg hC3 hMj, hCj.trans hC3 (fun _ _ h => h)⟩
      case measure => simp [intOf]; omega
    · obtain rfl : n = j := by omega
      obtain ⟨sv1, hB1, hO1⟩ := hDj.out
      have hleft : sj.2 = leftOf nx := by unfold leftOf; rw [HN.out, ← hsj]
      have HSJ2 := Lib.hid (congrArg Prod.snd hsj.symm)
      have hl1 : sj.2.length ≤ 1000 := by omega
      have hw0r : Below w.heap.size w wr := hw02.trans (hCj.below (fun b _ h => by rcases h with h | h | h <;> omega) (by have := HSZ2.out; omega))
      have hsr := hCj.size
      obtain ⟨wa, hwa⟩ : ∃ W, (wr.alloc (.cells #[.slice none 0 0] 37)).alloc (.cells #[.slice none 0 0] 22) = W := ⟨_, rfl⟩
      have hbra : Below wr.heap.size wr wa := by rw [← hwa]; exact ((Below.refl _ _).alloc (Nat.le_refl _) _).alloc (by simp) _
      have hsza : wa.heap.size = wr.heap.size + 1 + 1 := by rw [← hwa]; simp
      have hball : wa.heap[wr.heap.size]? = some (.cells #[.slice none 0 0] 37 (0, 0)) := by
        rw [← hwa, Below.heap_alloc _ _ _ (by simp)]
        exact World.alloc_heap_new _ _
      have hbc : wa.heap[wr.heap.size + 1]? = some (.cells #[.slice none 0 0] 22 (0, 0)) := by
        have := World.alloc_heap_new (wr.alloc (.cells #[.slice none 0 0] 37)) (.cells #[.slice none 0 0] 22)
        rw [World.size_alloc] at this
        rw [← hwa]
        exact this
      have hEM := hEj.hi_
      have HP := Lib.hid (predecessors_any g lo hi c cs nx wa (by rw [HN.out]; exact hn) (hEj.rows.keep fun b _ hb => hbra.block b (by omega)) (by omega) HG.out)
      rw [HN.out] at HP
      have HLEFT := Lib.hid hleft
      have HWA := Lib.hid hwa
      have HB1 := Lib.hid hB1
      have HO1 := Lib.hid hO1
      have HBALL := Lib.hid hball
      have HBC := Lib.hid hbc
      have HSA := Lib.hid hsza
      clear hst hst1 hsj hDj hEj hbvr HV HE2 HD2 hball hbc hB1 hO1 hwa hsza hleft
      gi_wp2_with (fail)
      rw [HWA.out]
      refine ⟨trivial, (callsIn_wide.2 HP.out).mono ?_⟩
      rintro e wp ⟨gp, ds, rfl, hRp, hbp⟩
      have hsp := hbp.size
      have hsa := HSA.out
      have hdf2 := depthFirst_any 54 gp (wr.heap.size + 1) n wa.heap.size wp.heap.size ds (preds nx) wp (by rw [preds_len, HN.out]; exact hn) hRp (Nat.le_refl _) ((hbp.block _ (by omega)).trans HBC.out) (.inl (by omega))
      rw [preds_len, HN.out] at hdf2
      have HDF2 := Lib.hid hdf2
      clear hdf2 hRp HP
      gi_wp2_with (fail)
      refine ⟨trivial, (callsIn_wide.2 HDF2.out).mono ?_⟩
      rintro e wd ⟨bv2, gv2, bn2, bs2, bl2, rfl, hEn, hDy, hbd, r1, r2, r3, r4, r5⟩
      have hsd := hbd.size
      have hrd : ∀ b, b < wr.heap.size → wd.heap[b]? = wr.heap[b]? := fun b hb => ((hbd.block b (by omega)).trans (hbp.block b (by omega))).trans (hbra.block b hb)
      have had : ∀ b, b < wa.heap.size → wd.heap[b]? = wa.heap[b]? := fun b hb => (hbd.block b (by omega)).trans (hbp.block b hb)
      have hv1 : w1.heap.size < wr.heap.size := by have := HSZ2.out; omega
      have hbvd := (hrd _ hv1).trans HBVR.out
      have hcd := box_cell hbvd
      have hfd := box_free hbvd
      have hb1d := (hrd w.heap.size (by omega)).trans HB1.out
      obtain ⟨A1, c1, rfl, hlc1, hcm1⟩ := HO1.out.slice
      obtain ⟨clo, hclo⟩ : ∃ v : Value, (.func (.func 48) #[] #[.pointer (some ⟨bv2, 0, none⟩), .pointer (some ⟨bn2, 0, none⟩), .pointer (some ⟨bs2, 0, none⟩), .pointer (some ⟨bl2, 0, none⟩)] : Value) = v := ⟨_, rfl⟩
      have hcs1 : ∀ u : Value, (wd.setCell ⟨w1.heap.size, 0, none⟩ u).cell? ⟨w.heap.size, 0, none⟩ = some (.slice A1 sj.2.length c1) := fun u => by
        rw [World.cell?_of_block (w := wd) (Below.heap_setCell _ _ _ _ (by show w.heap.size ≠ w1.heap.size; omega))]
        exact box_cell hb1d
      have HCLO := Lib.hid hclo
      have HEn := Lib.hid hEn
      have HDy := Lib.hid hDy
      have HBVD := Lib.hid hbvd
      have HRD := Lib.hid hrd
      have HAD := Lib.hid had
      clear hclo hEn hDy hbvd hrd had hb1d hcv HDF2
      gi_wp2_with (fail)
      refine ⟨trivial, (callsIn_wide.2 (backward_any _ _ _ _)).mono ?_⟩
      rintro e w' ⟨rfl, rfl⟩
      gi_wp2_with (fail)
      obtain ⟨W0, hW0⟩ : ∃ W, ((wd.setCell ⟨w1.heap.size, 0, none⟩ (.func (.func 48) #[] #[.pointer (some ⟨bv2, 0, none⟩), .pointer (some ⟨bn2, 0, none⟩), .pointer (some ⟨bs2, 0, none⟩), .pointer (some ⟨bl2, 0, none⟩)])).alloc (.cells #[.slice A1 sj.2.length c1] 22)) = W := ⟨_, rfl⟩
      have hsz0' : W0.heap.size = wd.heap.size + 1 := by rw [← hW0]; simp
      have h0far : ∀ b, b < wd.heap.size → b ≠ w1.heap.size → W0.heap[b]? = wd.heap[b]? := fun b h1 h2 => by
        rw [← hW0, Below.heap_alloc _ _ _ (by rw [size_setCell]; exact h1)]
        exact Below.heap_setCell _ _ _ _ h2
      have h0v : W0.heap[w1.heap.size]? = some (.cells #[clo] 54 (0, 0)) := by
        rw [← hW0, Below.heap_alloc _ _ _ (by rw [size_setCell]; omega), HCLO.out]
        exact box_set HBVD.out
      have h0b : W0.heap[wd.heap.size]? = some (.cells #[.slice A1 sj.2.length c1] 22 (0, 0)) := by
        have := World.alloc_heap_new (wd.setCell ⟨w1.heap.size, 0, none⟩ (.func (.func 48) #[] #[.pointer (some ⟨bv2, 0, none⟩), .pointer (some ⟨bn2, 0, none⟩), .pointer (some ⟨bs2, 0, none⟩), .pointer (some ⟨bl2, 0, none⟩)])) (.cells #[.slice A1 sj.2.length c1] 22)
        rw [size_setCell] at this
        rw [← hW0]
        exact this
      obtain ⟨NN, hNN⟩ : ∃ NN : Nums, NN = { M := wd.heap.size, M0 := W0.heap.size, lo := wa.heap.size, hi := wp.heap.size, gp := gp, bv := bv2, gv := gv2, bn := bn2, bs := bs2, bl := bl2, bc := wr.heap.size + 1, ba := wr.heap.size, bx := w1.heap.size, q := wa.heap.size } := ⟨_, rfl⟩
      have hok : NN.ok := by
        rw [hNN]
        exact ⟨by show wd.heap.size ≤ W0.heap.size; omega, by show wr.heap.size < wd.heap.size; omega, by show w1.heap.size < wd.heap.size; omega, by show wr.heap.size ≠ gv2; omega, by show w1.heap.size ≠ gv2; omega, by show wr.heap.size ≠ wr.heap.size + 1; omega, by show w1.heap.size ≠ wr.heap.size + 1; omega, by show wr.heap.size ≠ w1.heap.size; omega, Nat.le_refl _, by show wa.heap.size ≤ bv2; omega, by show wa.heap.size ≤ bn2; omega, by show wa.heap.size ≤ bs2; omega, by show wa.heap.size ≤ bl2; omega, by show wr.heap.size < wa.heap.size; omega⟩
      have hwr0 : Below w.heap.size w W0 := by
        rw [← hW0]
        refine ((((hw0r.trans (hbra.mono (by omega))).trans (hbp.mono (by omega))).trans (hbd.mono (by omega))).setCell (p := ⟨w1.heap.size, 0, none⟩) (by show w.heap.size ≤ w1.heap.size; omega) _).alloc (by rw [size_setCell]; omega) _
      have hci : CInv NN n w.heap.size ds (preds nx) clo w (List.replicate n false, []) W0 := by
        have hvis := HDy.out.vis
        rw [preds_len, HN.out] at hvis
        rw [hNN]
        refine ⟨HEn.out.keepIn (q := wa.heap.size) (Nat.le_refl _) (by omega) (by omega) (by omega) (by omega) fun b h1 h2 _ _ => h0far b h2 (by omega), (h0far gv2 HEn.out.below.2.2.2.2.1 (by omega)).trans hvis, ⟨none, 0, 0, (h0far _ (by show wr.heap.size + 1 < wd.heap.size; omega) (by show wr.heap.size + 1 ≠ w1.heap.size; omega)).trans ((HAD.out (wr.heap.size + 1) (by omega)).trans HBC.out)⟩, ⟨none, 0, 0, (h0far _ (by show wr.heap.size < wd.heap.size; omega) (by show wr.heap.size ≠ w1.heap.size; omega)).trans ((HAD.out wr.heap.size (by omega)).trans HBALL.out), All.nil _ _⟩, h0v, hwr0, Nat.le_refl _⟩
      rw [hW0]
      have hgvd : gv2 < wd.heap.size := HEn.out.below.2.2.2.2.1
      have HCI := Lib.hid hci
      have HOK := Lib.hid hok
      have HNN := Lib.hid hNN
      have H0F := Lib.hid h0far
      have H0B := Lib.hid h0b
      clear hW0 hci hok hNN h0far h0v h0b HBVD HAD HEn HDy HWA HBALL HBC hcs1 hcd hfd
      have hlt : ∀ x ∈ sj.2, x < n := by
        rw [HSJ2.out]
        exact dfsL_out_lt nx n (n + 1) _ _ (by simp) (fun x hx => by cases hx)
      obtain ⟨zs, hzs⟩ := exists_fin n sj.2 hlt
      have hzl : zs.length = sj.2.length := by rw [← hzs, List.length_map]
      have HZS := Lib.hid hzs
      have HZL := Lib.hid hzl
      have hcz : 0 < sj.2.length → ∃ b off, A1 = some ⟨b, off, none⟩ ∧ (b = wd.heap.size ∨ (w2.heap.size ≤ b ∧ b < wr.heap.size)) ∧ b < W0.heap.size ∧ ∀ j z, zs[j]? = some z → W0.cell? ⟨b, off + j, none⟩ = some (.int .i64 ((z.1 : Nat) : Int)) := fun hpos => by
        obtain ⟨g1, cc, e, h1, h2, _, _⟩ := HO1.out.form hpos
        injection e with e1 e2 e3
        subst e1
        refine ⟨g1, 0, rfl, .inr ⟨h1, h2⟩, by omega, fun j z hz => ?_⟩
        have hjl : j < sj.2.length := by
          rw [← HZL.out]
          exact (List.getElem?_eq_some_iff.1 hz).1
        rw [Nat.zero_add, World.cell?_of_block (w := wr) (((H0F.out g1 (by omega) (by have := HSZ2.out; omega)).trans (HRD.out g1 h2)) : W0.heap[(⟨g1, j, none⟩ : Addr).block]? = _), HO1.out.cell hjl, ← HZS.out, List.getElem?_map, hz]
        rfl
      refine wpIn_rangeFunc_ownG rfl hk1 (gf := 76) (lb := #[.pointer (some ⟨wd.heap.size, 0, none⟩)]) rfl trivial (enters_of Tryd.func76 (by kernel_rfl) rfl)
        (back_stops (N := n) (k - 1) (by omega) wd.heap.size (fun b => b = wd.heap.size ∨ (w2.heap.size ≤ b ∧ b < wr.heap.size)) A1 sj.2.length c1 zs (.inl rfl) (by omega) hzl W0 (by omega) (box_cell H0B.out) hcz)
        (fun h k => Keeps.trans h k) (fun W l o o' hl h _ _ => Keeps.putObj (m := W0.heap.size) (by rintro k (rfl | ⟨_, h⟩) <;> omega) W l o o' hl h) (Below.refl _ _) (fun _ => rfl)
        (fun (pre : List (Int × Fin n)) W => CInv NN n w.heap.size ds (preds nx) clo w (compFold (preds nx) n (pre.map fun x : Int × Fin n => x.2.1) (List.replicate n false, [])) W)
        (fun _ _ _ => False)
        (fun s A B row hs hg hr => hs.turn HOK.out (by rw [HNN.out]; show w.heap.size ≤ W0.heap.size; omega) hg (by rw [HNN.out]; exact hr))
        (fun _ _ _ _ _ hs _ _ => hs)
        HCI.out
        (fun x : Int × Fin n => { tmps := #[.slice (some ⟨g, 0, none⟩) n c, undef, .slice none 0 0, .pointer (some ⟨w.heap.size, 0, none⟩), .pointer (some ⟨w1.heap.size, 0, none⟩), u5, .pointer (some ⟨wr.heap.size, 0, none⟩), .pointer (some ⟨wr.heap.size + 1, 0, none⟩), undef, .int .i64 ((x.2.1 : Nat) : Int), .slice (some ⟨g, 0, none⟩) n c, .func (.func 53) #[] #[.pointer (some ⟨w.heap.size, 0, none⟩)],
            .func (.func 48) #[] #[.pointer (some ⟨bv, 0, none⟩), .pointer (some ⟨bn, 0, none⟩), .pointer (some ⟨bs, 0, none⟩), .pointer (some ⟨bl, 0, none⟩)], .slice (some ⟨g, 0, none⟩) n c, .int .i64 (n : Int), .int .i64 (n : Int), .bool false, u17, u18, u19, u20, u21, .slice (some ⟨g, 0, none⟩) n c, .slice (some ⟨gp, 0, none⟩) n n, .func (.func 54) #[] #[.pointer (some ⟨wr.heap.size + 1, 0, none⟩)],
            .func (.func 48) #[] #[.pointer (some ⟨bv2, 0, none⟩), .pointer (some ⟨bn2, 0, none⟩), .pointer (some ⟨bs2, 0, none⟩), .pointer (some ⟨bl2, 0, none⟩)], .slice A1 sj.2.length c1, .func (.func 76) #[] #[.pointer (some ⟨wd.heap.size, 0, none⟩)], .int .i64 x.1, .int .i64 ((x.2.1 : Nat) : Int), undef, undef, undef, undef, undef, undef, undef, undef, undef, undef, undef, undef, undef, undef, undef], defers := [] }) ?assign ?body ?done ?stop
      case assign =>
        intro l x W K hK
        gi_wp2
        exact hK
      case body =>
        rintro l pre ⟨xi, xv⟩ W hC _
        have hn2 : 1 ≤ k - 1 - 1 := by omega
        obtain ⟨st, hst⟩ : ∃ st, compFold (preds nx) n (pre.map fun x : Int × Fin n => x.2.1) (List.replicate n false, []) = st := ⟨_, rfl⟩
        rw [hst] at hC
        obtain ⟨k1, k2, k3, k4⟩ := compFold_len (preds nx) n n (pre.map fun x : Int × Fin n => x.2.1) (List.replicate n false, []) (by rw [unv_rep]; exact Nat.le_refl _) (fun x hx => by cases hx) (by rw [unv_rep]; simp)
        rw [hst] at k1 k2 k3 k4
        rw [List.length_replicate] at k1
        have HSN := Lib.hid (show compFold (preds nx) n ((pre ++ [(xi, xv)]).map fun x : Int × Fin n => x.2.1) (List.replicate n false, []) = compStep (preds nx) n st xv.1 by
          rw [List.map_append, List.map_cons, List.map_nil, compFold_snoc, hst])
        have hsW := hC.size
        rw [HNN.out] at hsW
        change W0.heap.size ≤ W.heap.size at hsW
        obtain ⟨e1, e2, e3⟩ := hC.enter HOK.out
        rw [HNN.out] at e1 e2 e3
        change Env (W.setCell ⟨wr.heap.size + 1, 0, none⟩ (.slice none 0 0)) W.heap.size wa.heap.size wp.heap.size gp bv2 gv2 bn2 bs2 bl2 54 (wr.heap.size + 1) n ds (preds nx) at e1
        change Dyn (W.setCell ⟨wr.heap.size + 1, 0, none⟩ (.slice none 0 0)) W.heap.size gv2 (wr.heap.size + 1) (st.1, []) at e2
        change (W.setCell ⟨wr.heap.size + 1, 0, none⟩ (.slice none 0 0)).heap[w1.heap.size]? = _ at e3
        obtain ⟨Ap, mp, cp, hpt⟩ := hC.part
        obtain ⟨Aa, ma, ca, hal1, hal2⟩ := hC.all
        rw [HNN.out] at hpt hal1 hal2
        change W.heap[wr.heap.size + 1]? = _ at hpt
        change W.heap[wr.heap.size]? = _ at hal1
        change All W W0.heap.size _ _ at hal2
        have HPB := Lib.hid (show ∃ A m c', W.heap[wr.heap.size + 1]? = some (.cells #[.slice A m c'] 22 (0, 0)) from ⟨_, _, _, hpt⟩)
        have hcp := box_cell hpt
        have hfp := box_free hpt
        have hcx := box_cell e3
        have eg := enters_of Tryd.func54 (by kernel_rfl) rfl
        have HX := Lib.hid (visit_any 54 eg leave_part W.heap.size wa.heap.size wp.heap.size gp bv2 gv2 bn2 bs2 bl2 (wr.heap.size + 1) n ds (preds nx) (preds_good nx) (by rw [preds_len, HN.out]; exact hn) (n + 1) xv.1 _ (st.1, []) (by rw [preds_len, HN.out]; exact xv.2) (by rw [preds_len, HN.out]; exact k1) (by show unv st.1 < n + 1; omega) (by show 0 + unv st.1 ≤ 5000; omega) e1 e2)
        have HC := Lib.hid hC
        have HST := Lib.hid hst
        have HA1 := Lib.hid hal1
        have HA2 := Lib.hid hal2
        have HCLO2 := HCLO.out
        rw [← HCLO2] at hcx
        obtain ⟨v, hv⟩ : ∃ v : Nat, xv.1 = v := ⟨_, rfl⟩
        rw [hv] at HX HSN
        simp only [hv]
        clear hC hst hpt hal1 hal2 e1 e2 e3 eg HCLO2 hv hcz hlt
        gi_wp2_with (fail)
        refine ⟨trivial, (CallsIn.inRound l (callsIn_wide.2 HX.out)).mono ?_⟩
        rintro e W2 ⟨rfl, hD2, hC2⟩
        obtain ⟨tt, htt⟩ : ∃ t, dfs (preds nx) (n + 1) v (st.1, []) = t := ⟨_, rfl⟩
        rw [htt] at hD2
        have hcst : compStep (preds nx) n st v = (tt.1, if tt.2 = [] then st.2 else st.2 ++ [sortN tt.2]) := by unfold compStep; rw [htt]
        have hts := dfs_step (preds nx) (n + 1) v (st.1, [])
        rw [htt] at hts
        have htl : tt.2.length ≤ 1000 := by
          have := hts.all
          simp only [List.length_nil, Nat.zero_add] at this
          omega
        have hsz1 : (W.setCell ⟨wr.heap.size + 1, 0, none⟩ (.slice none 0 0)).heap.size = W.heap.size := size_setCell _ _ _
        have hs2' := hC2.size
        rw [hsz1] at hs2'
        have hfar : ∀ b, b < W.heap.size → b ≠ gv2 → b ≠ wr.heap.size + 1 → W2.heap[b]? = W.heap[b]? := fun b h1 h2 h3 => (hC2.block b (by rw [hsz1]; exact h1) (by rintro (h | h | h) <;> omega)).trans (Below.heap_setCell _ _ _ _ h3)
        obtain ⟨sv, hsb, hso⟩ := hD2.out
        obtain ⟨A2, c2, rfl, _, _⟩ := hso.slice
        have hpart2 : ∃ A m c', W2.heap[wr.heap.size + 1]? = some (.cells #[.slice A m c'] 22 (0, 0)) := ⟨_, _, _, hsb⟩
        have CI2 : CInv NN n w.heap.size ds (preds nx) clo w (tt.1, st.2) W2 :=
          HC.out.far HOK.out (by rw [HNN.out]; exact ⟨by show w.heap.size ≤ gv2; omega, by show w.heap.size ≤ wr.heap.size + 1; omega, by omega⟩) hs2' hC2.os hC2.tape hC2.output (by rw [HNN.out]; exact hfar) (by rw [HNN.out]; exact hD2.vis) (by rw [HNN.out]; exact hpart2)
        have hvis0 := HC.out.vis
        rw [HNN.out] at hvis0
        change W.heap[gv2]? = _ at hvis0
        have HPT := Lib.hid hfp
        have hKO2 : KeepsOthers W W2 := ⟨hs2', fun q o hq ho => (hfar q (heap_lt hq) (fun e => by subst e; rw [hvis0] at hq; injection hq with hq; subst hq; cases ho) (fun e => by subst e; obtain ⟨A, m, c', h⟩ := HPB.out; rw [h] at hq; injection hq with hq; subst hq; cases ho)).trans hq⟩
        have hKX2 : Keeps (fun b => b = wd.heap.size ∨ (w2.heap.size ≤ b ∧ b < wr.heap.size)) W W2 := ⟨hs2', fun b hb => hfar b (by omega) (by omega) (by omega)⟩
        have hcs2 := box_cell hsb
        have HCI2 := Lib.hid CI2
        have HKO2 := Lib.hid hKO2
        have HKX2 := Lib.hid hKX2
        have HSB := Lib.hid hsb
        have HSO := Lib.hid hso
        have HCST := Lib.hid hcst
        have HFAR := Lib.hid hfar
        have HOS := Lib.hid (show W2.os = W.os ∧ W2.tape = W.tape ∧ W2.output = W.output ∧ W2.heap[gv2]? = some (.cells (tt.1.map Value.bool).toArray 4 (0, 0)) from ⟨hC2.os, hC2.tape, hC2.output, hD2.vis⟩)
        by_cases hempty : tt.2.length = 0
        · have hnil : tt.2 = [] := List.eq_nil_of_length_eq_zero hempty
          have HNIL := Lib.hid hnil
          rw [hempty] at hcs2
          clear hD2 htt hcst hts hfar hsb hso hpart2 CI2 hvis0 hKO2 hKX2 hempty hnil hC2
          gi_wp2_with (fail)
          exact ⟨HKO2.out.from _, HKX2.out, by dsimp only; rw [HSN.out, HCST.out, if_pos HNIL.out]; exact HCI2.out⟩
        · have hpos : (0 : Int) < tt.2.length := by omega
          have hpos2 : 0 < tt.2.length := by omega
          have hne : tt.2 ≠ [] := List.length_pos_iff.1 hpos2
          have HNE := Lib.hid hne
          have HSRT := Lib.hid (sort_own W.heap.size (.slice A2 tt.2.length c2) _ W2 (own_iff.1 hso) (by rw [List.length_map]; omega))
          have hslt := Lib.hid hso.lt
          clear hD2 htt hcst hts hfar hsb hso hpart2 CI2 hvis0 hKO2 hKX2 hempty hne hC2
          gi_wp2_with (fail)
          refine ⟨trivial, (CallsIn.inRound l (callsIn_wide.2 HSRT.out)).mono ?_⟩
          rintro e W3 ⟨rfl, ho3, hg3⟩
          have hs3 := hg3.size
          have hsvn : ∀ b, b < W.heap.size → some b ≠ (Value.slice A2 tt.2.length c2).ownBlock := fun b hb e => by have := (hslt.out b e.symm).1; omega
          have hcb3 := hg3.cell hcs2 (hsvn _ (by show wr.heap.size + 1 < W.heap.size; omega))
          have hk3 : ∀ b, b < W.heap.size → b ≠ gv2 → b ≠ wr.heap.size + 1 → W3.heap[b]? = W.heap[b]? := fun b h1 h2 h3 => (hg3.block b (by omega) (hsvn b h1)).trans (HFAR.out b h1 h2 h3)
          have hba3 := (hk3 wr.heap.size (by omega) (by omega) (by omega)).trans HA1.out
          have hca3 := box_cell hba3
          have hfa3 := box_free hba3
          have hso3 : Own W3 W.heap.size (.slice A2 tt.2.length c2) (sortN tt.2) := own_iff.2 (by
            have := sortN_ints tt.2
            unfold sortI ints at this
            rw [← this]
            exact ho3)
          have hall3 : All W3 W0.heap.size (.slice Aa ma ca) st.2 := HA2.out.keep fun b C t hb hc => hk3 b (heap_lt hc) (by omega) (by omega)
          have CI3 : CInv NN n w.heap.size ds (preds nx) clo w (tt.1, st.2) W3 := by
            refine HC.out.far HOK.out (by rw [HNN.out]; exact ⟨by show w.heap.size ≤ gv2; omega, by show w.heap.size ≤ wr.heap.size + 1; omega, by omega⟩) (Nat.le_trans hs2' hs3) (hg3.os.trans (HOS.out.1)) (hg3.tape.trans HOS.out.2.1) (hg3.output.trans HOS.out.2.2.1) (by rw [HNN.out]; exact hk3) ?_ ?_
            · rw [HNN.out]
              exact (hg3.block gv2 (by omega) (hsvn _ (by omega))).trans HOS.out.2.2.2
            · rw [HNN.out]
              exact ⟨_, _, _, (hg3.block (wr.heap.size + 1) (by omega) (hsvn _ (by omega))).trans HSB.out⟩
          obtain ⟨vs, how3, hrw3⟩ := hall3
          have hval := Lib.hid (World.ownsRow.lt how3)
          have hstl : st.2.length ≤ 1000 := by omega
          obtain ⟨ma', hma⟩ : ∃ m, st.2.length = m := ⟨_, rfl⟩
          obtain ⟨i0, hi0, hz0, hz1, hz2⟩ := info_parts info_ints
          have hnal : some wr.heap.size ≠ (Value.slice Aa ma ca).ownBlock := fun e => by have := (hval.out _ e.symm).1; omega
          have HO4 := Lib.hid (own_of_block (w' := W3.alloc (.cells #[.slice A2 tt.2.length c2] 22)) how3 (fun b hb => Below.heap_alloc _ _ _ (hval.out b hb).2))
          have HO3 := Lib.hid how3
          have HRW3 := Lib.hid hrw3
          have HCI3 := Lib.hid CI3
          have HSO3 := Lib.hid hso3
          have HG3 := Lib.hid hg3
          have HK3 := Lib.hid hk3
          have HSO2 := Lib.hid (own_cells HSO.out)
          have HSV := Lib.hid hsvn
          clear ho3 hk3 hba3 hso3 CI3 how3 hrw3 hcs2 hg3 hma hsvn
          gi_wp2_with (gi_at_builtin
                       refine wpListIn_append_own _ rfl (.tmp 38) (.tmp 40) 37 rfl W0.heap.size 22 i0 _ 1 24 Tryd.underlying37 hi0 hz0 hz1 hz2 rfl (by decide) (.slice Aa ma ca) st.2.length vs rfl HO4.out ⟨W3.heap.size, 0, none⟩ 1 1 [.slice A2 tt.2.length c2] rfl rfl (fun j u hu => cell_one_new W3 _ _ j u hu) (by simp [Value.oneCell']) (by simp only [maxLen]; omega) (by omega) (by simp; omega) ?_
                       intro v' W5 hown5 hg5 _
                       obtain ⟨A5, c5, rfl, _, _⟩ := own_slice hown5
                       have hca5 := hg5.cell ((World.cell?_alloc_lt W3 _ _ (by show wr.heap.size < _; omega)).trans hca3) hnal
                       have hfa5 : W5.frozen? ⟨wr.heap.size, 0, none⟩ = false := (World.frozen?_of_block (hg5.block wr.heap.size (by simp; omega) hnal)).trans ((World.frozen?_alloc_old W3 _ _ (by show wr.heap.size ≠ _; omega)).trans hfa3))
          have hA5 := All.push HO3.out HRW3.out (HSO3.out.base_ fun b hb => by have := (HSO3.out.lt b hb).1; omega) hg5 hown5
          have hCI6 := HCI3.out.push (av := .slice Aa ma ca) HOK.out (by rw [HNN.out]; show w.heap.size ≤ wr.heap.size; omega) (by rw [HNN.out]; exact fun b hb => (hval.out b hb).1) hg5 (by rw [HNN.out]; exact hA5)
          have hgs5 := hg5.size
          simp at hgs5
          refine ⟨KeepsOthers.from ?_ _, ?_, by dsimp only; rw [HSN.out, HCST.out, if_neg HNE.out]; rw [HNN.out] at hCI6; rw [HNN.out]; exact hCI6⟩
          · exact (((HKO2.out.trans (KeepsOthers.of_grownBy HG3.out HSO2.out)).trans (KeepsOthers.alloc _ _)).trans (KeepsOthers.of_grownBy hg5 (own_cells HO4.out))).trans (KeepsOthers.setCell _ _ _)
          · refine HKX2.out.trans (Keeps.setCell ⟨by omega, fun b hb => ?_⟩ (by omega) _)
            have hbW : b < W.heap.size := by omega
            rw [hg5.block b (by simp; omega) (fun e => by have := (hval.out b e.symm).1; omega), Below.heap_alloc _ _ _ (by omega)]
            exact HG3.out.block b (by omega) (HSV.out b hbW)
      case done =>
        rintro D ys W hD rfl hC hK
        have hvals : (back zs).map (fun x : Int × Fin n => x.2.1) = (leftOf nx).reverse := by
          rw [← HLEFT.out, ← HZS.out, ← List.map_reverse, ← back_vals, List.map_map]
          rfl
        rw [hvals] at hC
        have hparts : (compFold (preds nx) n (leftOf nx).reverse (List.replicate n false, [])).2 = partsOf nx := by unfold partsOf; rw [HN.out]
        obtain ⟨_, _, hpl, hpn⟩ := compFold_len (preds nx) n n (leftOf nx).reverse (List.replicate n false, []) (by rw [unv_rep]; exact Nat.le_refl _) (fun x hx => by cases hx) (by rw [unv_rep]; simp)
        rw [hparts] at hpl hpn
        obtain ⟨A3, m3, c3, ha1, ha2⟩ := hC.all
        rw [hparts] at ha2
        rw [HNN.out] at ha1 ha2
        have hBW := hC.below
        have hsW := hC.size
        rw [HNN.out] at hsW
        change All W W0.heap.size _ _ at ha2
        change W.heap[wr.heap.size]? = _ at ha1
        change W0.heap.size ≤ W.heap.size at hsW
        have hca := box_cell ha1
        have HSF := Lib.hid (sortFunc_own W0.heap.size (.slice A3 m3 c3) (partsOf nx) W ha2 (by omega) (fun l hl => by have := hpl l hl; omega))
        have hna : (Value.slice A3 m3 c3).ownBlock ≠ some wr.heap.size := fun e => by
          obtain ⟨vs, h1, _⟩ := ha2
          have := (World.ownsRow.lt h1 _ e).1
          omega
        have hnD : (Value.slice A3 m3 c3).ownBlock ≠ some D := fun e => by
          obtain ⟨vs, h1, _⟩ := ha2
          rcases h1.2 with ⟨e1, _⟩ | ⟨g', _, _, e1, _, h2, _⟩
          · rw [e1] at e; cases e
          · rw [e1] at e
            have e2 : g' = D := by simpa [Value.ownBlock] using e
            subst e2
            rw [hK] at h2
            injection h2 with h2
            cases h2
        have hloA : ∀ r, (Value.slice A3 m3 c3).ownBlock = some r → w.heap.size ≤ r := fun r e => by
          obtain ⟨vs, h1, _⟩ := ha2
          have := (World.ownsRow.lt h1 _ e).1
          omega
        have HLOA := Lib.hid hloA
        have HK := Lib.hid hK
        have HA1 := Lib.hid ha1
        have HBW := Lib.hid hBW
        clear hC hK ha1 ha2 hpl hparts hvals hBW hloA hcz
        gi_wp2_with (fail)
        refine ⟨trivial, (callsIn_wide.2 HSF.out).mono ?_⟩
        rintro e W3 ⟨rfl, ⟨ys, hys1, hys2, hys3⟩, hg3⟩
        have hca3 := box_cell ((hg3.block wr.heap.size (by omega) (Ne.symm hna)).trans HA1.out)
        have hK3 := (hg3.block D (heap_lt HK.out) (Ne.symm hnD)).trans HK.out
        have HK3 := Lib.hid hK3
        have HY1 := Lib.hid hys1
        have hB3 := HBW.out.grown hg3 (by omega) HLOA.out
        have HB3 := Lib.hid hB3
        clear hK3 hys1 hB3
        gi_wp2_with (fail)
        refine ⟨by simp, .inl ⟨_, _, rfl, run_takeDeferred HK3.out, ?_⟩⟩
        refine ⟨_, results_tmp rfl _ _ _, _, ys, rfl, ?_, hys2, hys3, HB3.out.trans (belowK_b (w := w) (Nat.le_refl _) W3 D _ _ (by omega) HK3.out rfl rfl)⟩
        refine (HY1.out.more (by omega)).keep fun b C t _ hb => World.putObj_heap_other fun e => ?_
        rw [e, HK3.out] at hb
        injection hb with hb
        cases hb
      case stop =>
        rintro D c pre W _ _ h _
        exact h.elim
theorem components_any (g lo hi c : Nat) (cs : Array Value) (nx : List (List Nat)) (w : World) (hn : nx.length ≤ 1000) (hR : Rows2 w lo hi g cs nx) (hh : hi ≤ w.heap.size) (hg : Good nx) :
    Calls Tryd.prog 39 #[.slice (some ⟨g, 0, none⟩) nx.length c] w fun e W' => ∃ av ys, e = .returned av ∧ All W' w.heap.size av ys ∧ ys.Perm (partsOf nx) ∧ ys.Pairwise (fun a b => cmpL a b ≤ 0) ∧ Below w.heap.size w W' :=
  (callsIn_wide (n := 3)).1 (components_in 3 (by omega) g lo hi c cs nx w hn hR hh hg)
end Go.Proofs.YtdebnnigbbjbcaaDoor

namespace Go.Proofs.YtdebnnigbbjbcaaDoor
open Go Go.RowKit Go.Sort Go.Proofs Go.Lib

/-- The home of vertex v. -/
def homeAt (H : List Nat) (v : Nat) : Nat := H[v]?.getD 0
/-- What the predicate reads. -/
structure HomeIn (W : World) (gh hb vb n v : Nat) (H : List Nat) : Prop where
  box : W.heap[hb]? = some (.cells #[.slice (some ⟨gh, 0, none⟩) n n] 22 (0, 0))
  var : W.heap[vb]? = some (.cells #[.int .i64 (v : Int)] 3 (0, 0))
  dat : W.heap[gh]? = some (.cells (H.map nv).toArray 3 (0, 0))
  len : H.length = n
  lt : v < n
theorem HomeIn.keep {W W' : World} {gh hb vb n v : Nat} {H : List Nat} (h : HomeIn W gh hb vb n v H) (hk : ∀ b, b = gh ∨ b = hb ∨ b = vb → W'.heap[b]? = W.heap[b]?) : HomeIn W' gh hb vb n v H :=
  ⟨(hk _ (.inr (.inl rfl))).trans h.box, (hk _ (.inr (.inr rfl))).trans h.var, (hk _ (.inl rfl)).trans h.dat, h.len, h.lt⟩
theorem dat_cell {W : World} {gh : Nat} {H : List Nat} (h : W.heap[gh]? = some (.cells (H.map nv).toArray 3 (0, 0))) {x : Nat} (hx : x < H.length) : W.cell? ⟨gh, x, none⟩ = some (.int .i64 ((homeAt H x : Nat) : Int)) := by
  rw [cell_of_row W gh x _ 3 (0, 0) h]
  unfold homeAt
  simp [List.getElem?_eq_getElem hx]
  rfl
set_option maxHeartbeats 1000000 in
theorem pred_gives {W : World} {gh hb vb n v : Nat} {H : List Nat} (h : HomeIn W gh hb vb n v H) (x : Fin n) :
    FnGives Tryd.prog 52 #[.pointer (some ⟨hb, 0, none⟩), .pointer (some ⟨vb, 0, none⟩)] #[.int .i64 ((x.1 : Nat) : Int)] (.bool (!decide (homeAt H x.1 = homeAt H v))) W := by
  have c1 := box_cell h.box
  have c2 := box_cell h.var
  have c3 := dat_cell h.dat (x := x.1) (by rw [h.len]; exact x.2)
  have c4 := dat_cell h.dat (x := v) (by rw [h.len]; exact h.lt)
  obtain ⟨a, ha⟩ : ∃ a, homeAt H x.1 = a := ⟨_, rfl⟩
  obtain ⟨b, hb'⟩ : ∃ b, homeAt H v = b := ⟨_, rfl⟩
  rw [ha] at c3 ⊢
  rw [hb'] at c4 ⊢
  have hxl := x.2
  have hvl := h.lt
  obtain ⟨y, hy⟩ : ∃ y : Nat, x.1 = y := ⟨_, rfl⟩
  rw [hy] at c3 hxl ⊢
  have hy0 : (0 : Int) ≤ (y : Int) := by omega
  have hy1 : (y : Int) < (n : Int) := by omega
  have hv0 : (0 : Int) ≤ (v : Int) := by omega
  have hv1 : (v : Int) < (n : Int) := by omega
  clear ha hb' hy h
  show Calls Tryd.prog 52 #[.int .i64 (y : Int), .pointer (some ⟨hb, 0, none⟩), .pointer (some ⟨vb, 0, none⟩)] W _
  by_cases hab : a = b
  · subst hab
    go_enter Tryd.func52, Tryd.ntmps52
    go_wp2
    go_quiet (fail)
    all_goals go_wp2
    all_goals
      go_ret
      exact ⟨by simp, _, rfl⟩
  · have hab1 : ((a : Int) != (b : Int)) = true := by simp; omega
    have HAB := Lib.hid (show (!decide (a = b)) = true by simp [hab])
    clear hab
    go_enter Tryd.func52, Tryd.ntmps52
    go_wp2
    go_quiet (fail)
    all_goals go_wp2
    all_goals
      go_ret
      exact ⟨by rw [HAB.out]; rfl, _, rfl⟩

set_option maxHeartbeats 1000000 in
theorem delete_nil (A : Option Addr) (c : Nat) (fv : Value) (W : World) : Calls Tryd.prog 51 #[.slice A 0 c, fv] W fun e w' => e = .returned (.slice A 0 c) ∧ W = w' := by
  have hi := Tryd.slices_IndexFunc_empty (α := Int) A c fv W
  go_enter Tryd.func51, Tryd.ntmps51
  go_wp2_with (go_at_call 75; refine hi.mono ?_; rintro e w' ⟨rfl, rfl⟩)
  go_ret
  exact ⟨rfl, rfl⟩

theorem delete_own (lo : Nat) (sv : Value) (l : List Nat) (W : World) {gh hb vb n v : Nat} {H : List Nat} (hH : HomeIn W gh hb vb n v H) (ho : Own W lo sv l) (hl : ∀ x ∈ l, x < n) (hn : l.length ≤ 100000)
    (hne : ∀ b, sv.ownBlock = some b → b ≠ gh ∧ b ≠ hb ∧ b ≠ vb) :
    Calls Tryd.prog 51 #[sv, .func (.func 52) #[] #[.pointer (some ⟨hb, 0, none⟩), .pointer (some ⟨vb, 0, none⟩)]] W fun e W' => ∃ v', e = .returned v' ∧ Own W' lo v' (l.filter fun x => decide (homeAt H x = homeAt H v)) ∧ W.grownBy W' sv.ownBlock ∧ ∀ b, v'.ownBlock = some b → sv.ownBlock = some b := by
  rcases Nat.eq_zero_or_pos l.length with h0 | hpos
  · have hx : l = [] := List.eq_nil_of_length_eq_zero h0
    subst hx
    obtain ⟨A, c, rfl, _, _⟩ := ho.slice
    refine (delete_nil A c _ W).mono ?_
    rintro e W' ⟨rfl, rfl⟩
    exact ⟨_, rfl, ho, ⟨rfl, rfl, rfl, Nat.le_refl _, fun _ _ _ => rfl⟩, fun _ h => h⟩
  · have ho' := ho
    rw [own_iff] at ho'
    rcases ownI_form ho' with ⟨rfl, h0⟩ | ⟨g, cap, cur, rfl, hbase, hb', h1, h2, h3, h4⟩
    · rw [List.map_eq_nil_iff] at h0
      subst h0
      simp at hpos
    · rw [List.length_map] at h1 h4
      have hn0 : 0 < n := by have := hH.lt; omega
      obtain ⟨zs, hzs⟩ := exists_fin n l hl
      haveI : Inhabited (Fin n) := ⟨⟨0, hn0⟩⟩
      have hzl : zs.length = l.length := by rw [← hzs, List.length_map]
      have hgl := heap_lt hb'
      obtain ⟨n1, n2, n3⟩ := hne g rfl
      have hHolds : Holds (fun x : Fin n => Value.int .i64 ((x.1 : Nat) : Int)) W g 0 zs.toArray := by
        intro j hj
        have hj' : j < zs.length := by simpa using hj
        rw [Nat.zero_add]
        refine ⟨?_, by simp [World.frozen?, hb']⟩
        rw [cell_of_row W g j cur 3 (0, 0) hb']
        have hjl : j < l.length := by omega
        have h5 : (cur.toList.take l.length)[j]? = ((l.map fun n : Nat => (n : Int)).map (Value.int .i64))[j]? := by rw [← h4]
        rw [List.getElem?_take_of_lt hjl, Array.getElem?_toList] at h5
        rw [h5, ← hzs, List.getElem?_map, List.getElem?_map, List.getElem?_map, List.getElem?_eq_getElem hj', getElem!_pos zs.toArray j hj]
        simp
      have hpred : PredAt Tryd.prog 52 #[.pointer (some ⟨hb, 0, none⟩), .pointer (some ⟨vb, 0, none⟩)] (fun x : Fin n => Value.int .i64 ((x.1 : Nat) : Int)) (fun x => !decide (homeAt H x.1 = homeAt H v)) W :=
        fun W' x hbel => pred_gives (hH.keep fun b hb => hbel.block b (by
          rcases hb with rfl | rfl | rfl
          · exact heap_lt hH.dat
          · exact heap_lt hH.box
          · exact heap_lt hH.var)) x
      have hover : PredOver Tryd.prog 52 #[.pointer (some ⟨hb, 0, none⟩), .pointer (some ⟨vb, 0, none⟩)] (fun x : Fin n => Value.int .i64 ((x.1 : Nat) : Int)) (fun x => !decide (homeAt H x.1 = homeAt H v)) g 0 zs.toArray.size W :=
        fun m os dk x _ => pred_gives (hH.keep fun b hb => by
          have hbl : b < W.heap.size := by
            rcases hb with rfl | rfl | rfl
            · exact heap_lt hH.dat
            · exact heap_lt hH.box
            · exact heap_lt hH.var
          have hbg : g ≠ b := by
            rcases hb with rfl | rfl | rfl
            · exact n1
            · exact n2
            · exact n3
          unfold sortWorld
          rw [heap_grow_old _ _ (by simpa using hbl)]
          simp [putRow, mapBlock, Sort.ahead, Array.getElem?_modify, hbg]) x
      have eg := enters_of Tryd.func52 (by kernel_rfl) rfl
      have hcon := Tryd.slices_DeleteFunc (fun x : Fin n => Value.int .i64 ((x.1 : Nat) : Int)) (fun _ => rfl) (fun x => !decide (homeAt H x.1 = homeAt H v)) 52 #[.pointer (some ⟨hb, 0, none⟩), .pointer (some ⟨vb, 0, none⟩)] eg (⟨0, hn0⟩ : Fin n) Tryd.zeroValue3 g 0 cap zs.toArray W hpred hover hHolds (by simp; omega) (by simp; omega)
      simp only [List.size_toArray, Bool.not_not, hzl] at hcon
      rw [List.length_map]
      refine hcon.mono ?_
      rintro e W' ⟨rfl, q, rfl⟩
      have hfm : (zs.filter fun x => decide (homeAt H x.1 = homeAt H v)).map Fin.val = l.filter fun x => decide (homeAt H x = homeAt H v) := by
        rw [← hzs, List.filter_map]
        rfl
      have hfl : (zs.filter fun x => decide (homeAt H x.1 = homeAt H v)).length ≤ l.length := by
        have := List.length_filter_le (fun x : Fin n => decide (homeAt H x.1 = homeAt H v)) zs
        omega
      refine ⟨_, rfl, ?_, ?_, fun _ h => h⟩
      · obtain ⟨ks, hks⟩ : ∃ ks, (zs.filter fun x => decide (homeAt H x.1 = homeAt H v)) = ks := ⟨_, rfl⟩
        rw [← hfm, hks]
        rw [hks] at hfl
        have hh := heap_sortedE (enc := fun x : Fin n => Value.int .i64 ((x.1 : Nat) : Int)) (w := W) (g := g) (n := q) (os := #[]) (ks ++ List.replicate (l.length - ks.length) (⟨0, hn0⟩ : Fin n)).toArray hb'
        rw [grow_empty] at hh
        refine ⟨by simp, .inr ⟨g, cap, _, by simp, hbase, hh, by simp; omega, h2, by simp [putCells, h3], ?_⟩⟩
        have ht := take_putCellsE (enc := fun x : Fin n => Value.int .i64 ((x.1 : Nat) : Int)) cur (ks ++ List.replicate (l.length - ks.length) (⟨0, hn0⟩ : Fin n)).toArray (by simp; omega)
        have h6 := congrArg (List.take ks.length) ht
        rw [List.take_take, Nat.min_eq_left (by simp)] at h6
        rw [List.length_map, Nat.mul_one, h6]
        simp only [List.map_append, List.take_left' (List.length_map _), List.map_map]
        rfl
      · have := grownBy_sortedE (enc := fun x : Fin n => Value.int .i64 ((x.1 : Nat) : Int)) (w := W) (g := g) (n := q) (os := #[]) (zs.filter (fun x => decide (homeAt H x.1 = homeAt H v)) ++ List.replicate (l.length - (zs.filter fun x => decide (homeAt H x.1 = homeAt H v)).length) (⟨0, hn0⟩ : Fin n)).toArray
        rw [grow_empty] at this
        exact this
end Go.Proofs.YtdebnnigbbjbcaaDoor
