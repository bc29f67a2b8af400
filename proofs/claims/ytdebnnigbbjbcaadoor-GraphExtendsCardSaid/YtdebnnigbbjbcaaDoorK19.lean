/-
  The contract of the reference's Components: the components by their smallest vertices. Condition: the edges' ends are vertices; few vertices.
  The reference's Same at two lists of the same rows; graph.Components gives the components in order. Conditions: few vertices, the edges' ends are vertices.
-/
import Derived.Test.YtdebnnigbbjbcaaDoorK18
import Derived.Test.YtdebnnigbbjbcaaDoorK6
import Derived.Test.YtdebnnigbbjbcaaDoorK12
import Derived.Test.YtdebnnigbbjbcaaDoorK14
import Derived.Test.YtdebnnigbbjbcaaDoorK16
import Derived.Test.YtdebnnigbbjbcaaDoorK2
import Derived.Deep.RegionWith

namespace Go.Proofs.YtdebnnigbbjbcaaDoor
open Go Go.RowKit

theorem All.below {W W' : World} {lo B : Nat} {av : Value} {xs : List (List Nat)} (h : All W lo av xs) (hb : Below B W W') (hB : W.heap.size ≤ B) : All W' lo av xs := h.keep fun b _ _ _ hc => hb.block b (Nat.lt_of_lt_of_le (heap_lt hc) hB)
theorem All.form {W : World} {lo : Nat} {av : Value} {xs : List (List Nat)} (h : All W lo av xs) : ∃ A c, av = .slice A xs.length c := by
  obtain ⟨vs, ho, _⟩ := h
  obtain ⟨A, c, rfl, _, _⟩ := own_slice ho
  exact ⟨A, c, rfl⟩
theorem fromV_one {n v : Nat} (h : v < n) : fromV n [(v : Int)] = [v] := by
  unfold fromV
  rw [List.filter_cons, if_pos (by simp; omega)]
  rfl
theorem both_rset {nx : List (List Nat)} {v w : Nat} (hv : v < nx.length) (hw : w < nx.length) : (decide (w ∈ rset nx [v]) && decide (v ∈ rset nx [w])) = @decide (Both nx v w) (Classical.propDecidable _) := by
  have h1 : w ∈ rset nx [v] ↔ Rch nx v w := by rw [rset_mem]; simp [hw]
  have h2 : v ∈ rset nx [w] ↔ Rch nx w v := by rw [rset_mem]; simp [hv]
  rw [Bool.eq_iff_iff, Bool.and_eq_true, decide_eq_true_eq, decide_eq_true_eq, h1, h2]
  exact ⟨fun h => @decide_eq_true _ (Classical.propDecidable _) h, fun h => @of_decide_eq_true _ (Classical.propDecidable _) h⟩
/-- The component of v, up to vertex k. -/
noncomputable def clsTo (nx : List (List Nat)) (v k : Nat) : List Nat := (List.range k).filter fun w => @decide (Both nx v w) (Classical.propDecidable _)
theorem clsTo_succ (nx : List (List Nat)) (v k : Nat) : clsTo nx v (k + 1) = if @decide (Both nx v k) (Classical.propDecidable _) = true then clsTo nx v k ++ [k] else clsTo nx v k := by
  unfold clsTo
  rw [List.range_succ, List.filter_append]
  cases h : @decide (Both nx v k) (Classical.propDecidable _) <;> simp [h]
theorem clsTo_len (nx : List (List Nat)) (v k : Nat) : (clsTo nx v k).length ≤ k := by
  unfold clsTo
  have := List.length_filter_le (fun w => @decide (Both nx v w) (Classical.propDecidable _)) (List.range k)
  rw [List.length_range] at this
  exact this
noncomputable def compsTo (nx : List (List Nat)) (k : Nat) : List (List Nat) := ((List.range k).filter fun v => decide ((cls nx v)[0]? = some v)).map (cls nx)
theorem compsTo_succ (nx : List (List Nat)) (k : Nat) : compsTo nx (k + 1) = if (cls nx k)[0]? = some k then compsTo nx k ++ [cls nx k] else compsTo nx k := by
  unfold compsTo
  rw [List.range_succ, List.filter_append, List.map_append]
  by_cases h : (cls nx k)[0]? = some k
  · rw [if_pos h, List.filter_cons, if_pos (by simpa using h)]
    rfl
  · rw [if_neg h, List.filter_cons, if_neg (by simpa using h)]
    simp
theorem compsTo_len (nx : List (List Nat)) (k : Nat) : (compsTo nx k).length ≤ k := by
  unfold compsTo
  rw [List.length_map]
  have := List.length_filter_le (fun v => decide ((cls nx v)[0]? = some v)) (List.range k)
  rw [List.length_range] at this
  exact this

set_option maxRecDepth 100000 in
set_option maxHeartbeats 4000000 in
theorem refcomp_any (B n m c : Nat) (A : Option Addr) (E : List (Nat × Nat)) (w : World) (hn : n ≤ 100) (hm : m ≤ 1000) (hB0 : B ≤ w.heap.size) (hE : Edg w B A m E) (hd : ∀ e ∈ E, e.1 < n ∧ e.2 < n) :
    Calls Tryd.prog 25 #[.int .i64 n, .slice A m c] w fun e w' => ∃ v, e = .returned v ∧ All w' w.heap.size v (comps (succs n E)) ∧ Below w.heap.size w w' := by
  obtain ⟨i0, hi0, hz0, hz1, hz2⟩ := info_parts info_int
  obtain ⟨i1, hi1, hy0, hy1, hy2⟩ := info_parts info_ints
  have HE := Lib.hid hE
  have HD := Lib.hid hd
  obtain ⟨nx, hnx⟩ : ∃ nx, succs n E = nx := ⟨_, rfl⟩
  have hnl : nx.length = n := by rw [← hnx, succs_len]
  have HRCH := Lib.hid (fun (W : World) (hB : Below w.heap.size w W) (F : Option Addr) (cf : Nat) (v : Nat) (hv : v < n) (hF : Ints .i64 W.heap.size W F 1 [(v : Int)]) => refreach_any W.heap.size n m c 1 cf A F E [(v : Int)] W (by omega) hm (Nat.le_refl _) ((hE.below (hB.mono hB0)).more (by have := hB.size; omega)) hd hF (by omega))
  rw [hnx] at HRCH ⊢
  have HNL := Lib.hid hnl
  clear hE hd hnx hnl
  go_enter Tryd.func25, Tryd.ntmps25
  go_wp2_with fail
  go_loopw [5, 6] (fun o i wr => ∃ j : Nat, j ≤ n ∧ i = .int .i64 j ∧ All wr w.heap.size o ((List.range j).map fun v => rset nx [v]) ∧ Below w.heap.size w wr) (fun _ i _ => n - (intOf i).toNat)
  case atStart => exact ⟨0, Nat.zero_le _, rfl, All.nil _ _, Below.refl _ _⟩
  case round =>
    obtain ⟨j, hj, rfl, hall, hB⟩ := hrel
    obtain ⟨oA, oc, rfl⟩ := hall.form
    rw [List.length_map, List.length_range] at *
    have hsz := hB.size
    have HALL := Lib.hid hall
    obtain ⟨wo, hwo⟩ : ∃ W, W = wr := ⟨_, rfl⟩
    subst hwo
    by_cases hlt : j < n
    · have HR := Lib.hid (HRCH.out (wo.alloc (.cells #[.int .i64 (j : Int)] 3)) (hB.alloc hsz _) (some ⟨wo.heap.size, 0, none⟩) 1 j hlt ⟨rfl, fun _ => ⟨wo.heap.size, 0, rfl, by simp, fun i hi => by
        obtain rfl : i = 0 := by omega
        exact cell_of_row _ wo.heap.size 0 _ _ (0, 0) (World.alloc_heap_new wo _)⟩⟩)
      rw [fromV_one hlt] at HR
      clear hall
      go_wp2_with (first
        | (go_at_call 20
           refine HR.out.mono ?_
           rintro e w2 ⟨v2, rfl, ho2, hB2⟩
           have hb2 : Below wo.heap.size wo w2 := ((Below.refl wo.heap.size wo).alloc (Nat.le_refl _) (.cells #[.int .i64 (j : Int)] 3)).trans (hB2.mono (by simp))
           have HB2 := Lib.hid (hB.trans (hb2.mono hsz))
           have hs2 := hb2.size
           have ha2 := HALL.out.below hb2 (Nat.le_refl _)
           obtain ⟨vs, hvo, hvr⟩ := ha2
           have HVO := Lib.hid hvo
           have HVR := Lib.hid hvr
           have HOA := Lib.hid (show (w2.alloc (.cells #[v2] 22)).ownsRow w.heap.size 22 1 (.slice oA j oc) j vs from by
             have h4 := own_of_block (w' := w2.alloc (.cells #[v2] 22)) hvo (fun b hb => Below.heap_alloc _ _ _ (World.ownsRow.lt hvo b hb).2)
             rw [List.length_map, List.length_range] at h4
             exact h4)
           have HO2 := Lib.hid (show Own w2 w.heap.size v2 (rset nx [j]) from ho2.base_ fun b hb => by have := (ho2.lt b hb).1; simp at this; omega)
           obtain ⟨A2, c2, rfl, _, _⟩ := ho2.slice
           clear ho2 hB2 hvo hvr hb2)
        | (at_builtin
           refine wpList_append_lies _ rfl (.tmp 16) (.tmp 22) 37 rfl w.heap.size 22 i1 _ 1 24 Tryd.underlying37 hi1 hy0 hy1 hy2 rfl (by decide) (.slice oA j oc) j vs rfl HOA.out ⟨_, 0, none⟩ 1 1 [_] rfl rfl (fun j u hu => cell_one_new _ _ _ j u hu) (by simp [Value.oneCell']) (by decide) (by simp only [maxLen]; omega) (by omega) (by simp; omega) _ rfl ?_
           intro g7 c7 w7 hown7 hgrow7 hat7 hlt7
           have hP := All.push HVO.out HVR.out HO2.out hgrow7 (by rw [List.length_map, List.length_range]; exact hown7)
           have HP := Lib.hid hP
           have HB7 := Lib.hid ((HB2.out.alloc (by omega) _).grown hgrow7 (by simp; omega) (fun b e => (World.ownsRow.lt HVO.out b e).1))
           clear hP hown7 hgrow7 hat7))
      go_roundw
      case rel => exact ⟨j + 1, by omega, by go_num, by rw [List.range_succ, List.map_append]; exact HP.out, HB7.out⟩
      case measure => simp [intOf]; omega
    · obtain rfl : n = j := by omega
      have hrow : ∀ v, v < n → ∃ gA Av cv, oA = some ⟨gA, 0, none⟩ ∧ gA < wo.heap.size ∧ wo.cell? ⟨gA, v, none⟩ = some (.slice Av (rset nx [v]).length cv) ∧ Own wo w.heap.size (.slice Av (rset nx [v]).length cv) (rset nx [v]) := by
        intro v hv
        obtain ⟨_, h1⟩ := hall.at_ (k := v)
        obtain ⟨gA, sv, l, e1, e2, e3, e4, e5⟩ := h1 (by rw [List.length_map, List.length_range]; exact hv)
        rw [List.getElem?_map, List.getElem?_range hv] at e3
        injection e3 with e3
        subst e3
        obtain ⟨Av, cv, rfl, _, _⟩ := e4.slice
        exact ⟨gA, Av, cv, e1, e2, e5, e4⟩
      have HROW := Lib.hid hrow
      have hro : ∀ v, (rset nx [v]).length ≤ 100 := fun v => by have := rset_len nx [v]; rw [HNL.out] at this; omega
      clear hall hrow
      go_wp2_with fail
      go_loopw [7, 8] (fun o i wr => ∃ j : Nat, j ≤ n ∧ i = .int .i64 j ∧ All wr wo.heap.size o (compsTo nx j) ∧ Below wo.heap.size wo wr) (fun _ i _ => n - (intOf i).toNat)
      case atStart => exact ⟨0, Nat.zero_le _, rfl, All.nil _ _, Below.refl _ _⟩
      case round =>
        obtain ⟨j, hj, rfl, hall, hB2⟩ := hrel
        obtain ⟨pA, pc, rfl⟩ := hall.form
        have hcl := compsTo_len nx j
        obtain ⟨xs, hxs⟩ : ∃ xs, compsTo nx j = xs := ⟨_, rfl⟩
        rw [hxs] at hall hcl ⊢
        have HXS := Lib.hid hxs
        have HALL2 := Lib.hid hall
        have hsz2 := hB2.size
        obtain ⟨wp, hwp⟩ : ∃ W, W = wr := ⟨_, rfl⟩
        subst hwp
        clear hall hxs
        by_cases hlt : j < n
        · obtain ⟨gA, Aj, cj, rfl, hgA, hcj, hoj⟩ := HROW.out j hlt
          have HCJ := Lib.hid hcj
          have HOJ := Lib.hid hoj
          clear hcj hoj
          go_wp2_with fail
          go_loopw [9, 10] (fun o i wi => ∃ k : Nat, k ≤ n ∧ i = .int .i64 k ∧ Own wi wp.heap.size o (clsTo nx j k) ∧ Below wp.heap.size wp wi) (fun _ i _ => n - (intOf i).toNat)
          case atStart => exact ⟨0, Nat.zero_le _, rfl, Own.nil _ _, Below.refl _ _⟩
          case round =>
            obtain ⟨k, hk, rfl, ho, hB3⟩ := hrel
            obtain ⟨lA, lc, rfl, _, _⟩ := ho.slice
            have hll := clsTo_len nx j k
            obtain ⟨L, hL⟩ : ∃ L, clsTo nx j k = L := ⟨_, rfl⟩
            rw [hL] at ho hll ⊢
            have HL := Lib.hid hL
            have HO := Lib.hid ho
            have hsz3 := hB3.size
            have hB23 := hB2.trans (hB3.mono hsz2)
            obtain ⟨wi, hwi⟩ : ∃ W, W = wr := ⟨_, rfl⟩
            subst hwi
            clear ho hL
            by_cases hlk : k < n
            · obtain ⟨gA', Ak, ck, e, hgA', hck, hok⟩ := HROW.out k hlk
              injection e with e
              injection e with e
              subst e
              have hcj3 := (hB23.cell (p := ⟨gA, j, none⟩) hgA).trans HCJ.out
              have hck3 := (hB23.cell (p := ⟨gA, k, none⟩) hgA).trans hck
              have hoj3 : Own wi w.heap.size (.slice Aj (rset nx [j]).length cj) (rset nx [j]) := HOJ.out.keep fun b hb => hB23.block b (HOJ.out.lt b hb).2
              have hok3 : Own wi w.heap.size (.slice Ak (rset nx [k]).length ck) (rset nx [k]) := hok.keep fun b hb => hB23.block b (hok.lt b hb).2
              have h1 := hro j
              have h2 := hro k
              have HA1 := Lib.hid (hasN_any Aj cj k _ w.heap.size wi hoj3 (by omega))
              have HA2 := Lib.hid (hasN_any Ak ck j _ w.heap.size wi hok3 (by omega))
              have HBO := Lib.hid (both_rset (nx := nx) (v := j) (w := k) (by rw [HNL.out]; exact hlt) (by rw [HNL.out]; exact hlk))
              have HSU := Lib.hid (clsTo_succ nx j k)
              have HOA := Lib.hid (own_of_block (w' := wi.alloc (.cells #[.int .i64 (k : Int)] 3)) HO.out (fun b hb => Below.heap_alloc _ _ _ (HO.out.lt b hb).2))
              clear hck hok hoj3 hok3
              cases hb1 : decide (k ∈ rset nx [j]) with
              | false =>
                rw [hb1] at HA1 HBO
                clear hb1
                go_wp2_with (go_at_call 27; refine HA1.out.mono ?_; rintro e w7 ⟨rfl, rfl⟩)
                go_roundw
                case rel => exact ⟨k + 1, by omega, by go_num, by rw [HSU.out, ← HBO.out, if_neg (by simp), HL.out]; exact HO.out, hB3⟩
                case measure => simp [intOf]; omega
              | true =>
                cases hb2 : decide (j ∈ rset nx [k]) with
                | false =>
                  rw [hb1] at HA1 HBO
                  rw [hb2] at HA2 HBO
                  clear hb1 hb2
                  go_wp2_with (first
                    | (go_at_call 27; refine HA1.out.mono ?_; rintro e w7 ⟨rfl, rfl⟩; clear HA1)
                    | (go_at_call 27; refine HA2.out.mono ?_; rintro e w7 ⟨rfl, rfl⟩))
                  go_roundw
                  case rel => exact ⟨k + 1, by omega, by go_num, by rw [HSU.out, ← HBO.out, if_neg (by simp), HL.out]; exact HO.out, hB3⟩
                  case measure => simp [intOf]; omega
                | true =>
                  rw [hb1] at HA1 HBO
                  rw [hb2] at HA2 HBO
                  clear hb1 hb2
                  go_wp2_with (first
                    | (go_at_call 27; refine HA1.out.mono ?_; rintro e w7 ⟨rfl, rfl⟩; clear HA1)
                    | (go_at_call 27; refine HA2.out.mono ?_; rintro e w7 ⟨rfl, rfl⟩)
                    | (at_builtin
                       refine wpList_append_lies _ rfl (.tmp 48) (.tmp 50) 22 rfl wp.heap.size 3 i0 _ 1 8 Tryd.underlying22 hi0 hz0 hz1 hz2 rfl (by decide) (.slice lA L.length lc) L.length (L.map nv) rfl HOA.out ⟨_, 0, none⟩ 1 1 [.int .i64 (k : Int)] rfl rfl (fun j u hu => cell_one_new _ _ _ j u hu) (by simp [Value.oneCell']) (by decide) (by simp only [maxLen]; omega) (by omega) (by simp; omega) _ rfl ?_
                       intro g8 c8 w8 hown8 hgrow8 hat8 hlt8
                       have ho8 : Own w8 wp.heap.size (.slice (some ⟨g8, 0, none⟩) (L.length + 1) c8) (L ++ [k]) := by
                         unfold Own
                         rw [List.length_append, List.map_append]
                         exact hown8
                       have HO8 := Lib.hid ho8
                       have HB8 := Lib.hid ((hB3.alloc hsz3 _).grown hgrow8 (by simp; omega) (fun b e => (HO.out.lt b e).1))
                       clear ho8 hown8 hgrow8 hat8))
                  go_roundw
                  case rel => exact ⟨k + 1, by omega, by go_num, by rw [HSU.out, ← HBO.out, if_pos (by simp), HL.out]; exact HO8.out, HB8.out⟩
                  case measure => simp [intOf]; omega
            · obtain rfl : n = k := by omega
              have hcls : cls nx j = L := by
                rw [← HL.out]
                unfold cls clsTo
                rw [HNL.out]
              obtain ⟨x, tl, hf1, hf2, hf3, hf4⟩ := cls_form (nx := nx) (v := j) (by rw [HNL.out]; exact hlt)
              have hLx : L = x :: tl := hcls.symm.trans hf1
              have HCLS := Lib.hid hcls
              have HLX := Lib.hid hLx
              have hLl : 0 < L.length := by rw [hLx]; simp
              obtain ⟨gl, cl, el, hgl1, hgl2, _, _⟩ := HO.out.form hLl
              injection el with el1 _ el3
              subst el1 el3
              have hc0 := HO.out.cell hLl
              rw [hLx] at hc0
              have hc0' : wi.cell? ⟨gl, 0, none⟩ = some (.int .i64 (x : Int)) := hc0
              have HSU := Lib.hid (compsTo_succ nx j)
              have ha3 := HALL2.out.below hB3 (Nat.le_refl _)
              obtain ⟨vs, hvo, hvr⟩ := ha3
              have HVO := Lib.hid hvo
              have HVR := Lib.hid hvr
              have HOA := Lib.hid (show (wi.alloc (.cells #[.slice (some ⟨gl, 0, none⟩) L.length lc] 22)).ownsRow wo.heap.size 22 1 (.slice pA xs.length pc) xs.length vs from own_of_block (w' := wi.alloc (.cells #[.slice (some ⟨gl, 0, none⟩) L.length lc] 22)) hvo (fun b hb => Below.heap_alloc _ _ _ (World.ownsRow.lt hvo b hb).2))
              clear hcls hLx hf1 hf2 hf3 hf4 hc0 hvo hvr
              by_cases hxj : x = j
              · have hxj1 : ((x : Int) == (j : Int)) = true := by simp; omega
                have HX := Lib.hid hxj
                clear hxj
                go_wp2_with (at_builtin
                             refine wpList_append_lies _ rfl (.tmp 57) (.tmp 59) 37 rfl wo.heap.size 22 i1 _ 1 24 Tryd.underlying37 hi1 hy0 hy1 hy2 rfl (by decide) (.slice pA xs.length pc) xs.length vs rfl HOA.out ⟨wi.heap.size, 0, none⟩ 1 1 [_] rfl rfl (fun j u hu => cell_one_new wi _ _ j u hu) (by simp [Value.oneCell']) (by decide) (by simp only [maxLen]; omega) (by omega) (by simp; omega) _ rfl ?_
                             intro g9 c9 w9 hown9 hgrow9 hat9 hlt9
                             have hP := All.push HVO.out HVR.out (HO.out.base_ fun b hb => by have := (HO.out.lt b hb).1; omega) hgrow9 hown9
                             have HP := Lib.hid hP
                             have HB9 := Lib.hid ((hB23.alloc (by omega) _).grown hgrow9 (by simp; omega) (fun b e => (World.ownsRow.lt HVO.out b e).1))
                             clear hP hown9 hgrow9 hat9)
                go_roundw
                case rel => exact ⟨j + 1, by omega, by go_num, by rw [HSU.out, HCLS.out, HLX.out, if_pos (by rw [HX.out]; rfl), ← HLX.out, HXS.out]; exact HP.out, HB9.out⟩
                case measure => simp [intOf]; omega
              · have hxj1 : ((x : Int) == (j : Int)) = false := by simp; omega
                have HX := Lib.hid hxj
                clear hxj
                go_wp2_with fail
                go_roundw
                case rel => exact ⟨j + 1, by omega, by go_num, by rw [HSU.out, HCLS.out, HLX.out, if_neg (by intro h; simp at h; exact HX.out h), HXS.out]; exact HALL2.out.below hB3 (Nat.le_refl _), hB23⟩
                case measure => simp [intOf]; omega
        · obtain rfl : n = j := by omega
          have HC := Lib.hid (show xs = comps nx by rw [← HXS.out]; unfold comps compsTo; rw [HNL.out])
          go_wp2_with fail
          go_ret
          refine ⟨_, rfl, ?_, hB.trans (hB2.mono hsz)⟩
          rw [← HC.out]
          exact HALL2.out.more hsz
end Go.Proofs.YtdebnnigbbjbcaaDoor

namespace Go.Proofs.YtdebnnigbbjbcaaDoor
open Go Go.RowKit Go.Proofs

theorem ints_own {w : World} {lo n c : Nat} {A : Option Addr} {l : List Nat} (h : Own w lo (.slice A n c) l) : Ints .i64 w.heap.size w A n (l.map fun n : Nat => (n : Int)) := by
  obtain ⟨h1, h2⟩ := h.lst
  exact h2.ints
set_option maxHeartbeats 4000000 in
theorem same_any (lo lo2 m m2 c c2 : Nat) (A A2 : Option Addr) (xs : List (List Nat)) (w : World) (h1 : All w lo (.slice A m c) xs) (h2 : All w lo2 (.slice A2 m2 c2) xs) (hl : xs.length ≤ 1000) (hr : ∀ l ∈ xs, l.length ≤ 1000) :
    Calls Tryd.prog 23 #[.slice A m c, .slice A2 m2 c2] w (Tells true w) := by
  obtain ⟨rfl, _⟩ := h1.at_ (k := 0)
  obtain ⟨rfl, _⟩ := h2.at_ (k := 0)
  have H1 := Lib.hid h1
  have H2 := Lib.hid h2
  have HR := Lib.hid hr
  have hbb : ((xs.length : Int) != (xs.length : Int)) = false := by simp
  clear h1 h2 hr
  go_enter Tryd.func23, Tryd.ntmps23
  go_wp2_with fail
  go_loopw [5] (fun i wr => ∃ j : Nat, j ≤ xs.length ∧ i = .int .i64 j ∧ Below w.heap.size w wr) (fun i _ => xs.length - (intOf i).toNat)
  case atStart => exact ⟨0, Nat.zero_le _, rfl, Below.refl _ _⟩
  case round =>
    obtain ⟨j, hj, rfl, hB⟩ := hrel
    have hsz := hB.size
    by_cases hlt : j < xs.length
    · obtain ⟨_, k1⟩ := (H1.out.below hB (Nat.le_refl _)).at_ (k := j)
      obtain ⟨gA, v, l, rfl, _, hl1, ho1, hc1⟩ := k1 hlt
      obtain ⟨_, k2⟩ := (H2.out.below hB (Nat.le_refl _)).at_ (k := j)
      obtain ⟨gB, v2, l2, rfl, _, hl2, ho2, hc2⟩ := k2 hlt
      have e : l2 = l := by
        rw [hl1] at hl2
        injection hl2 with hl2
        exact hl2.symm
      subst e
      have hll := HR.out _ (List.mem_of_getElem? hl1)
      obtain ⟨Av, cv, rfl, _, _⟩ := ho1.slice
      obtain ⟨Bv, cw, rfl, _, _⟩ := ho2.slice
      have HSA := Lib.hid (sameInts_any Av Bv l2.length l2.length cv cw _ _ wr.drew (ints_own (ho1.keep (w' := wr.drew) fun _ _ => rfl)) (ints_own (ho2.keep (w' := wr.drew) fun _ _ => rfl)) (by omega))
      rw [decide_eq_true rfl] at HSA
      clear hl1 hl2 ho1 ho2 k1 k2
      go_wp2_with fail
      go_region_with (go_at_call 16; refine HSA.out.mono ?_; rintro e w9 ⟨rfl, hB9⟩)
      all_goals
        have HB9 := Lib.hid (hB.drew.trans (hB9.mono hsz))
        clear hB9
        go_wp2_with fail
        go_roundw
        case rel => exact ⟨j + 1, by omega, by go_num, HB9.out⟩
        case measure => simp [intOf]; omega
    · go_wp2_with fail
      go_ret
      exact ⟨rfl, hB⟩
theorem comps_is (n m c : Nat) (A : Option Addr) (E : List (Nat × Nat)) (w : World) (hn : n ≤ 1000) (hm : m ≤ 1000) (hE : Edg w w.heap.size A m E) (hd : ∀ e ∈ E, e.1 < n ∧ e.2 < n) :
    Calls Tryd.prog 24 #[.int .i64 n, .slice A m c] w fun e w' => ∃ v, e = .returned v ∧ All w' w.heap.size v (comps (succs n E)) ∧ Below w.heap.size w w' := by
  refine (comps_any n m c A E w hn hm hE hd).mono ?_
  rintro e w' ⟨av, ys, B, rfl, hB, hA, hp, hs, hb⟩
  rw [parts_sorted (succs_good n E) hp hs] at hA
  exact ⟨av, rfl, hA.more hB, hb⟩
theorem comps_len (nx : List (List Nat)) : (comps nx).length ≤ nx.length := compsTo_len nx nx.length
theorem comps_rows (nx : List (List Nat)) : ∀ l ∈ comps nx, l.length ≤ nx.length := by
  intro l hl
  obtain ⟨v, _, rfl⟩ := (comps_mem l).1 hl
  exact clsTo_len nx v nx.length
end Go.Proofs.YtdebnnigbbjbcaaDoor
