/-
  The reference's Without. Conditions: the lengths.
-/
import Derived.Test.YtiokiecnglmbnaaK37
import Derived.Test.YtiokiecnglmbnaaK27
import Derived.Test.YtiokiecnglmbnaaK42
import Derived.Test.YtiokiecnglmbnaaK46

namespace Go.Proofs.Ytiokiecnglmbnaa
open Go Go.RowKit Go.Proofs
attribute [local go_sem] Oper.semAt_some

set_option maxHeartbeats 8000000 in
set_option maxRecDepth 100000 in
theorem refWithout_any {E A a2 : Option Addr} {ne ce na ca len2 cap2 : Nat} {es : List NM.Ev} {l : List TP.An} {y2 : List Int} (w : World) (h : TIn w E ne ce A na es l) (h2 : Ints .i64 w.heap.size w a2 len2 y2) (bl : len2 ≤ 1000) (bne : ne ≤ 1000) (bna : na ≤ 1000) :
    Calls Try.prog 29 #[.agg #[.slice E ne ce, .slice A na ca], .slice a2 len2 cap2] w fun e w' => (∃ v, e = .returned v ∧ TapeN w.heap.size w' v (TP.sub y2 0 es) (TP.sub y2 ne (TP.normA l))) ∧ Below w.heap.size w w' := by
  obtain ⟨iE, hiE, hzE, hsE, hbE⟩ := info_splitE info_event
  obtain ⟨iA, hiA, hzA, hsA, hbA⟩ := info_split' info_answer
  obtain ⟨U, hU, hb, k1, k2, hlt⟩ := two_boxes w (.cells #[.slice E ne ce, .slice A na ca] 26) (.cells #[.slice none 0 0, .slice none 0 0] 26)
  have hel := h.ev.1
  have hnl0 : (TP.normA l).length ≤ na := by rw [← h.an.1]; exact TP.norm_len l
  obtain ⟨nl, hnl⟩ : ∃ x, TP.normA l = x := ⟨_, rfl⟩
  rw [hnl] at hnl0 ⊢
  have HI := Lib.hid (h.keep hb)
  have HR := Lib.hid k2
  have HB := Lib.hid hb
  have HP := Lib.hid h2
  obtain ⟨⟨b0, b1⟩, _, _⟩ := row2 k1
  clear k1 k2 hb h h2
  go_enter Try.func29, Try.ntmps29
  go_upto_region 2 with (go_at_call 15; refine (refNormal_any _ HI.out (by omega)).mono ?_; rintro e w1 ⟨⟨E1, ce1, A1, m, c1, rfl, hE1, hR1⟩, hb1⟩; have HE1 := Lib.hid hE1; have HR1 := Lib.hid hR1; have HB1 := Lib.hid hb1; clear hE1 hR1 hb1)
  clear hU b0 b1
  rw [hnl] at HR1
  have hml := HR1.out.len
  obtain ⟨g5, hg5⟩ : ∃ g, g = w1.heap.size := ⟨_, rfl⟩
  obtain ⟨U1, hU1⟩ : ∃ U, w1.alloc (.cells #[.slice E1 ne ce1, .slice A1 m c1] 26) = U := ⟨_, rfl⟩
  have hb2 : Below w1.heap.size w1 U1 := hU1 ▸ one_box w1 _
  have k5 : U1.heap[g5]? = some (.cells #[.slice E1 ne ce1, .slice A1 m c1] 26 (0, 0)) := by rw [hg5, ← hU1]; exact new_at rfl
  have hs1 : U1.heap.size = g5 + 1 := by rw [← hU1, hg5]; simp
  have hBU : Below U.heap.size U U1 := HB1.out.trans (hb2.mono HB1.out.size)
  have HBW := Lib.hid (HB.out.trans (hBU.mono HB.out.size))
  have HEE := Lib.hid ((evs_of_own HE1.out hel).keep hb2)
  have HAA := Lib.hid ((HR1.out.keep hb2).ans)
  have hres : U1.heap[w.heap.size + 1]? = _ := (hBU.block _ hlt).trans HR.out
  have HR2 := Lib.hid hres
  have HK5 := Lib.hid k5
  try rw [hU1]
  try rw [← hg5]
  have hzU := HBW.out.size
  have hg51 : U.heap.size ≤ g5 := by rw [hg5]; exact HB1.out.size
  clear hb2 k5 hBU hres HE1 HR1 HB1 HI HB HR hg5
  go_upto_region 3 with (fail)
  obtain ⟨g6, hg6⟩ : ∃ g, g = g5 + 1 := ⟨_, rfl⟩
  obtain ⟨U2, hU2⟩ : ∃ U, U1.alloc (.cells #[.slice none 0 0, .slice none 0 0] 26) = U := ⟨_, rfl⟩
  have hb3 : Below U1.heap.size U1 U2 := hU2 ▸ one_box U1 _
  have hs2 : U2.heap.size = g6 + 1 := by rw [← hU2, hg6]; simp [hs1]
  obtain ⟨lo, hlo⟩ : ∃ lo, U2.heap.size = lo := ⟨_, rfl⟩
  have k6 : U2.heap[g6]? = some (.cells #[.slice none 0 0, .slice none 0 0] 26 (0, 0)) := by rw [hg6, ← hU2]; exact new_at hs1.symm
  have H0 := Lib.hid (And.intro (⟨k6, (hb3.block _ (by omega)).trans HR2.out, ⟨⟨rfl, rfl⟩, World.ownsRow_nil _ _ _ _, World.ownsRow_nil _ _ _ _⟩, by omega, by omega⟩ : TbAt lo g6 (w.heap.size + 1) U2 none 0 0 none 0 0 (TP.sub y2 0 (es.take 0)) []) hb3)
  try rw [hU2]
  try rw [← hg6]
  have hlg6 : lo = g6 + 1 := by omega
  have hlo1 : w.heap.size + 1 < g5 := by omega
  have hUg : U1.heap.size ≤ g6 := by omega
  have hgU : g5 < U1.heap.size := by omega
  clear hb3 hU2 hU1 k6 hlo hs2 hnl hg6 hs1
  go_upto_block 0 with (fail)
  go_cut [] from 11 (fun V => ∃ E6 n6 c6, Hid (TbAt lo g6 (w.heap.size + 1) V E6 n6 c6 none 0 0 (TP.sub y2 0 es) [] ∧ Below U1.heap.size U1 V))
  case first =>
    go_wp2_with fail
    go_loopw [7] (fun i V => ∃ (k n c : Nat) (B : Option Addr), k ≤ ne ∧ n ≤ k ∧ i = .int .i64 (k : Int) ∧ Hid (TbAt lo g6 (w.heap.size + 1) V B n c none 0 0 (TP.sub y2 0 (es.take k)) [] ∧ Below U1.heap.size U1 V)) (fun i _ => ne - (intOf i).toNat)
    case atStart => exact ⟨0, 0, 0, none, by omega, by omega, rfl, H0.out⟩
    case round =>
      obtain ⟨k, n, c, B, hk, hnk, rfl, HV⟩ := hrel
      obtain ⟨⟨b0, b1⟩, bf0, bf1⟩ := row2 HV.out.1.box
      obtain ⟨⟨x0, x1⟩, xf0, xf1⟩ := row2 ((HV.out.2.block g5 (by omega)).trans HK5.out)
      have hszV := HV.out.2.size
      have hlg := heap_lt HV.out.1.box
      by_cases hin : k < ne
      · have dk : decide (k < ne) = true := decide_eq_true hin
        have dk2 : decide ((k : Int) < (ne : Int)) = true := decide_eq_true (by omega)
        have hin2 : (k : Int) < (ne : Int) := by omega
        obtain ⟨x, hx⟩ : ∃ x, es[k]? = some x := ⟨_, List.getElem?_eq_getElem (by omega)⟩
        obtain ⟨g, hg, hgl, hxa⟩ := HEE.out.2 (by omega)
        have HXC := Lib.hid (fun (V : World) (hV : Below U1.heap.size U1 V) => (hxa k x hx).keep hgl hV)
        obtain ⟨c0, c1, c2, c3, c4, c5, c6, c7⟩ := HXC.out wr HV.out.2
        subst hg
        have HX := Lib.hid (TP.sub_next (o := y2) (f := 0) hx)
        obtain ⟨xk, xn, xa, ⟨xc, xh, xt, xi, xp⟩⟩ := x
        clear hxa hx
        have hwr : IntKind.i64.wrap ((ne : Int) + (k : Int)) = (ne : Int) + (k : Int) := IntWalk.i64_in _ (by omega)
        have HH := Lib.hid (fun (V : World) (hV : Below U1.heap.size U1 V) => has_any a2 len2 cap2 y2 ((k : Int)) V ((HP.out.below (HBW.out.trans (hV.mono HBW.out.size))).more (by have := HBW.out.size; have := hV.size; omega)) (by omega))
        by_cases hm : ((k : Int)) ∈ y2
        · have HX2 := Lib.hid (show TP.sub y2 0 (es.take (k + 1)) = TP.sub y2 0 (es.take k) from by rw [HX.out, if_pos (by simpa using hm), List.append_nil])
          have dm : decide (((k : Int)) ∈ y2) = true := decide_eq_true hm
          clear hm
          go_wp2_with (go_at_call 31; refine (HH.out _ HV.out.2).mono ?_; clear HH; rintro e w4 ⟨rfl, hw4⟩; obtain rfl : wr = w4 := hw4.symm; rw [dm])
          go_roundw
          case rel => exact ⟨k + 1, n, c, B, by omega, by omega, by go_num, by rw [HX2.out]; exact HV.out⟩
          case measure => simp [intOf]; omega
        · have HX2 := Lib.hid (show TP.sub y2 0 (es.take (k + 1)) = TP.sub y2 0 (es.take k) ++ [(⟨xk, xn, xa, ⟨xc, xh, xt, xi, xp⟩⟩ : NM.Ev)] from by rw [HX.out, if_neg (by simpa using hm)])
          have dm : decide (((k : Int)) ∈ y2) = false := decide_eq_false hm
          clear hm
          go_upto_region 7 with (go_at_call 31; refine (HH.out _ HV.out.2).mono ?_; clear HH; rintro e w4 ⟨rfl, hw4⟩; obtain rfl : wr = w4 := hw4.symm; rw [dm])
          try clear HH
          have hsz4 := HV.out.2.size
          have hA0 : ∀ o : Obj, (wr.alloc o).cell? ⟨g6, 0, none⟩ = some (.slice B n c) := fun o => (World.cell?_of_block (w := wr) (Below.heap_alloc _ _ _ hlg)).trans b0
          have hA1 : ∀ o : Obj, (wr.alloc o).drew.cell? ⟨g6, 0, none⟩ = some (.slice B n c) := fun o => hA0 o
          go_region_law (first
            | (refine step_append_lies _ rfl (.tmp 23) (.tmp 29) 23 rfl lo 47 iE _ 8 64 Try.underlying23 hiE hzE hsE hbE rfl (by decide) (.slice B n c) n (List.flatMap evC (TP.sub y2 0 (es.take k))) (by simp [Act.eval]) (own_belowT HV.out.1.row.2.1 (by first | exact one_box wr _ | exact (one_box wr _).drew)) ⟨wr.heap.size, 0, none⟩ 1 1 (evC (⟨xk, xn, xa, ⟨xc, xh, xt, xi, xp⟩⟩ : NM.Ev)) (by simp [Act.eval]) rfl (World.news_of_block (World.alloc_heap_new wr _)) (by simp [evC, Value.oneCell']) (by decide) (by simp only [maxLen]; omega) (by omega) (by simp; omega) _ rfl ?_
               intro g7 c7 w7 hown7 hgr7 _ _
               have D7 := HV.out.1.below ((one_box wr (.cells #[.int .i64 xk, .int .i64 xn, .int .i64 xa, .int .i64 xc, .int .i64 xh, .int .i64 xt, .int .i64 xi, .int .i64 xp] 47)).drew)
               have hob : ∀ b, (Value.slice B n c).ownBlock = some b → lo ≤ b := fun b hb => (evRow_ne D7.row.2.1 hb).1
               obtain ⟨⟨p0, p1⟩, pf0, pf1⟩ := row2 ((hgr7.block g6 (heap_lt D7.box) (fun e => by have := hob _ e.symm; omega)).trans D7.box)
               have V7 := (HV.out.2.trans ((one_box wr (.cells #[.int .i64 xk, .int .i64 xn, .int .i64 xa, .int .i64 xc, .int .i64 xh, .int .i64 xt, .int .i64 xi, .int .i64 xp] 47)).drew.mono HV.out.2.size)).grown hgr7 (by have := HV.out.2.size; simp; omega) (fun b e => by have := hob _ e; omega)
               have D8 := Lib.hid (And.intro (D7.event hown7 hgr7) (V7.setCell (p := ⟨g6, 0, none⟩) (by exact hUg) (.slice (some ⟨g7, 0, none⟩) (n + 1) c7)))
               clear D7 hown7 hgr7 hob V7))
          all_goals
            go_wp2_with fail
            go_roundw
            case rel => exact ⟨k + 1, n + 1, c7, _, by omega, by omega, by go_num, by rw [HX2.out]; exact D8⟩
            case measure => simp [intOf]; omega
      · have dk : decide (k < ne) = false := decide_eq_false hin
        have dk2 : decide ((k : Int) < (ne : Int)) = false := decide_eq_false (by omega)
        obtain rfl : k = ne := by omega
        have HT := Lib.hid (show es.take k = es from List.take_of_length_le (by omega))
        go_wp2_with fail
        go_meet
        case rel =>
          refine ⟨B, n, c, ?_⟩
          rw [HT.out] at HV
          exact HV.out
  case rest =>
  obtain ⟨E6, n6, c6, HV1⟩ := hcut
  have H1 := Lib.hid (show TbAt lo g6 (w.heap.size + 1) wc E6 n6 c6 none 0 0 (TP.sub y2 0 es) (TP.sub y2 ne (nl.take 0)) ∧ Below U1.heap.size U1 wc from HV1.out)
  clear H0 HV1
  go_upto_block 2 with (fail)
  go_cut [] from 32 (fun V => ∃ A6 m6 d6, Hid (TbAt lo g6 (w.heap.size + 1) V E6 n6 c6 A6 m6 d6 (TP.sub y2 0 es) (TP.sub y2 ne nl) ∧ Below U1.heap.size U1 V))
  case first =>
    go_wp2_with fail
    go_loopw [8] (fun i V => ∃ (k n c : Nat) (B : Option Addr), k ≤ m ∧ n ≤ k ∧ i = .int .i64 (k : Int) ∧ Hid (TbAt lo g6 (w.heap.size + 1) V E6 n6 c6 B n c (TP.sub y2 0 es) (TP.sub y2 ne (nl.take k)) ∧ Below U1.heap.size U1 V)) (fun i _ => m - (intOf i).toNat)
    case atStart => exact ⟨0, 0, 0, none, by omega, by omega, rfl, H1.out⟩
    case round =>
      obtain ⟨k, n, c, B, hk, hnk, rfl, HV⟩ := hrel
      obtain ⟨⟨b0, b1⟩, bf0, bf1⟩ := row2 HV.out.1.box
      obtain ⟨⟨x0, x1⟩, xf0, xf1⟩ := row2 ((HV.out.2.block g5 (by omega)).trans HK5.out)
      have hszV := HV.out.2.size
      have hlg := heap_lt HV.out.1.box
      by_cases hin : k < m
      · have dk : decide (k < m) = true := decide_eq_true hin
        have dk2 : decide ((k : Int) < (m : Int)) = true := decide_eq_true (by omega)
        have hin2 : (k : Int) < (m : Int) := by omega
        obtain ⟨x, hx⟩ : ∃ x, nl[k]? = some x := ⟨_, List.getElem?_eq_getElem (by omega)⟩
        obtain ⟨g, hg, hgl, hxa⟩ := HAA.out.2 (by omega)
        have HXC := Lib.hid (fun (V : World) (hV : Below U1.heap.size U1 V) => (hxa k x hx).keep hgl hV)
        obtain ⟨c0, c1, c2, c3, c4, c5⟩ := HXC.out wr HV.out.2
        subst hg
        have HX := Lib.hid (TP.sub_next (o := y2) (f := ne) hx)
        obtain ⟨⟨xc, xh, xt, xk, xi⟩, y⟩ := x
        clear hxa hx
        have hwr : IntKind.i64.wrap ((ne : Int) + (k : Int)) = (ne : Int) + (k : Int) := IntWalk.i64_in _ (by omega)
        have HH := Lib.hid (fun (V : World) (hV : Below U1.heap.size U1 V) => has_any a2 len2 cap2 y2 ((ne : Int) + (k : Int)) V ((HP.out.below (HBW.out.trans (hV.mono HBW.out.size))).more (by have := HBW.out.size; have := hV.size; omega)) (by omega))
        by_cases hm : ((ne : Int) + (k : Int)) ∈ y2
        · have HX2 := Lib.hid (show TP.sub y2 ne (nl.take (k + 1)) = TP.sub y2 ne (nl.take k) from by rw [HX.out, if_pos (by simpa using hm), List.append_nil])
          have dm : decide (((ne : Int) + (k : Int)) ∈ y2) = true := decide_eq_true hm
          clear hm
          go_wp2_with (go_at_call 31; refine (HH.out _ HV.out.2).mono ?_; clear HH; rintro e w4 ⟨rfl, hw4⟩; obtain rfl : wr = w4 := hw4.symm; rw [dm])
          go_roundw
          case rel => exact ⟨k + 1, n, c, B, by omega, by omega, by go_num, by rw [HX2.out]; exact HV.out⟩
          case measure => simp [intOf]; omega
        · have HX2 := Lib.hid (show TP.sub y2 ne (nl.take (k + 1)) = TP.sub y2 ne (nl.take k) ++ [((⟨xc, xh, xt, xk, xi⟩ : NM.Qu), y)] from by rw [HX.out, if_neg (by simpa using hm)])
          have dm : decide (((ne : Int) + (k : Int)) ∈ y2) = false := decide_eq_false hm
          clear hm
          go_upto_region 12 with (go_at_call 31; refine (HH.out _ HV.out.2).mono ?_; clear HH; rintro e w4 ⟨rfl, hw4⟩; obtain rfl : wr = w4 := hw4.symm; rw [dm])
          try clear HH
          have hsz4 := HV.out.2.size
          have hA0 : ∀ o : Obj, (wr.alloc o).cell? ⟨g6, 1, none⟩ = some (.slice B n c) := fun o => (World.cell?_of_block (w := wr) (Below.heap_alloc _ _ _ hlg)).trans b1
          have hA1 : ∀ o : Obj, (wr.alloc o).drew.cell? ⟨g6, 1, none⟩ = some (.slice B n c) := fun o => hA0 o
          go_region_law (first
            | (refine step_append_lies _ rfl (.tmp 48) (.tmp 54) 24 rfl lo 71 iA _ 6 48 Try.underlying24 hiA hzA hsA hbA rfl (by decide) (.slice B n c) n (TP.ansC (TP.sub y2 ne (nl.take k))) (by simp [Act.eval]) (own_belowT HV.out.1.row.2.2 (by first | exact one_box wr _ | exact (one_box wr _).drew)) ⟨wr.heap.size, 0, none⟩ 1 1 (TP.anC ((⟨xc, xh, xt, xk, xi⟩ : NM.Qu), y)) (by simp [Act.eval]) rfl (World.news_of_block (World.alloc_heap_new wr _)) (by simp [TP.anC, Value.oneCell']) (by decide) (by simp only [maxLen]; omega) (by omega) (by simp; omega) _ rfl ?_
               intro g7 c7 w7 hown7 hgr7 _ _
               have D7 := HV.out.1.below ((one_box wr (.cells #[.int .i64 xc, .int .i64 xh, .int .i64 xt, .int .i64 xk, .int .i64 xi, .int .i64 y] 71)).drew)
               have hob : ∀ b, (Value.slice B n c).ownBlock = some b → lo ≤ b := fun b hb => (anRow_ne D7.row.2.2 hb).1
               obtain ⟨⟨p0, p1⟩, pf0, pf1⟩ := row2 ((hgr7.block g6 (heap_lt D7.box) (fun e => by have := hob _ e.symm; omega)).trans D7.box)
               have V7 := (HV.out.2.trans ((one_box wr (.cells #[.int .i64 xc, .int .i64 xh, .int .i64 xt, .int .i64 xk, .int .i64 xi, .int .i64 y] 71)).drew.mono HV.out.2.size)).grown hgr7 (by have := HV.out.2.size; simp; omega) (fun b e => by have := hob _ e; omega)
               have D8 := Lib.hid (And.intro (D7.answer hown7 hgr7) (V7.setCell (p := ⟨g6, 1, none⟩) (by exact hUg) (.slice (some ⟨g7, 0, none⟩) (n + 1) c7)))
               clear D7 hown7 hgr7 hob V7))
          all_goals
            go_wp2_with fail
            go_roundw
            case rel => exact ⟨k + 1, n + 1, c7, _, by omega, by omega, by go_num, by rw [HX2.out]; exact D8⟩
            case measure => simp [intOf]; omega
      · have dk : decide (k < m) = false := decide_eq_false hin
        have dk2 : decide ((k : Int) < (m : Int)) = false := decide_eq_false (by omega)
        obtain rfl : k = m := by omega
        have HT := Lib.hid (show nl.take k = nl from List.take_of_length_le (by omega))
        go_wp2_with fail
        go_meet
        case rel =>
          refine ⟨B, n, c, ?_⟩
          rw [HT.out] at HV
          exact HV.out
  case rest =>
  obtain ⟨A6, m6, d6, HV⟩ := hcut
  obtain ⟨⟨b0, b1⟩, bf0, bf1⟩ := row2 HV.out.1.box
  obtain ⟨⟨r0, r1⟩, rf0, rf1⟩ := row2 HV.out.1.res
  clear H1
  go_wp2_with fail
  obtain ⟨W8, e8, k8, o8, z8, p8, q8, t8⟩ := set1D HV.out.1.res (i := 0) (.slice E6 n6 c6)
  rw [e8]
  clear e8
  obtain ⟨W9, e9, k9, o9, z9, p9, q9, t9⟩ := set1D k8 (i := 1) (.slice A6 m6 d6)
  rw [e9]
  clear e9
  obtain ⟨⟨y0', y1'⟩, _, _⟩ := row2 k9
  have hgr : wc.grownBy W9 (some (w.heap.size + 1)) := ⟨p9.trans p8, q9.trans q8, t9.trans t8, by rw [z9, z8]; exact Nat.le_refl _, fun b _ hne => (o9 b (fun e => hne (by rw [e]))).trans (o8 b (fun e => hne (by rw [e])))⟩
  have hT := (HV.out.1.row.grown hgr HV.out.1.res (by decide) (by decide)).low (show w.heap.size ≤ lo by omega)
  have hV := (HBW.out.trans (HV.out.2.mono HBW.out.size)).grown hgr (by have := HBW.out.size; have := HV.out.2.size; omega) (fun b e => by injection e with e; omega)
  refine bodyPost_ret (v := .agg #[.slice E6 n6 c6, .slice A6 m6 d6]) (by simp [results, Try.results29, go_sem, y0', y1']) rfl ?_
  exact ⟨⟨_, rfl, E6, n6, c6, A6, m6, d6, rfl, hT⟩, hV⟩
end Go.Proofs.Ytiokiecnglmbnaa
