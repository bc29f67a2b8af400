/-
  The reference's tape of numbers. Condition: the numbers are Go's.
-/
import Derived.Test.YtiokiecnglmbnaaK24
import Derived.Test.YtiokiecnglmbnaaK26
import Derived.Deep.CutBlock

namespace Go.Proofs.Ytiokiecnglmbnaa
open Go Go.RowKit Go.Proofs
attribute [local go_sem] Oper.semAt_some

def TP.evOfN (x : Int) : NM.Ev := NM.evOf x (x.tdiv 1000)
def TP.anOfN (x : Int) : TP.An := (TP.qOf (around x 100000), around x 100000 / 96 % 5 - 1)
/-- The reference's tape of numbers. -/
def TP.evsG (l : List Int) : List NM.Ev := (l.take 8).map TP.evOfN
def TP.ansG (m : List Int) : List TP.An := (m.take 10).map TP.anOfN
theorem map_next {α : Type} (f : Int → α) {l : List Int} {k : Nat} (h : k < l.length) : (l.take (k + 1)).map f = (l.take k).map f ++ [f (l[k]?.getD 0)] := by
  rw [List.take_add_one, List.getElem?_eq_getElem h, List.map_append]
  simp
theorem tdiv_i64 {x : Int} (h : I64 x) : I64 (x.tdiv 1000) := by
  obtain ⟨h1, h2⟩ := h
  rcases Int.le_total 0 x with h | h
  · rw [Int.tdiv_eq_ediv_of_nonneg h]
    constructor <;> omega
  · have e : x.tdiv 1000 = -((-x) / 1000) := by
      rw [← Int.tdiv_eq_ediv_of_nonneg (by omega : (0 : Int) ≤ -x), Int.neg_tdiv, Int.neg_neg]
    rw [e]
    constructor <;> omega
/-- A tape that is being built in block t5; the result's box. -/
structure TbAt (lo t5 r0 : Nat) (W : World) (E : Option Addr) (ne ce : Nat) (A : Option Addr) (na ca : Nat) (es : List NM.Ev) (l : List TP.An) : Prop where
  box : W.heap[t5]? = some (.cells #[.slice E ne ce, .slice A na ca] 26 (0, 0))
  res : W.heap[r0]? = some (.cells #[.slice none 0 0, .slice none 0 0] 26 (0, 0))
  row : TapeIs lo W E ne ce A na ca es l
  g0 : r0 < t5
  g2 : t5 < lo
theorem TbAt.below {lo t5 r0 : Nat} {W W' : World} {E A : Option Addr} {ne ce na ca : Nat} {es : List NM.Ev} {l : List TP.An} (h : TbAt lo t5 r0 W E ne ce A na ca es l) (hb : Below W.heap.size W W') : TbAt lo t5 r0 W' E ne ce A na ca es l :=
  ⟨(hb.block _ (heap_lt h.box)).trans h.box, (hb.block _ (heap_lt h.res)).trans h.res, h.row.keep hb, h.g0, h.g2⟩
theorem TbAt.event {lo t5 r0 : Nat} {W W7 : World} {E A E' : Option Addr} {ne ce na ca ce' : Nat} {es : List NM.Ev} {l : List TP.An} {x : NM.Ev} (h : TbAt lo t5 r0 W E ne ce A na ca es l)
    (hown : W7.ownsRow lo 47 8 (.slice E' (ne + 1) ce') (ne + 1) (es.flatMap evC ++ evC x)) (hgr : W.grownBy W7 (Value.slice E ne ce).ownBlock) :
    TbAt lo t5 r0 (W7.setCell ⟨t5, 0, none⟩ (.slice E' (ne + 1) ce')) E' (ne + 1) ce' A na ca (es ++ [x]) l := by
  have hob : ∀ b, (Value.slice E ne ce).ownBlock = some b → lo ≤ b := fun b hb => (evRow_ne h.row.2.1 hb).1
  have h2 := h.g2
  have h0 := h.g0
  have hbx : W7.heap[t5]? = _ := (hgr.block t5 (heap_lt h.box) (fun e => by have := hob _ e.symm; omega)).trans h.box
  have hrs : W7.heap[r0]? = _ := (hgr.block r0 (heap_lt h.res) (fun e => by have := hob _ e.symm; omega)).trans h.res
  have han : W7.ownsRow lo 71 6 (.slice A na ca) na (TP.ansC l) := h.row.2.2.kept hgr (by
    rcases hv : (Value.slice A na ca).ownBlock with _ | b
    · exact .inl rfl
    · refine .inr fun e => ?_
      obtain ⟨_, C, hC⟩ := anRow_ne h.row.2.2 hv
      obtain ⟨_, D, hD⟩ := evRow_ne h.row.2.1 e.symm
      rw [hC] at hD
      injection hD with hD
      injection hD with _ hD
      cases hD)
  obtain ⟨W8, hW8, k8, o8, z8, p8, q8, r8⟩ := set1D hbx (i := 0) (.slice E' (ne + 1) ce')
  rw [hW8]
  have hg8 : W7.grownBy W8 (some t5) := ⟨p8, q8, r8, by omega, fun b _ hne => o8 b (fun e => hne (by rw [e]))⟩
  refine ⟨k8, (o8 r0 (by omega)).trans hrs, ⟨⟨by rw [List.length_append, List.length_singleton, h.row.1.1], h.row.1.2⟩, ?_, han.kept hg8 (own_ne han hbx (by decide))⟩, h.g0, h.g2⟩
  rw [List.flatMap_append, show [x].flatMap evC = evC x by simp]
  exact hown.kept hg8 (own_ne hown hbx (by decide))
theorem TbAt.answer {lo t5 r0 : Nat} {W W7 : World} {E A A' : Option Addr} {ne ce na ca ca' : Nat} {es : List NM.Ev} {l : List TP.An} {x : TP.An} (h : TbAt lo t5 r0 W E ne ce A na ca es l)
    (hown : W7.ownsRow lo 71 6 (.slice A' (na + 1) ca') (na + 1) (TP.ansC l ++ TP.anC x)) (hgr : W.grownBy W7 (Value.slice A na ca).ownBlock) :
    TbAt lo t5 r0 (W7.setCell ⟨t5, 1, none⟩ (.slice A' (na + 1) ca')) E ne ce A' (na + 1) ca' es (l ++ [x]) := by
  have hob : ∀ b, (Value.slice A na ca).ownBlock = some b → lo ≤ b := fun b hb => (anRow_ne h.row.2.2 hb).1
  have h2 := h.g2
  have h0 := h.g0
  have hbx : W7.heap[t5]? = _ := (hgr.block t5 (heap_lt h.box) (fun e => by have := hob _ e.symm; omega)).trans h.box
  have hrs : W7.heap[r0]? = _ := (hgr.block r0 (heap_lt h.res) (fun e => by have := hob _ e.symm; omega)).trans h.res
  have hev : W7.ownsRow lo 47 8 (.slice E ne ce) ne (es.flatMap evC) := h.row.2.1.kept hgr (by
    rcases hv : (Value.slice E ne ce).ownBlock with _ | b
    · exact .inl rfl
    · refine .inr fun e => ?_
      obtain ⟨_, C, hC⟩ := evRow_ne h.row.2.1 hv
      obtain ⟨_, D, hD⟩ := anRow_ne h.row.2.2 e.symm
      rw [hC] at hD
      injection hD with hD
      injection hD with _ hD
      cases hD)
  obtain ⟨W8, hW8, k8, o8, z8, p8, q8, r8⟩ := set1D hbx (i := 1) (.slice A' (na + 1) ca')
  rw [hW8]
  have hg8 : W7.grownBy W8 (some t5) := ⟨p8, q8, r8, by omega, fun b _ hne => o8 b (fun e => hne (by rw [e]))⟩
  refine ⟨k8, (o8 r0 (by omega)).trans hrs, ⟨⟨h.row.1.1, by rw [List.length_append, List.length_singleton, h.row.1.2]⟩, hev.kept hg8 (own_ne hev hbx (by decide)), ?_⟩, h.g0, h.g2⟩
  rw [ansC_snoc]
  exact hown.kept hg8 (own_ne hown hbx (by decide))
set_option maxHeartbeats 8000000 in
set_option maxRecDepth 100000 in
theorem refTape_any {a0 a1 : Option Addr} {len0 cap0 len1 cap1 : Nat} {y0 y1 : List Int} (w : World) (hI0 : Ints .i64 w.heap.size w a0 len0 y0) (hi0 : ∀ x ∈ y0, I64 x) (hI1 : Ints .i64 w.heap.size w a1 len1 y1) (hi1 : ∀ x ∈ y1, I64 x) :
    Calls Try.prog 12 #[.slice a0 len0 cap0, .slice a1 len1 cap1] w fun e w' => (∃ v, e = .returned v ∧ TapeN w.heap.size w' v (TP.evsG y0) (TP.ansG y1)) ∧ Below w.heap.size w w' := by
  obtain ⟨iE, hiE, hzE, hsE, hbE⟩ := info_splitE info_event
  obtain ⟨iA, hiA, hzA, hsA, hbA⟩ := info_split' info_answer
  obtain ⟨U, hU, hb, k1, k2, _⟩ := two_boxes w (.cells #[.slice none 0 0, .slice none 0 0] 26) (.cells #[.slice none 0 0, .slice none 0 0] 26)
  have hsU : U.heap.size = w.heap.size + 1 + 1 := by rw [← hU]; simp
  obtain ⟨lo, hlo⟩ : ∃ lo, U.heap.size = lo := ⟨_, rfl⟩
  obtain ⟨t5, ht5⟩ : ∃ t, w.heap.size + 1 = t := ⟨_, rfl⟩
  rw [ht5] at k2
  have H0 := Lib.hid (And.intro (⟨k2, k1, ⟨⟨rfl, rfl⟩, World.ownsRow_nil _ _ _ _, World.ownsRow_nil _ _ _ _⟩, by omega, by omega⟩ : TbAt lo t5 w.heap.size U none 0 0 none 0 0 [] []) hb)
  have HI0 := Lib.hid (And.intro hI0 hi0)
  have HI1 := Lib.hid (And.intro hI1 hi1)
  clear hI0 hi0 hI1 hi1 k1 k2 hb
  go_enter Try.func12, Try.ntmps12
  go_upto_block 0 with (fail)
  try rw [hU]
  try rw [ht5]
  have hw5 : w.heap.size < t5 := by omega
  have hl5 : lo = t5 + 1 := by omega
  clear hU hsU hlo ht5
  go_cut [] from 9 (fun V => ∃ E ne ce, Hid (TbAt lo t5 w.heap.size V E ne ce none 0 0 (TP.evsG y0) [] ∧ Below w.heap.size w V))
  case first =>
    go_wp2_with fail
    go_loopw [6] (fun i V => ∃ (k ce : Nat) (E : Option Addr), k ≤ len0 ∧ k ≤ 8 ∧ i = .int .i64 (k : Int) ∧ Hid (TbAt lo t5 w.heap.size V E k ce none 0 0 ((y0.take k).map TP.evOfN) [] ∧ Below w.heap.size w V)) (fun i _ => 8 - (intOf i).toNat)
    case atStart => exact ⟨0, 0, none, by omega, by omega, rfl, H0.out⟩
    case round =>
      obtain ⟨k, ce, E, hk, hk2, rfl, HV⟩ := hrel
      by_cases hin : k < len0
      · have dk : decide (k < len0) = true := decide_eq_true hin
        by_cases hin2 : k < 8
        · have d2 : decide (k < 8) = true := decide_eq_true hin2
          have d3 : decide ((k : Int) < 8) = true := decide_eq_true (by omega)
          obtain ⟨b, off, rfl, hbl, hc⟩ := HI0.out.1.at_ (by omega)
          have c0 := (HV.out.2.cell (p := ⟨b, off + k, none⟩) hbl).trans (hc k hin)
          have hyl := HI0.out.1.len
          have HX := Lib.hid (map_next TP.evOfN (l := y0) (k := k) (by omega))
          have hx64 := HI0.out.2 _ (getD_mem (l := y0) (j := k) (by omega))
          obtain ⟨x, hx⟩ : ∃ x, y0[k]?.getD 0 = x := ⟨_, rfl⟩
          rw [hx] at c0 HX hx64
          have hq := tdiv_i64 hx64
          have hqw : IntKind.i64.wrap (x.tdiv 1000) = x.tdiv 1000 := IntWalk.i64_in _ (by have := hq.1; have := hq.2; omega)
          have HEV := Lib.hid (eventOf_any x (x.tdiv 1000) hx64 hq)
          obtain ⟨⟨xk, xn, xa, ⟨xc, xh, xt, xi, xp⟩⟩, hev⟩ : ∃ e, NM.evOf x (x.tdiv 1000) = e := ⟨_, rfl⟩
          have HX2 : TP.evOfN x = _ := hev
          rw [HX2] at HX
          rw [hev] at HEV
          have hkw : (k : Int) < (len0 : Int) := by omega
          clear hc hx hx64 hq hev HX2
          obtain ⟨⟨b0, b1⟩, bf0, bf1⟩ := row2 HV.out.1.box
          have hl5' := heap_lt HV.out.1.box
          go_upto_region 5 with (fail)
          go_region_law (first
            | (go_simp; go_at_call 43; refine (HEV.out _).mono ?_; clear HEV; rintro e w5 ⟨rfl, b5⟩
               have b5' : Below wr.heap.size wr w5 := (Below.refl _ _).drew.trans b5
               have D5 := HV.out.1.below b5'
               have hA5 : ∀ o : Obj, (w5.alloc o).cell? ⟨t5, 0, none⟩ = some (.slice E k ce) := fun o => (World.cell?_of_block (w := w5) (Below.heap_alloc _ _ _ (heap_lt D5.box))).trans (row2 D5.box).1.1
               have hl6 := heap_lt D5.box
               obtain ⟨d0, _⟩ := (row2 D5.box).1
               have H5 := Lib.hid (And.intro D5 (HV.out.2.trans (b5'.mono HV.out.2.size)))
               clear b5 b5' D5)
            | (refine step_append_lies _ rfl (.tmp 20) (.tmp 31) 23 rfl lo 47 iE _ 8 64 Try.underlying23 hiE hzE hsE hbE rfl (by decide) (.slice E k ce) k (((y0.take k).map TP.evOfN).flatMap evC) (by simp [Act.eval]) (own_belowT H5.out.1.row.2.1 (one_box w5 _)) ⟨w5.heap.size, 0, none⟩ 1 1 (evC ⟨xk, xn, xa, ⟨xc, xh, xt, xi, xp⟩⟩) (by simp [Act.eval]) rfl (World.news_of_block (World.alloc_heap_new w5 _)) (by simp [evC, Value.oneCell']) (by decide) (by simp only [maxLen]; omega) (by omega) (by simp; omega) _ rfl ?_
               intro g7 c7 w7 hown7 hgr7 _ _
               have D7 := H5.out.1.below (one_box w5 (.cells #[.int .i64 xk, .int .i64 xn, .int .i64 xa, .int .i64 xc, .int .i64 xh, .int .i64 xt, .int .i64 xi, .int .i64 xp] 47))
               have hob : ∀ b, (Value.slice E k ce).ownBlock = some b → lo ≤ b := fun b hb => (evRow_ne D7.row.2.1 hb).1
               obtain ⟨⟨p0, p1⟩, pf0, pf1⟩ := row2 ((hgr7.block t5 (heap_lt D7.box) (fun e => by have := hob _ e.symm; omega)).trans D7.box)
               have V7 := (H5.out.2.trans ((one_box w5 (.cells #[.int .i64 xk, .int .i64 xn, .int .i64 xa, .int .i64 xc, .int .i64 xh, .int .i64 xt, .int .i64 xi, .int .i64 xp] 47)).mono H5.out.2.size)).grown hgr7 (by have := H5.out.2.size; simp; omega) (fun b e => by have := hob _ e; omega)
               have D8 := Lib.hid (And.intro (D7.event hown7 hgr7) (V7.setCell (p := ⟨t5, 0, none⟩) (by show w.heap.size ≤ t5; omega) (.slice (some ⟨g7, 0, none⟩) (k + 1) c7)))
               clear D7 hown7 hgr7 hob V7))
          all_goals
            go_wp2_with fail
            go_roundw
            case rel => exact ⟨k + 1, c7, _, by omega, by omega, by go_num, by rw [HX.out]; exact D8⟩
            case measure => simp [intOf]; omega
        · have d2 : decide (k < 8) = false := decide_eq_false hin2
          have d3 : decide ((k : Int) < 8) = false := decide_eq_false (by omega)
          obtain rfl : k = 8 := by omega
          go_wp2_with fail
          go_meet
          case rel => exact ⟨E, 8, ce, HV⟩
      · have dk : decide (k < len0) = false := decide_eq_false hin
        obtain rfl : k = len0 := by omega
        have hyl := HI0.out.1.len
        have HX := Lib.hid (show (y0.take k).map TP.evOfN = TP.evsG y0 from by unfold TP.evsG; rw [List.take_of_length_le (by omega), List.take_of_length_le (by omega)])
        go_wp2_with fail
        go_meet
        case rel =>
          refine ⟨E, k, ce, ?_⟩
          rw [← HX.out]
          exact HV
  case rest =>
  obtain ⟨E, ne, ce, HV1⟩ := hcut
  clear H0 HI0
  go_upto_block 2 with (fail)
  go_cut [] from 34 (fun V => ∃ A na ca, Hid (TbAt lo t5 w.heap.size V E ne ce A na ca (TP.evsG y0) (TP.ansG y1) ∧ Below w.heap.size w V))
  case first =>
    go_wp2_with fail
    go_loopw [7] (fun i V => ∃ (k ca : Nat) (A : Option Addr), k ≤ len1 ∧ k ≤ 10 ∧ i = .int .i64 (k : Int) ∧ Hid (TbAt lo t5 w.heap.size V E ne ce A k ca (TP.evsG y0) ((y1.take k).map TP.anOfN) ∧ Below w.heap.size w V)) (fun i _ => 10 - (intOf i).toNat)
    case atStart => exact ⟨0, 0, none, by omega, by omega, rfl, HV1.out⟩
    case round =>
      obtain ⟨k, ca, A, hk, hk2, rfl, HV⟩ := hrel
      by_cases hin : k < len1
      · have dk : decide (k < len1) = true := decide_eq_true hin
        by_cases hin2 : k < 10
        · have d2 : decide (k < 10) = true := decide_eq_true hin2
          have d3 : decide ((k : Int) < 10) = true := decide_eq_true (by omega)
          obtain ⟨b, off, rfl, hbl, hc⟩ := HI1.out.1.at_ (by omega)
          have c0 := (HV.out.2.cell (p := ⟨b, off + k, none⟩) hbl).trans (hc k hin)
          have hyl := HI1.out.1.len
          have HX := Lib.hid (map_next TP.anOfN (l := y1) (k := k) (by omega))
          have hx64 := HI1.out.2 _ (getD_mem (l := y1) (j := k) (by omega))
          obtain ⟨x, hx⟩ : ∃ x, y1[k]?.getD 0 = x := ⟨_, rfl⟩
          rw [hx] at c0 HX hx64
          have HA := Lib.hid (around_any x 100000 hx64 (by decide) (by decide) wr)
          have hn := around_in x 100000 (by decide)
          have HX2 : TP.anOfN x = (TP.qOf (around x 100000), around x 100000 / 96 % 5 - 1) := rfl
          rw [HX2] at HX
          obtain ⟨n, hne⟩ : ∃ n, around x 100000 = n := ⟨_, rfl⟩
          rw [hne] at HA hn HX
          obtain ⟨n0, n1⟩ := hn
          have q1 : IntKind.i64.wrap (n.tdiv 96) = n / 96 := by rw [Int.tdiv_eq_ediv_of_nonneg n0]; exact IntWalk.i64_in _ (by omega)
          have q2 : (n / 96).tmod 5 = n / 96 % 5 := Int.tmod_eq_emod_of_nonneg (by omega)
          have q3 : IntKind.i64.wrap (n / 96 % 5 - 1) = n / 96 % 5 - 1 := IntWalk.i64_in _ (by omega)
          have HQ := Lib.hid (refQuestion_any n ⟨by omega, by omega⟩)
          obtain ⟨⟨qc, qh, qt, qk, qi⟩, hqe⟩ : ∃ q, TP.qOf n = q := ⟨_, rfl⟩
          rw [hqe] at HQ HX
          have hkw : (k : Int) < (len1 : Int) := by omega
          clear hc hx hx64 HX2 hne hqe
          obtain ⟨⟨b0, b1⟩, bf0, bf1⟩ := row2 HV.out.1.box
          have hl5' := heap_lt HV.out.1.box
          go_upto_region 10 with (go_at_call 35; refine HA.out.mono ?_; clear HA; rintro e w4 ⟨rfl, rfl⟩)
          go_region_law (first
            | (go_simp; go_at_call 14; refine (HQ.out _).mono ?_; clear HQ; rintro e w5 ⟨rfl, b5⟩
               have b5' : Below wr.heap.size wr w5 := (Below.refl _ _).drew.trans b5
               have D5 := HV.out.1.below b5'
               have hA5 : ∀ o : Obj, (w5.alloc o).cell? ⟨t5, 1, none⟩ = some (.slice A k ca) := fun o => (World.cell?_of_block (w := w5) (Below.heap_alloc _ _ _ (heap_lt D5.box))).trans (row2 D5.box).1.2
               have hl6 := heap_lt D5.box
               obtain ⟨_, d1⟩ := (row2 D5.box).1
               have H5 := Lib.hid (And.intro D5 (HV.out.2.trans (b5'.mono HV.out.2.size)))
               clear b5 b5' D5)
            | (refine step_append_lies _ rfl (.tmp 50) (.tmp 58) 24 rfl lo 71 iA _ 6 48 Try.underlying24 hiA hzA hsA hbA rfl (by decide) (.slice A k ca) k (TP.ansC ((y1.take k).map TP.anOfN)) (by simp [Act.eval]) (own_belowT H5.out.1.row.2.2 (one_box w5 _)) ⟨w5.heap.size, 0, none⟩ 1 1 (TP.anC (⟨qc, qh, qt, qk, qi⟩, n / 96 % 5 - 1)) (by simp [Act.eval]) rfl (World.news_of_block (World.alloc_heap_new w5 _)) (by simp [TP.anC, Value.oneCell']) (by decide) (by simp only [maxLen]; omega) (by omega) (by simp; omega) _ rfl ?_
               intro g7 c7 w7 hown7 hgr7 _ _
               have D7 := H5.out.1.below (one_box w5 (.cells #[.int .i64 qc, .int .i64 qh, .int .i64 qt, .int .i64 qk, .int .i64 qi, .int .i64 (n / 96 % 5 - 1)] 71))
               have hob : ∀ b, (Value.slice A k ca).ownBlock = some b → lo ≤ b := fun b hb => (anRow_ne D7.row.2.2 hb).1
               obtain ⟨⟨p0, p1⟩, pf0, pf1⟩ := row2 ((hgr7.block t5 (heap_lt D7.box) (fun e => by have := hob _ e.symm; omega)).trans D7.box)
               have V7 := (H5.out.2.trans ((one_box w5 (.cells #[.int .i64 qc, .int .i64 qh, .int .i64 qt, .int .i64 qk, .int .i64 qi, .int .i64 (n / 96 % 5 - 1)] 71)).mono H5.out.2.size)).grown hgr7 (by have := H5.out.2.size; simp; omega) (fun b e => by have := hob _ e; omega)
               have D8 := Lib.hid (And.intro (D7.answer hown7 hgr7) (V7.setCell (p := ⟨t5, 1, none⟩) (by show w.heap.size ≤ t5; omega) (.slice (some ⟨g7, 0, none⟩) (k + 1) c7)))
               clear D7 hown7 hgr7 hob V7))
          all_goals
            go_wp2_with fail
            go_roundw
            case rel => exact ⟨k + 1, c7, _, by omega, by omega, by go_num, by rw [HX.out]; exact D8⟩
            case measure => simp [intOf]; omega
        · have d2 : decide (k < 10) = false := decide_eq_false hin2
          have d3 : decide ((k : Int) < 10) = false := decide_eq_false (by omega)
          obtain rfl : k = 10 := by omega
          go_wp2_with fail
          go_meet
          case rel => exact ⟨A, 10, ca, HV⟩
      · have dk : decide (k < len1) = false := decide_eq_false hin
        obtain rfl : k = len1 := by omega
        have hyl := HI1.out.1.len
        have HX := Lib.hid (show (y1.take k).map TP.anOfN = TP.ansG y1 from by unfold TP.ansG; rw [List.take_of_length_le (by omega), List.take_of_length_le (by omega)])
        go_wp2_with fail
        go_meet
        case rel =>
          refine ⟨A, k, ca, ?_⟩
          rw [← HX.out]
          exact HV
  case rest =>
  obtain ⟨A, na, ca, HV⟩ := hcut
  obtain ⟨⟨b0, b1⟩, bf0, bf1⟩ := row2 HV.out.1.box
  obtain ⟨⟨r0, r1⟩, rf0, rf1⟩ := row2 HV.out.1.res
  clear HV1 HI1
  go_wp2_with fail
  obtain ⟨W8, e8, k8, o8, z8, p8, q8, t8⟩ := set1D HV.out.1.res (i := 0) (.slice E ne ce)
  rw [e8]
  clear e8
  obtain ⟨W9, e9, k9, o9, z9, p9, q9, t9⟩ := set1D k8 (i := 1) (.slice A na ca)
  rw [e9]
  clear e9
  obtain ⟨⟨y0', y1'⟩, _, _⟩ := row2 k9
  have hgr : wc.grownBy W9 (some w.heap.size) := ⟨p9.trans p8, q9.trans q8, t9.trans t8, by rw [z9, z8]; exact Nat.le_refl _, fun b _ hne => (o9 b (fun e => hne (by rw [e]))).trans (o8 b (fun e => hne (by rw [e])))⟩
  have hT := (HV.out.1.row.grown hgr HV.out.1.res (by decide) (by decide)).low (show w.heap.size ≤ lo by omega)
  have hV := HV.out.2.grown hgr HV.out.2.size (fun b e => by injection e with e; omega)
  refine bodyPost_ret (v := .agg #[.slice E ne ce, .slice A na ca]) (by simp [results, Try.results12, go_sem, y0', y1']) rfl ?_
  exact ⟨⟨_, rfl, E, ne, ce, A, na, ca, rfl, hT⟩, hV⟩
end Go.Proofs.Ytiokiecnglmbnaa
