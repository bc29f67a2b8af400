/-
  Runs: rows of steps, each with its row of questions and answers. No function of the program.
  The program's Of. Condition: the run's length.
  The reference's Of. Condition: the run's length.
-/
import Derived.Test.YtiokiecnglmbnaaK57
import Derived.Test.YtiokiecnglmbnaaK44
import Derived.Test.YtiokiecnglmbnaaK27
import Derived.Test.YtiokiecnglmbnaaK21
import Derived.Deep.CutBlock
import Derived.Test.YtiokiecnglmbnaaK37
import Derived.Test.YtiokiecnglmbnaaK40
import Derived.Test.YtiokiecnglmbnaaK15
import Derived.Test.YtiokiecnglmbnaaK31

namespace Go.Proofs.Ytiokiecnglmbnaa
open Go Go.RowKit Go.Proofs
/-- A step of a run, and where its questions lie. -/
structure Rec where
  ev : NM.Ev
  B : Option Addr
  c : Nat
  l : List TP.An
def stC (r : Rec) : List Value := [.int .i64 r.ev.k, .int .i64 r.ev.n, .int .i64 r.ev.a, .int .i64 r.ev.m.c, .int .i64 r.ev.m.h, .int .i64 r.ev.m.t, .int .i64 r.ev.m.i, .int .i64 r.ev.m.p, .slice r.B r.l.length r.c, .bool false, .slice none 0 0]
def stE : RS.Enc Rec := ⟨stC, 11, fun _ => rfl, fun x u hu => by
  simp only [stC, List.mem_cons, List.not_mem_nil, or_false] at hu
  rcases hu with rfl | rfl | rfl | rfl | rfl | rfl | rfl | rfl | rfl | rfl | rfl <;> rfl⟩
/-- A run, wherever it lies. -/
def Run (w : World) (A : Option Addr) (n c : Nat) (R : List Rec) : Prop := RS.Sl stE w A n c R ∧ ∀ r ∈ R, Asks w r.B r.l.length r.l ∧ r.l.length ≤ 100
theorem Run.keep {w w' : World} {A : Option Addr} {n c : Nat} {R : List Rec} (h : Run w A n c R) (hb : Below w.heap.size w w') : Run w' A n c R :=
  ⟨h.1.keep hb, fun r hr => ⟨(h.2 r hr).1.keep hb, (h.2 r hr).2⟩⟩
theorem Run.at_ {w : World} {A : Option Addr} {n c k : Nat} {R : List Rec} {r : Rec} (h : Run w A n c R) (hk : R[k]? = some r) : ∃ g, A = some ⟨g, 0, none⟩ ∧ g < w.heap.size ∧ ∀ V, Below w.heap.size w V → ((V.cell? ⟨g, k * 11, none⟩ = some (.int .i64 r.ev.k) ∧ V.cell? ⟨g, k * 11 + 1, none⟩ = some (.int .i64 r.ev.n)) ∧ V.cell? ⟨g, k * 11 + 2, none⟩ = some (.int .i64 r.ev.a) ∧ V.cell? ⟨g, k * 11 + 3, none⟩ = some (.int .i64 r.ev.m.c)) ∧ (V.cell? ⟨g, k * 11 + 4, none⟩ = some (.int .i64 r.ev.m.h) ∧ V.cell? ⟨g, k * 11 + 5, none⟩ = some (.int .i64 r.ev.m.t)) ∧ (V.cell? ⟨g, k * 11 + 6, none⟩ = some (.int .i64 r.ev.m.i) ∧ V.cell? ⟨g, k * 11 + 7, none⟩ = some (.int .i64 r.ev.m.p)) ∧ V.cell? ⟨g, k * 11 + 8, none⟩ = some (.slice r.B r.l.length r.c) ∧ V.cell? ⟨g, k * 11 + 9, none⟩ = some (.bool false) ∧ V.cell? ⟨g, k * 11 + 10, none⟩ = some (.slice none 0 0) := by
  obtain ⟨g, e, hg, hat⟩ := h.1.get hk
  refine ⟨g, e, hg, fun V hV => ?_⟩
  have hc : ∀ o u, (stC r)[o]? = some u → V.cell? ⟨g, k * 11 + o, none⟩ = some u := fun o u hu => (hV.cell (p := ⟨g, k * 11 + o, none⟩) hg).trans (hat o u hu)
  exact ⟨⟨⟨hc 0 _ rfl, hc 1 _ rfl⟩, hc 2 _ rfl, hc 3 _ rfl⟩, ⟨hc 4 _ rfl, hc 5 _ rfl⟩, ⟨hc 6 _ rfl, hc 7 _ rfl⟩, hc 8 _ rfl, hc 9 _ rfl, hc 10 _ rfl⟩
theorem Run.of_own {w : World} {lo n c : Nat} {A : Option Addr} {R : List Rec} (h : w.ownsRow lo 51 11 (.slice A n c) n (R.flatMap stC)) (hl : R.length = n) (hr : ∀ r ∈ R, Asks w r.B r.l.length r.l ∧ r.l.length ≤ 100) : Run w A n c R :=
  ⟨RS.Sl.of_own (E := stE) (t := 51) (base := lo) h hl, hr⟩
theorem map_ev_next {R : List Rec} {k : Nat} {r : Rec} (h : R[k]? = some r) : (R.take (k + 1)).map (·.ev) = (R.take k).map (·.ev) ++ [r.ev] := by
  rw [List.take_add_one, h, List.map_append]
  rfl
theorem flat_l_next {R : List Rec} {k : Nat} {r : Rec} (h : R[k]? = some r) : (R.take (k + 1)).flatMap (·.l) = (R.take k).flatMap (·.l) ++ r.l := by
  rw [List.take_add_one, h, List.flatMap_append]
  simp
end Go.Proofs.Ytiokiecnglmbnaa

namespace Go.Proofs.Ytiokiecnglmbnaa
open Go Go.RowKit Go.Proofs
attribute [local go_sem] Oper.semAt_some

theorem row7S {V : World} {g : Nat} {t : TypeId} {x0 x1 x2 x3 x4 x5 x6 : Value} (h : V.heap[g]? = some (.cells #[x0, x1, x2, x3, x4, x5, x6] t (0, 0))) : V.cell? ⟨g, 0, none⟩ = some x0 ∧ V.cell? ⟨g, 1, none⟩ = some x1 ∧ V.cell? ⟨g, 2, none⟩ = some x2 ∧ V.cell? ⟨g, 3, none⟩ = some x3 ∧ V.cell? ⟨g, 4, none⟩ = some x4 ∧ V.cell? ⟨g, 5, none⟩ = some x5 ∧ V.cell? ⟨g, 6, none⟩ = some x6 :=
  ⟨cell_of_row _ _ 0 _ _ (0, 0) h, cell_of_row _ _ 1 _ _ (0, 0) h, cell_of_row _ _ 2 _ _ (0, 0) h, cell_of_row _ _ 3 _ _ (0, 0) h, cell_of_row _ _ 4 _ _ (0, 0) h, cell_of_row _ _ 5 _ _ (0, 0) h, cell_of_row _ _ 6 _ _ (0, 0) h⟩
set_option maxHeartbeats 8000000 in
set_option maxRecDepth 100000 in
theorem of_any {A : Option Addr} {n c : Nat} {R : List Rec} (w : World) (h : Run w A n c R) (hn : n ≤ 1000) :
    Calls Try.prog 27 #[.slice A n c] w fun e w' => (∃ v, e = .returned v ∧ TapeN w.heap.size w' v (R.map (·.ev)) (TP.normA (R.flatMap (·.l)))) ∧ Below w.heap.size w w' := by
  obtain ⟨iE, hiE, hzE, hsE, hbE⟩ := info_splitE info_event
  obtain ⟨iA, hiA, hzA, hsA, hbA⟩ := info_split' info_answer
  obtain ⟨U, hU, hb, k1, k2, _⟩ := two_boxes w (.cells #[.slice none 0 0, .slice none 0 0] 26) (.cells #[.slice none 0 0, .slice none 0 0] 26)
  have hsU : U.heap.size = w.heap.size + 1 + 1 := by rw [← hU]; simp
  obtain ⟨lo, hlo⟩ : ∃ lo, U.heap.size = lo := ⟨_, rfl⟩
  obtain ⟨t5, ht5⟩ : ∃ t, w.heap.size + 1 = t := ⟨_, rfl⟩
  rw [ht5] at k2
  have H0 := Lib.hid (And.intro (⟨k2, k1, ⟨⟨rfl, rfl⟩, World.ownsRow_nil _ _ _ _, World.ownsRow_nil _ _ _ _⟩, by omega, by omega⟩ : TbAt lo t5 w.heap.size U none 0 0 none 0 0 [] []) hb)
  have HR := Lib.hid h
  have hrl : R.length = n := h.1.len
  clear h k1 k2 hb
  go_enter Try.func27, Try.ntmps27
  go_upto_block 0 with (fail)
  try rw [hU]
  try rw [ht5]
  have hw5 : w.heap.size < t5 := by omega
  have hl5 : lo = t5 + 1 := by omega
  clear hU hsU hlo ht5
  go_cut [] from 10 (fun V => ∃ E ne ce B na ca, na ≤ 100000 ∧ ne ≤ 1000 ∧ Hid (TbAt lo t5 w.heap.size V E ne ce B na ca (R.map (·.ev)) (R.flatMap (·.l)) ∧ Below w.heap.size w V))
  case first =>
    go_wp2_with fail
    go_loopw [10] (fun i V => ∃ (k ce na ca : Nat) (E B : Option Addr), k ≤ n ∧ na ≤ 100 * k ∧ i = .int .i64 (k : Int) ∧ Hid (TbAt lo t5 w.heap.size V E k ce B na ca ((R.take k).map (·.ev)) ((R.take k).flatMap (·.l)) ∧ Below w.heap.size w V)) (fun i _ => n - (intOf i).toNat)
    case atStart => exact ⟨0, 0, 0, 0, none, none, by omega, by omega, rfl, H0.out⟩
    case round =>
      obtain ⟨k, ce, na, ca, E, B, hk, hna, rfl, HV⟩ := hrel
      by_cases hin : k < n
      · have dk : decide (k < n) = true := decide_eq_true hin
        have dk2 : decide ((k : Int) < (n : Int)) = true := decide_eq_true (by omega)
        obtain ⟨r, hr⟩ : ∃ r, R[k]? = some r := ⟨_, List.getElem?_eq_getElem (by omega)⟩
        obtain ⟨g, hg, hgl, hat⟩ := HR.out.at_ hr
        obtain ⟨hask, hr100⟩ := HR.out.2 r (List.mem_of_getElem? hr)
        have HX := Lib.hid (And.intro (map_ev_next hr) (flat_l_next hr))
        obtain ⟨⟨xk, xn, xa, ⟨xc, xh, xt, xi, xp⟩⟩, rB, rc, rl⟩ := r
        have HAT := Lib.hid hat
        have HAS := Lib.hid (show Asks w rB rl.length rl from hask)
        have hrl1 : rl.length ≤ 100 := hr100
        subst hg
        obtain ⟨⟨⟨c0, c1⟩, c2, c3⟩, ⟨c4, c5⟩, ⟨c6, c7⟩, c8, c9, c10⟩ := hat wr HV.out.2
        clear hat hr hask hr100
        go_upto_region 5 with (fail)
        clear c0 c1 c2 c3 c4 c5 c6 c7 c8 c9 c10
        obtain ⟨U1, hU1⟩ : ∃ U, wr.alloc (.cells #[.int .i64 xk, .int .i64 xn, .int .i64 xa, .int .i64 xc, .int .i64 xh, .int .i64 xt, .int .i64 xi, .int .i64 xp, .slice rB rl.length rc, .bool false, .slice none 0 0] 51) = U := ⟨_, rfl⟩
        try rw [hU1]
        have hb1 : Below wr.heap.size wr U1 := hU1 ▸ one_box wr _
        obtain ⟨g5, hg5⟩ : ∃ g, g = wr.heap.size := ⟨_, rfl⟩
        try rw [← hg5]
        have k5 : U1.heap[g5]? = some (.cells #[.int .i64 xk, .int .i64 xn, .int .i64 xa, .int .i64 xc, .int .i64 xh, .int .i64 xt, .int .i64 xi, .int .i64 xp, .slice rB rl.length rc, .bool false, .slice none 0 0] 51 (0, 0)) := by rw [hg5, ← hU1]; exact new_at rfl
        have hl5b := heap_lt HV.out.1.box
        have hg5t : t5 < g5 := by omega
        have H1 := Lib.hid (And.intro (HV.out.1.below hb1) (HV.out.2.trans (hb1.mono HV.out.2.size)))
        obtain ⟨d0, d1, d2, d3, d4, d5, d6, d7, d8, d9, d10⟩ := row11 k5
        obtain ⟨⟨b0, b1⟩, bf0, bf1⟩ := row2 H1.out.1.box
        have hlU := heap_lt k5
        have HK5 := Lib.hid k5
        clear hb1 hU1 hg5 k5 hl5b
        go_upto_region 6 with (at_builtin; refine wpList_append_lies _ rfl (.tmp 15) (.tmp 18) 23 rfl lo 47 iE _ 8 64 Try.underlying23 hiE hzE hsE hbE rfl (by decide) (.slice E k ce) k (((R.take k).map (·.ev)).flatMap evC) (by simp [Act.eval]) (own_belowT H1.out.1.row.2.1 (one_box U1 _)) ⟨U1.heap.size, 0, none⟩ 1 1 (evC (⟨xk, xn, xa, ⟨xc, xh, xt, xi, xp⟩⟩ : NM.Ev)) (by simp [Act.eval]) rfl (World.news_of_block (World.alloc_heap_new U1 _)) (by simp [evC, Value.oneCell']) (by decide) (by simp only [maxLen]; omega) (by omega) (by simp; omega) _ rfl ?_
                               intro g7 c7 w7 hown7 hgr7 _ _
                               have D7 := H1.out.1.below (one_box U1 (.cells #[.int .i64 xk, .int .i64 xn, .int .i64 xa, .int .i64 xc, .int .i64 xh, .int .i64 xt, .int .i64 xi, .int .i64 xp] 47))
                               have hob : ∀ b, (Value.slice E k ce).ownBlock = some b → lo ≤ b := fun b hb => (evRow_ne D7.row.2.1 hb).1
                               obtain ⟨⟨p0, p1⟩, pf0, pf1⟩ := row2 ((hgr7.block t5 (heap_lt D7.box) (fun e => by have := hob _ e.symm; omega)).trans D7.box)
                               have hk5' : w7.heap[g5]? = _ := (hgr7.block g5 (by simp; omega) (fun e => by
                                 obtain ⟨_, C, hC⟩ := evRow_ne D7.row.2.1 e.symm
                                 rw [((one_box U1 (.cells #[.int .i64 xk, .int .i64 xn, .int .i64 xa, .int .i64 xc, .int .i64 xh, .int .i64 xt, .int .i64 xi, .int .i64 xp] 47)).block g5 hlU).trans HK5.out] at hC
                                 injection hC with hC
                                 injection hC with _ hC
                                 cases hC)).trans (((one_box U1 (.cells #[.int .i64 xk, .int .i64 xn, .int .i64 xa, .int .i64 xc, .int .i64 xh, .int .i64 xt, .int .i64 xi, .int .i64 xp] 47)).block g5 hlU).trans HK5.out)
                               have V7 := (H1.out.2.trans ((one_box U1 (.cells #[.int .i64 xk, .int .i64 xn, .int .i64 xa, .int .i64 xc, .int .i64 xh, .int .i64 xt, .int .i64 xi, .int .i64 xp] 47)).mono H1.out.2.size)).grown hgr7 (by have := H1.out.2.size; simp; omega) (fun b e => by have := hob _ e; omega)
                               have D8 := D7.event hown7 hgr7
                               have V8 := V7.setCell (p := ⟨t5, 0, none⟩) (by show w.heap.size ≤ t5; omega) (.slice (some ⟨g7, 0, none⟩) (k + 1) c7)
                               have hk6 : (w7.setCell ⟨t5, 0, none⟩ (.slice (some ⟨g7, 0, none⟩) (k + 1) c7)).heap[g5]? = _ := (Below.heap_setCell w7 ⟨t5, 0, none⟩ _ g5 (show g5 ≠ t5 by omega)).trans hk5'
                               have H8 := Lib.hid (And.intro D8 V8)
                               obtain ⟨f0, f1, f2, f3, f4, f5, f6, f7, f8, f9, f10⟩ := row11 hk6
                               clear D7 hown7 hgr7 hob V7 D8 V8 hk5' hk6 d0 d1 d2 d3 d4 d5 d6 d7 d8 d9 d10)
        have HX1 := Lib.hid HX.out.1
        have HX2 := Lib.hid HX.out.2
        rw [← HX1.out] at H8
        obtain ⟨wo, hwo⟩ : ∃ W, W = w7.setCell ⟨t5, 0, none⟩ (.slice (some ⟨g7, 0, none⟩) (k + 1) c7) := ⟨_, rfl⟩
        rw [← hwo] at H8 f0 f1 f2 f3 f4 f5 f6 f7 f8 f9 f10
        try rw [← hwo]
        clear HX p0 p1 pf0 pf1 b0 b1 bf0 bf1 HK5 hwo
        go_wp2_with fail
        go_loopw [24] (fun i V => ∃ (j na2 ca2 : Nat) (B2 : Option Addr), j ≤ rl.length ∧ na2 ≤ 100 * k + j ∧ i = .int .i64 (j : Int) ∧ Hid (TbAt lo t5 w.heap.size V (some ⟨g7, 0, none⟩) (k + 1) c7 B2 na2 ca2 ((R.take (k + 1)).map (·.ev)) ((R.take k).flatMap (·.l) ++ rl.take j) ∧ Below w.heap.size w V)) (fun i _ => rl.length - (intOf i).toNat)
        case atStart => exact ⟨0, na, ca, B, by omega, by omega, rfl, by rw [List.take_zero, List.append_nil]; exact H8.out⟩
        case round =>
          clear f0 f1 f2 f3 f4 f5 f6 f7 f8 f9 f10
          obtain ⟨j, na2, ca2, B2, hj, hna2, rfl, HW⟩ := hrel
          by_cases hjn : j < rl.length
          · have dj : decide (j < rl.length) = true := decide_eq_true hjn
            have dj2 : decide ((j : Int) < (rl.length : Int)) = true := decide_eq_true (by omega)
            obtain ⟨x, hx⟩ : ∃ x, rl[j]? = some x := ⟨_, List.getElem?_eq_getElem hjn⟩
            obtain ⟨gB, hgB, hglB, hxa⟩ := HAS.out.2 (by omega)
            obtain ⟨qr, c0, c1, c2, c3, c4, c5, c6⟩ := (hxa j x hx).keep hglB HW.out.2
            have HXJ := Lib.hid (show rl.take (j + 1) = rl.take j ++ [x] from by rw [List.take_add_one, hx]; rfl)
            obtain ⟨⟨qc, qh, qt, qk, qi⟩, y⟩ := x
            subst hgB
            clear hxa hx
            go_upto_region 9 with (fail)
            clear c0 c1 c2 c3 c4 c5 c6
            obtain ⟨U2, hU2⟩ : ∃ U, wr.alloc (.cells #[.int .i64 qc, .int .i64 qh, .int .i64 qt, .int .i64 qk, .int .i64 qi, .int .i64 qr, .int .i64 y] 96) = U := ⟨_, rfl⟩
            try rw [hU2]
            have hb2 : Below wr.heap.size wr U2 := hU2 ▸ one_box wr _
            obtain ⟨gq, hgq⟩ : ∃ g, g = wr.heap.size := ⟨_, rfl⟩
            try rw [← hgq]
            obtain ⟨d0, d1, d2, d3, d4, d5, d6⟩ := row7S (show U2.heap[gq]? = some (.cells #[.int .i64 qc, .int .i64 qh, .int .i64 qt, .int .i64 qk, .int .i64 qi, .int .i64 qr, .int .i64 y] 96 (0, 0)) by rw [hgq, ← hU2]; exact new_at rfl)
            have H2 := Lib.hid (And.intro (HW.out.1.below hb2) (HW.out.2.trans (hb2.mono HW.out.2.size)))
            obtain ⟨⟨b0, b1⟩, bf0, bf1⟩ := row2 H2.out.1.box
            have hlB := heap_lt H2.out.1.box
            clear hb2 hU2 hgq
            go_wp2_with (at_builtin; refine wpList_append_lies _ rfl (.tmp 29) (.tmp 35) 24 rfl lo 71 iA _ 6 48 Try.underlying24 hiA hzA hsA hbA rfl (by decide) (.slice B2 na2 ca2) na2 (TP.ansC ((R.take k).flatMap (·.l) ++ rl.take j)) (by simp [Act.eval]) (own_belowT H2.out.1.row.2.2 (one_box U2 _)) ⟨U2.heap.size, 0, none⟩ 1 1 (TP.anC ((⟨qc, qh, qt, qk, qi⟩ : NM.Qu), y)) (by simp [Act.eval]) rfl (World.news_of_block (World.alloc_heap_new U2 _)) (by simp [TP.anC, Value.oneCell']) (by decide) (by simp only [maxLen]; omega) (by omega) (by simp; omega) _ rfl ?_
                         intro g8 c8 w8 hown8 hgr8 _ _
                         have D8 := H2.out.1.below (one_box U2 (.cells #[.int .i64 qc, .int .i64 qh, .int .i64 qt, .int .i64 qk, .int .i64 qi, .int .i64 y] 71))
                         have hob : ∀ b, (Value.slice B2 na2 ca2).ownBlock = some b → lo ≤ b := fun b hb => (anRow_ne D8.row.2.2 hb).1
                         obtain ⟨⟨p0, p1⟩, pf0, pf1⟩ := row2 ((hgr8.block t5 (heap_lt D8.box) (fun e => by have := hob _ e.symm; omega)).trans D8.box)
                         have V8 := (H2.out.2.trans ((one_box U2 (.cells #[.int .i64 qc, .int .i64 qh, .int .i64 qt, .int .i64 qk, .int .i64 qi, .int .i64 y] 71)).mono H2.out.2.size)).grown hgr8 (by have := H2.out.2.size; simp; omega) (fun b e => by have := hob _ e; omega)
                         have D9 := Lib.hid (D8.answer hown8 hgr8)
                         have V9 := Lib.hid (V8.setCell (p := ⟨t5, 1, none⟩) (by show w.heap.size ≤ t5; omega) (.slice (some ⟨g8, 0, none⟩) (na2 + 1) c8))
                         clear D8 hown8 hgr8 hob V8)
            go_roundw
            case rel => exact ⟨j + 1, na2 + 1, c8, _, by omega, by omega, by go_num, by rw [HXJ.out, ← List.append_assoc]; exact ⟨D9.out, V9.out⟩⟩
            case measure => simp [intOf]; omega
          · have dj : decide (j < rl.length) = false := decide_eq_false hjn
            have dj2 : decide ((j : Int) < (rl.length : Int)) = false := decide_eq_false (by omega)
            have HTJ := Lib.hid (show rl.take j = rl from List.take_of_length_le (by omega))
            rw [HTJ.out, ← HX2.out] at HW
            go_wp2_with fail
            go_roundw
            case rel => exact ⟨k + 1, c7, na2, ca2, _, B2, by omega, by omega, by go_num, HW.out⟩
            case measure => simp [intOf]; omega
      · have dk : decide (k < n) = false := decide_eq_false hin
        have dk2 : decide ((k : Int) < (n : Int)) = false := decide_eq_false (by omega)
        obtain rfl : k = n := by omega
        have HT := Lib.hid (show R.take k = R from List.take_of_length_le (by omega))
        rw [HT.out] at HV
        go_wp2_with fail
        go_meet
        case rel => exact ⟨E, k, ce, B, na, ca, by omega, by omega, HV.out⟩
  case rest =>
  obtain ⟨E, ne, ce, B, na, ca, bna, bne, HV⟩ := hcut
  obtain ⟨⟨b0, b1⟩, bf0, bf1⟩ := row2 HV.out.1.box
  clear H0
  have HN := Lib.hid (normal_any (ce := ce) (ca := ca) wc (HV.out.1.row.tin (by omega) (by omega)))
  have hlr := heap_lt HV.out.1.res
  go_wp2_with (first
    | (go_at_call 17; refine HN.out.mono ?_; clear HN; rintro e w3 ⟨⟨v, rfl, E', ne', ce', A', na', ca', rfl, ht⟩, hb3⟩
       have hR3 := (hb3.block w.heap.size hlr).trans HV.out.1.res
       have HT := Lib.hid (And.intro (show TapeIs wc.heap.size w3 E' ne' ce' A' na' ca' (R.map (·.ev)) (TP.normA (R.flatMap (·.l))) from ht) (And.intro hb3 hR3))
       clear ht hb3 hR3)
    | (refine RgX.wpList_store_seg rfl 26 _ _ rfl w.heap.size 0 (.agg #[.slice E' ne' ce', .slice A' na' ca']) rfl rfl 26 _ HT.out.2.2 (by rw [size_tape]; rfl) (by show 0 + 2 ≤ 2; omega) (by simp [Value.cells, Value.oneCell']) #[.slice E' ne' ce', .slice A' na' ca'] rfl ?_; intro W4 k4 ho4 hz4 hb4))
  obtain ⟨⟨r0, r1⟩, _, _⟩ := row2 k4
  have hgr : w3.grownBy W4 (some w.heap.size) := ⟨hb4.os, hb4.tape, hb4.output, by omega, fun b _ hne => ho4 b (fun e => hne (by rw [e]))⟩
  have hs1 := HV.out.2.size
  have hT4 := (TapeIs.grown HT.out.1 hgr HT.out.2.2 (by decide) (by decide)).low (show w.heap.size ≤ wc.heap.size from hs1)
  refine bodyPost_ret (v := .agg #[.slice E' ne' ce', .slice A' na' ca']) (by simp [results, Try.results27, go_sem, r0, r1]) rfl ?_
  exact ⟨⟨_, rfl, E', ne', ce', A', na', ca', rfl, hT4⟩, HV.out.2.trans ((HT.out.2.1.mono hs1).trans hb4)⟩
end Go.Proofs.Ytiokiecnglmbnaa

namespace Go.Proofs.Ytiokiecnglmbnaa
open Go Go.RowKit Go.Proofs
attribute [local go_sem] Oper.semAt_some

theorem size_anssF : (Try.prog.info? 24).map (·.size) = some 1 := by kernel_rfl
set_option maxHeartbeats 16000000 in
set_option maxRecDepth 100000 in
theorem refOf_any {A : Option Addr} {n c : Nat} {R : List Rec} (w : World) (h : Run w A n c R) (hn : n ≤ 8) :
    Calls Try.prog 28 #[.slice A n c] w fun e w' => (∃ v E ce B m d, e = .returned v ∧ v = .agg #[.slice E n ce, .slice B m d] ∧ TIn w' E n ce B m (R.map (·.ev)) (TP.normA (R.flatMap (·.l)))) ∧ Below w.heap.size w w' := by
  obtain ⟨iE, hiE, hzE, hsE, hbE⟩ := info_splitE info_event
  obtain ⟨iA, hiA, hzA, hsA, hbA⟩ := info_split' info_answer
  obtain ⟨U, hU, hb, k1, k2, _⟩ := two_boxes w (.cells #[.slice none 0 0, .slice none 0 0] 26) (.cells #[.slice none 0 0, .slice none 0 0] 26)
  have hsU : U.heap.size = w.heap.size + 1 + 1 := by rw [← hU]; simp
  obtain ⟨lo, hlo⟩ : ∃ lo, U.heap.size = lo := ⟨_, rfl⟩
  obtain ⟨t3, ht3⟩ : ∃ t, w.heap.size + 1 = t := ⟨_, rfl⟩
  rw [ht3] at k2
  have H0 := Lib.hid (And.intro (⟨k2, k1, ⟨⟨rfl, rfl⟩, World.ownsRow_nil _ _ _ _, World.ownsRow_nil _ _ _ _⟩, by omega, by omega⟩ : TbAt lo t3 w.heap.size U none 0 0 none 0 0 [] []) hb)
  have HR := Lib.hid h
  have hrl : R.length = n := h.1.len
  clear h k1 k2 hb
  go_enter Try.func28, Try.ntmps28
  go_upto_block 0 with (fail)
  try rw [hU]
  try rw [ht3]
  have hw3 : w.heap.size < t3 := by omega
  have hl3 : lo = t3 + 1 := by omega
  clear hU hsU hlo ht3
  go_cut [] from 6 (fun V => ∃ E ce B na ca, na ≤ 1000 ∧ Hid (TbAt lo t3 w.heap.size V E n ce B na ca (R.map (·.ev)) (R.flatMap (·.l)) ∧ Below w.heap.size w V))
  case first =>
    go_wp2_with fail
    go_loopw [4] (fun i V => ∃ (k ce na ca : Nat) (E B : Option Addr), k ≤ n ∧ na ≤ 100 * k ∧ i = .int .i64 (k : Int) ∧ Hid (TbAt lo t3 w.heap.size V E k ce B na ca ((R.take k).map (·.ev)) ((R.take k).flatMap (·.l)) ∧ Below w.heap.size w V)) (fun i _ => n - (intOf i).toNat)
    case atStart => exact ⟨0, 0, 0, 0, none, none, by omega, by omega, rfl, H0.out⟩
    case round =>
      obtain ⟨k, ce, na, ca, E, B, hk, hna, rfl, HV⟩ := hrel
      by_cases hin : k < n
      · have dk : decide (k < n) = true := decide_eq_true hin
        have dk2 : decide ((k : Int) < (n : Int)) = true := decide_eq_true (by omega)
        have hki : (k : Int) < (n : Int) := by omega
        obtain ⟨r, hr⟩ : ∃ r, R[k]? = some r := ⟨_, List.getElem?_eq_getElem (by omega)⟩
        obtain ⟨g, hg, hgl, hat⟩ := HR.out.at_ hr
        obtain ⟨hask, hr100⟩ := HR.out.2 r (List.mem_of_getElem? hr)
        have hx0 := And.intro (map_ev_next hr) (flat_l_next hr)
        obtain ⟨⟨xk, xn, xa, ⟨xc, xh, xt, xi, xp⟩⟩, rB, rc, rl⟩ := r
        dsimp only at hat hx0
        have HX := Lib.hid hx0
        have HAT := Lib.hid hat
        clear hx0
        have HAS := Lib.hid (show Asks w rB rl.length rl from hask)
        have hrl1 : rl.length ≤ 100 := hr100
        subst hg
        obtain ⟨⟨⟨c0, c1⟩, c2, c3⟩, ⟨c4, c5⟩, ⟨c6, c7⟩, c8, c9, c10⟩ := hat wr HV.out.2
        obtain ⟨⟨b0, b1⟩, bf0, bf1⟩ := row2 HV.out.1.box
        have hlg := heap_lt HV.out.1.box
        clear hat hr hask hr100
        go_upto_region 5 with (fail)
        have hA0 : ∀ o : Obj, (wr.alloc o).cell? ⟨t3, 0, none⟩ = some (.slice E k ce) := fun o => (World.cell?_of_block (w := wr) (Below.heap_alloc _ _ _ hlg)).trans b0
        have hA1 : ∀ o : Obj, (wr.alloc o).drew.cell? ⟨t3, 0, none⟩ = some (.slice E k ce) := fun o => hA0 o
        go_region_law (first
          | (refine step_append_lies _ rfl (.tmp 13) (.tmp 19) 23 rfl lo 47 iE _ 8 64 Try.underlying23 hiE hzE hsE hbE rfl (by decide) (.slice E k ce) k (((R.take k).map (·.ev)).flatMap evC) (by simp [Act.eval]) (own_belowT HV.out.1.row.2.1 (by first | exact one_box wr _ | exact (one_box wr _).drew)) ⟨wr.heap.size, 0, none⟩ 1 1 (evC (⟨xk, xn, xa, ⟨xc, xh, xt, xi, xp⟩⟩ : NM.Ev)) (by simp [Act.eval]) rfl (World.news_of_block (World.alloc_heap_new wr _)) (by simp [evC, Value.oneCell']) (by decide) (by simp only [maxLen]; omega) (by omega) (by simp; omega) _ rfl ?_
             intro g7 cc w7 hown7 hgr7 _ _
             have D7 := HV.out.1.below ((one_box wr (.cells #[.int .i64 xk, .int .i64 xn, .int .i64 xa, .int .i64 xc, .int .i64 xh, .int .i64 xt, .int .i64 xi, .int .i64 xp] 47)).drew)
             have hob : ∀ b, (Value.slice E k ce).ownBlock = some b → lo ≤ b := fun b hb => (evRow_ne D7.row.2.1 hb).1
             obtain ⟨⟨p0, p1⟩, pf0, pf1⟩ := row2 ((hgr7.block t3 (heap_lt D7.box) (fun e => by have := hob _ e.symm; omega)).trans D7.box)
             have V7 := (HV.out.2.trans ((one_box wr (.cells #[.int .i64 xk, .int .i64 xn, .int .i64 xa, .int .i64 xc, .int .i64 xh, .int .i64 xt, .int .i64 xi, .int .i64 xp] 47)).drew.mono HV.out.2.size)).grown hgr7 (by have := HV.out.2.size; simp; omega) (fun b e => by have := hob _ e; omega)
             have H8 := Lib.hid (And.intro (D7.event hown7 hgr7) (V7.setCell (p := ⟨t3, 0, none⟩) (by show w.heap.size ≤ t3; omega) (.slice (some ⟨g7, 0, none⟩) (k + 1) cc)))
             clear D7 hown7 hgr7 hob V7))
        all_goals
          have HX1 := Lib.hid HX.out.1
          have HX2 := Lib.hid HX.out.2
          rw [← HX1.out] at H8
          obtain ⟨wo, hwo⟩ : ∃ W, W = w7.setCell ⟨t3, 0, none⟩ (.slice (some ⟨g7, 0, none⟩) (k + 1) cc) := ⟨_, rfl⟩
          rw [← hwo] at H8
          try rw [← hwo]
          clear HX p0 p1 pf0 pf1 b0 b1 bf0 bf1 hA0 hA1 c0 c1 c2 c3 c4 c5 c6 c7 c8 c9 c10 hwo
          obtain ⟨wq, hwq⟩ : ∃ W, W = wr := ⟨_, rfl⟩
          subst hwq
          go_wp2_with fail
          go_loopw [5] (fun i V => ∃ (j na2 ca2 : Nat) (B2 : Option Addr), j ≤ rl.length ∧ na2 ≤ 100 * k + j ∧ i = .int .i64 (j : Int) ∧ Hid (TbAt lo t3 w.heap.size V (some ⟨g7, 0, none⟩) (k + 1) cc B2 na2 ca2 ((R.take (k + 1)).map (·.ev)) ((R.take k).flatMap (·.l) ++ rl.take j) ∧ Below w.heap.size w V)) (fun i _ => rl.length - (intOf i).toNat)
          case atStart => exact ⟨0, na, ca, B, by omega, by omega, rfl, by rw [List.take_zero, List.append_nil]; exact H8.out⟩
          case round =>
            obtain ⟨j, na2, ca2, B2, hj, hna2, rfl, HW⟩ := hrel
            obtain ⟨_, _, _, s8, _⟩ := HAT.out wr HW.out.2
            by_cases hjn : j < rl.length
            · have dj : decide (j < rl.length) = true := decide_eq_true hjn
              have dj2 : decide ((j : Int) < (rl.length : Int)) = true := decide_eq_true (by omega)
              have hji : (j : Int) < (rl.length : Int) := by omega
              obtain ⟨x, hx⟩ : ∃ x, rl[j]? = some x := ⟨_, List.getElem?_eq_getElem hjn⟩
              obtain ⟨gB, hgB, hglB, hxa⟩ := HAS.out.2 (by omega)
              have HQA := Lib.hid (fun (V : World) (hV : Below w.heap.size w V) => (hxa j x hx).keep hglB hV)
              have HXJ := Lib.hid (show rl.take (j + 1) = rl.take j ++ [x] from by rw [List.take_add_one, hx]; rfl)
              obtain ⟨⟨qc, qh, qt, qk, qi⟩, y⟩ := x
              subst hgB
              clear hxa hx
              go_upto_region 9 with (fail)
              clear s8
              have hszW := HW.out.2.size
              have hlB := heap_lt HW.out.1.box
              have HB3 := Lib.hid (fun (V : World) (hV : Below wr.heap.size wr V) => (row2 ((hV.block t3 hlB).trans HW.out.1.box)).1)
              have HA8 := Lib.hid (fun (V : World) (hV : Below wr.heap.size wr V) => (HAT.out V (HW.out.2.trans (hV.mono hszW))).2.2.2.1)
              have HQ8 := Lib.hid (fun (V : World) (hV : Below wr.heap.size wr V) => HQA.out V (HW.out.2.trans (hV.mono hszW)))
              refine RgX.tail2 24 22 (fun i => ( 32 + i)) (fun ix_ => match ix_ with | 0 => .v (.pointer (some ⟨t3, 1, none⟩)) | 1 => .v (.slice B2 na2 ca2) | 2 => .v (.slice (some ⟨g, 0, none⟩) n c) | 3 => .v (.int .i64 (k : Int)) | 4 => .v (.pointer (some ⟨g, k * 11, none⟩)) | 5 => .v (.pointer (some ⟨g, k * 11 + 8, none⟩)) | 6 => .v (.slice (some ⟨gB, 0, none⟩) rl.length rc) | 7 => .v (.int .i64 (j : Int)) | 8 => .v (.pointer (some ⟨gB, j * 7, none⟩)) | 9 => .v (.pointer (some ⟨gB, j * 7, none⟩)) | 10 => .v (.agg #[.int .i64 qc, .int .i64 qh, .int .i64 qt, .int .i64 qk, .int .i64 qi]) | 11 => .v (.slice (some ⟨g, 0, none⟩) n c) | 12 => .v (.int .i64 (k : Int)) | 13 => .v (.pointer (some ⟨g, k * 11, none⟩)) | 14 => .v (.pointer (some ⟨g, k * 11 + 8, none⟩)) | 15 => .v (.slice (some ⟨gB, 0, none⟩) rl.length rc) | 16 => .v (.int .i64 (j : Int)) | 17 => .v (.pointer (some ⟨gB, j * 7, none⟩)) | 18 => .v (.pointer (some ⟨gB, j * 7 + 6, none⟩)) | 19 => .v (.int .i64 y) | 20 => .v (.agg #[.int .i64 qc, .int .i64 qh, .int .i64 qt, .int .i64 qk, .int .i64 qi, .int .i64 y]) | 21 => .row #[.int .i64 qc, .int .i64 qh, .int .i64 qt, .int .i64 qk, .int .i64 qi, .int .i64 y] 71 1 | 22 => .any | 23 => .v (.pointer (some ⟨t3, 1, none⟩)) | _ => .any) [23] (fun ix_ => match ix_ with | 23 => .pointer (some ⟨t3, 1, none⟩) | _ => undef) _ _ (fun v w' => ∃ (B' : Option Addr) (c' : Nat), v = .slice B' (na2 + 1) c' ∧ ∃ V3, Below wr.heap.size wr V3 ∧ w'.ownsRow lo 71 6 (.slice B' (na2 + 1) c') (na2 + 1) (TP.ansC ((R.take k).flatMap (·.l) ++ rl.take j) ++ TP.anC ((⟨qc, qh, qt, qk, qi⟩ : NM.Qu), y)) ∧ V3.grownBy w' (Value.slice B2 na2 ca2).ownBlock) (by kernel_rfl) rfl rfl (by decide) rfl (by kernel_rfl) (by kernel_rfl) (by kernel_rfl) (by decide) (fun i hi => by show ( 32 + i) < 58; (repeat' split) <;> omega) (fun i j hi hj => by show ( 32 + i) = ( 32 + j) → i = j; (repeat' split) <;> omega) ?step ?app ?flo ?hF ?fin
              case step =>
                intro L_ A_ w3 ix op_ hi hnA hI ho hdep
                have hcase : ix = 0 ∨ ix = 1 ∨ ix = 2 ∨ ix = 3 ∨ ix = 4 ∨ ix = 5 ∨ ix = 6 ∨ ix = 7 ∨ ix = 8 ∨ ix = 9 ∨ ix = 10 ∨ ix = 11 ∨ ix = 12 ∨ ix = 13 ∨ ix = 14 ∨ ix = 15 ∨ ix = 16 ∨ ix = 17 ∨ ix = 18 ∨ ix = 19 ∨ ix = 20 ∨ ix = 21 ∨ ix = 23 := by omega
                have hh := hI.held
                clear hi hnA
                rcases hcase with rfl | rfl | rfl | rfl | rfl | rfl | rfl | rfl | rfl | rfl | rfl | rfl | rfl | rfl | rfl | rfl | rfl | rfl | rfl | rfl | rfl | rfl | rfl
                · simp only [List.getElem?_toArray, List.getElem?_cons_zero, Option.some.injEq] at ho
                  subst ho
                  refine ⟨rfl, ?_⟩
                  have e3 : A_.tmps[3]?.getD undef = .pointer (some ⟨t3, 0, none⟩) := by rw [hI.low 3 (by decide)]; rfl
                  clear hI hdep
                  exact .run rfl (.pointer (some ⟨t3, 1, none⟩)) w3 (by simp [execOp, go_sem, Act.eval, e3]) (Below.refl _ _) rfl
                · simp only [List.getElem?_toArray, List.getElem?_cons_succ, List.getElem?_cons_zero, Option.some.injEq] at ho
                  subst ho
                  refine ⟨rfl, ?_⟩
                  have e32 : A_.tmps[32]?.getD undef = .pointer (some ⟨t3, 1, none⟩) := getD_of (hI.val_ (i := 0) rfl rfl (by decide) (hdep ⟨0, .data⟩ (by simp) rfl))
                  clear hI hdep
                  obtain ⟨t0, t1⟩ := HB3.out w3 hh
                  exact .run rfl (.slice B2 na2 ca2) w3 (by simp [execOp, go_sem, Act.eval, *]) (Below.refl _ _) rfl
                · simp only [List.getElem?_toArray, List.getElem?_cons_succ, List.getElem?_cons_zero, Option.some.injEq] at ho
                  subst ho
                  refine ⟨rfl, ?_⟩
                  have e0 : A_.tmps[0]?.getD undef = .slice (some ⟨g, 0, none⟩) n c := by rw [hI.low 0 (by decide)]; rfl
                  clear hI hdep
                  exact .run rfl (.slice (some ⟨g, 0, none⟩) n c) w3 (by simp [execOp, go_sem, Act.eval, e0]) (Below.refl _ _) rfl
                · simp only [List.getElem?_toArray, List.getElem?_cons_succ, List.getElem?_cons_zero, Option.some.injEq] at ho
                  subst ho
                  refine ⟨rfl, ?_⟩
                  have e4 : A_.tmps[4]?.getD undef = .int .i64 (k : Int) := by rw [hI.low 4 (by decide)]; rfl
                  clear hI hdep
                  exact .run rfl (.int .i64 (k : Int)) w3 (by simp [execOp, go_sem, Act.eval, e4]) (Below.refl _ _) rfl
                · simp only [List.getElem?_toArray, List.getElem?_cons_succ, List.getElem?_cons_zero, Option.some.injEq] at ho
                  subst ho
                  refine ⟨rfl, ?_⟩
                  have e34 : A_.tmps[34]?.getD undef = .slice (some ⟨g, 0, none⟩) n c := getD_of (hI.val_ (i := 2) rfl rfl (by decide) (hdep ⟨2, .data⟩ (by simp) rfl))
                  have e35 : A_.tmps[35]?.getD undef = .int .i64 (k : Int) := getD_of (hI.val_ (i := 3) rfl rfl (by decide) (hdep ⟨3, .data⟩ (by simp) rfl))
                  clear hI hdep
                  exact .run rfl (.pointer (some ⟨g, k * 11, none⟩)) w3 (by simp [execOp, go_sem, Act.eval, e34, e35, hki]) (Below.refl _ _) rfl
                · simp only [List.getElem?_toArray, List.getElem?_cons_succ, List.getElem?_cons_zero, Option.some.injEq] at ho
                  subst ho
                  refine ⟨rfl, ?_⟩
                  have e36 : A_.tmps[36]?.getD undef = .pointer (some ⟨g, k * 11, none⟩) := getD_of (hI.val_ (i := 4) rfl rfl (by decide) (hdep ⟨4, .data⟩ (by simp) rfl))
                  clear hI hdep
                  exact .run rfl (.pointer (some ⟨g, k * 11 + 8, none⟩)) w3 (by simp [execOp, go_sem, Act.eval, e36]) (Below.refl _ _) rfl
                · simp only [List.getElem?_toArray, List.getElem?_cons_succ, List.getElem?_cons_zero, Option.some.injEq] at ho
                  subst ho
                  refine ⟨rfl, ?_⟩
                  have e37 : A_.tmps[37]?.getD undef = .pointer (some ⟨g, k * 11 + 8, none⟩) := getD_of (hI.val_ (i := 5) rfl rfl (by decide) (hdep ⟨5, .data⟩ (by simp) rfl))
                  clear hI hdep
                  have s8 := HA8.out w3 hh
                  exact .run rfl (.slice (some ⟨gB, 0, none⟩) rl.length rc) w3 (by simp [execOp, go_sem, Act.eval, e37, s8]) (Below.refl _ _) rfl
                · simp only [List.getElem?_toArray, List.getElem?_cons_succ, List.getElem?_cons_zero, Option.some.injEq] at ho
                  subst ho
                  refine ⟨rfl, ?_⟩
                  have e5 : A_.tmps[5]?.getD undef = .int .i64 (j : Int) := by rw [hI.low 5 (by decide)]; rfl
                  clear hI hdep
                  exact .run rfl (.int .i64 (j : Int)) w3 (by simp [execOp, go_sem, Act.eval, e5]) (Below.refl _ _) rfl
                · simp only [List.getElem?_toArray, List.getElem?_cons_succ, List.getElem?_cons_zero, Option.some.injEq] at ho
                  subst ho
                  refine ⟨rfl, ?_⟩
                  have e38 : A_.tmps[38]?.getD undef = .slice (some ⟨gB, 0, none⟩) rl.length rc := getD_of (hI.val_ (i := 6) rfl rfl (by decide) (hdep ⟨6, .data⟩ (by simp) rfl))
                  have e39 : A_.tmps[39]?.getD undef = .int .i64 (j : Int) := getD_of (hI.val_ (i := 7) rfl rfl (by decide) (hdep ⟨7, .data⟩ (by simp) rfl))
                  clear hI hdep
                  exact .run rfl (.pointer (some ⟨gB, j * 7, none⟩)) w3 (by simp [execOp, go_sem, Act.eval, e38, e39, hji]) (Below.refl _ _) rfl
                · simp only [List.getElem?_toArray, List.getElem?_cons_succ, List.getElem?_cons_zero, Option.some.injEq] at ho
                  subst ho
                  refine ⟨rfl, ?_⟩
                  have e40 : A_.tmps[40]?.getD undef = .pointer (some ⟨gB, j * 7, none⟩) := getD_of (hI.val_ (i := 8) rfl rfl (by decide) (hdep ⟨8, .data⟩ (by simp) rfl))
                  clear hI hdep
                  exact .run rfl (.pointer (some ⟨gB, j * 7, none⟩)) w3 (by simp [execOp, go_sem, Act.eval, e40]) (Below.refl _ _) rfl
                · simp only [List.getElem?_toArray, List.getElem?_cons_succ, List.getElem?_cons_zero, Option.some.injEq] at ho
                  subst ho
                  refine ⟨rfl, ?_⟩
                  have e41 : A_.tmps[41]?.getD undef = .pointer (some ⟨gB, j * 7, none⟩) := getD_of (hI.val_ (i := 9) rfl rfl (by decide) (hdep ⟨9, .data⟩ (by simp) rfl))
                  clear hI hdep
                  obtain ⟨_, x0, x1, x2, x3, x4, _, _⟩ := HQ8.out w3 hh
                  exact .run rfl (.agg #[.int .i64 qc, .int .i64 qh, .int .i64 qt, .int .i64 qk, .int .i64 qi]) w3 (by simp [execOp, go_sem, Act.eval, e41, x0, x1, x2, x3, x4]) (Below.refl _ _) rfl
                · simp only [List.getElem?_toArray, List.getElem?_cons_succ, List.getElem?_cons_zero, Option.some.injEq] at ho
                  subst ho
                  refine ⟨rfl, ?_⟩
                  have e0 : A_.tmps[0]?.getD undef = .slice (some ⟨g, 0, none⟩) n c := by rw [hI.low 0 (by decide)]; rfl
                  clear hI hdep
                  exact .run rfl (.slice (some ⟨g, 0, none⟩) n c) w3 (by simp [execOp, go_sem, Act.eval, e0]) (Below.refl _ _) rfl
                · simp only [List.getElem?_toArray, List.getElem?_cons_succ, List.getElem?_cons_zero, Option.some.injEq] at ho
                  subst ho
                  refine ⟨rfl, ?_⟩
                  have e4 : A_.tmps[4]?.getD undef = .int .i64 (k : Int) := by rw [hI.low 4 (by decide)]; rfl
                  clear hI hdep
                  exact .run rfl (.int .i64 (k : Int)) w3 (by simp [execOp, go_sem, Act.eval, e4]) (Below.refl _ _) rfl
                · simp only [List.getElem?_toArray, List.getElem?_cons_succ, List.getElem?_cons_zero, Option.some.injEq] at ho
                  subst ho
                  refine ⟨rfl, ?_⟩
                  have e43 : A_.tmps[43]?.getD undef = .slice (some ⟨g, 0, none⟩) n c := getD_of (hI.val_ (i := 11) rfl rfl (by decide) (hdep ⟨11, .data⟩ (by simp) rfl))
                  have e44 : A_.tmps[44]?.getD undef = .int .i64 (k : Int) := getD_of (hI.val_ (i := 12) rfl rfl (by decide) (hdep ⟨12, .data⟩ (by simp) rfl))
                  clear hI hdep
                  exact .run rfl (.pointer (some ⟨g, k * 11, none⟩)) w3 (by simp [execOp, go_sem, Act.eval, e43, e44, hki]) (Below.refl _ _) rfl
                · simp only [List.getElem?_toArray, List.getElem?_cons_succ, List.getElem?_cons_zero, Option.some.injEq] at ho
                  subst ho
                  refine ⟨rfl, ?_⟩
                  have e45 : A_.tmps[45]?.getD undef = .pointer (some ⟨g, k * 11, none⟩) := getD_of (hI.val_ (i := 13) rfl rfl (by decide) (hdep ⟨13, .data⟩ (by simp) rfl))
                  clear hI hdep
                  exact .run rfl (.pointer (some ⟨g, k * 11 + 8, none⟩)) w3 (by simp [execOp, go_sem, Act.eval, e45]) (Below.refl _ _) rfl
                · simp only [List.getElem?_toArray, List.getElem?_cons_succ, List.getElem?_cons_zero, Option.some.injEq] at ho
                  subst ho
                  refine ⟨rfl, ?_⟩
                  have e46 : A_.tmps[46]?.getD undef = .pointer (some ⟨g, k * 11 + 8, none⟩) := getD_of (hI.val_ (i := 14) rfl rfl (by decide) (hdep ⟨14, .data⟩ (by simp) rfl))
                  clear hI hdep
                  have s8 := HA8.out w3 hh
                  exact .run rfl (.slice (some ⟨gB, 0, none⟩) rl.length rc) w3 (by simp [execOp, go_sem, Act.eval, e46, s8]) (Below.refl _ _) rfl
                · simp only [List.getElem?_toArray, List.getElem?_cons_succ, List.getElem?_cons_zero, Option.some.injEq] at ho
                  subst ho
                  refine ⟨rfl, ?_⟩
                  have e5 : A_.tmps[5]?.getD undef = .int .i64 (j : Int) := by rw [hI.low 5 (by decide)]; rfl
                  clear hI hdep
                  exact .run rfl (.int .i64 (j : Int)) w3 (by simp [execOp, go_sem, Act.eval, e5]) (Below.refl _ _) rfl
                · simp only [List.getElem?_toArray, List.getElem?_cons_succ, List.getElem?_cons_zero, Option.some.injEq] at ho
                  subst ho
                  refine ⟨rfl, ?_⟩
                  have e47 : A_.tmps[47]?.getD undef = .slice (some ⟨gB, 0, none⟩) rl.length rc := getD_of (hI.val_ (i := 15) rfl rfl (by decide) (hdep ⟨15, .data⟩ (by simp) rfl))
                  have e48 : A_.tmps[48]?.getD undef = .int .i64 (j : Int) := getD_of (hI.val_ (i := 16) rfl rfl (by decide) (hdep ⟨16, .data⟩ (by simp) rfl))
                  clear hI hdep
                  exact .run rfl (.pointer (some ⟨gB, j * 7, none⟩)) w3 (by simp [execOp, go_sem, Act.eval, e47, e48, hji]) (Below.refl _ _) rfl
                · simp only [List.getElem?_toArray, List.getElem?_cons_succ, List.getElem?_cons_zero, Option.some.injEq] at ho
                  subst ho
                  refine ⟨rfl, ?_⟩
                  have e49 : A_.tmps[49]?.getD undef = .pointer (some ⟨gB, j * 7, none⟩) := getD_of (hI.val_ (i := 17) rfl rfl (by decide) (hdep ⟨17, .data⟩ (by simp) rfl))
                  clear hI hdep
                  exact .run rfl (.pointer (some ⟨gB, j * 7 + 6, none⟩)) w3 (by simp [execOp, go_sem, Act.eval, e49]) (Below.refl _ _) rfl
                · simp only [List.getElem?_toArray, List.getElem?_cons_succ, List.getElem?_cons_zero, Option.some.injEq] at ho
                  subst ho
                  refine ⟨rfl, ?_⟩
                  have e50 : A_.tmps[50]?.getD undef = .pointer (some ⟨gB, j * 7 + 6, none⟩) := getD_of (hI.val_ (i := 18) rfl rfl (by decide) (hdep ⟨18, .data⟩ (by simp) rfl))
                  clear hI hdep
                  obtain ⟨_, _, _, _, _, _, _, x6⟩ := HQ8.out w3 hh
                  exact .run rfl (.int .i64 y) w3 (by simp [execOp, go_sem, Act.eval, e50, x6]) (Below.refl _ _) rfl
                · simp only [List.getElem?_toArray, List.getElem?_cons_succ, List.getElem?_cons_zero, Option.some.injEq] at ho
                  subst ho
                  refine ⟨rfl, ?_⟩
                  have e42 : A_.tmps[42]?.getD undef = .agg #[.int .i64 qc, .int .i64 qh, .int .i64 qt, .int .i64 qk, .int .i64 qi] := getD_of (hI.val_ (i := 10) rfl rfl (by decide) (hdep ⟨10, .data⟩ (by simp) rfl))
                  have e51 : A_.tmps[51]?.getD undef = .int .i64 y := getD_of (hI.val_ (i := 19) rfl rfl (by decide) (hdep ⟨19, .data⟩ (by simp) rfl))
                  clear hI hdep
                  exact .run rfl (.agg #[.int .i64 qc, .int .i64 qh, .int .i64 qt, .int .i64 qk, .int .i64 qi, .int .i64 y]) w3 (by simp [execOp, go_sem, Act.eval, e42, e51]) (Below.refl _ _) rfl
                · simp only [List.getElem?_toArray, List.getElem?_cons_succ, List.getElem?_cons_zero, Option.some.injEq] at ho
                  subst ho
                  refine ⟨rfl, ?_⟩
                  have e52 : A_.tmps[52]?.getD undef = .agg #[.int .i64 qc, .int .i64 qh, .int .i64 qt, .int .i64 qk, .int .i64 qi, .int .i64 y] := getD_of (hI.val_ (i := 20) rfl rfl (by decide) (hdep ⟨20, .data⟩ (by simp) rfl))
                  clear hI hdep
                  exact .run rfl (.slice (some ⟨w3.heap.size, 0, none⟩) 1 1) (w3.alloc (.cells #[.int .i64 qc, .int .i64 qh, .int .i64 qt, .int .i64 qk, .int .i64 qi, .int .i64 y] 71)) (by simp [execOp, go_sem, Act.eval, e52]) ((Below.refl _ _).alloc (Nat.le_refl _) _) (RgX.row_new _ _ _ _)
                · simp only [List.getElem?_toArray, List.getElem?_cons_succ, List.getElem?_cons_zero, Option.some.injEq] at ho
                  subst ho
                  refine ⟨rfl, ?_⟩
                  have e3 : A_.tmps[3]?.getD undef = .pointer (some ⟨t3, 0, none⟩) := by rw [hI.low 3 (by decide)]; rfl
                  clear hI hdep
                  exact .run rfl (.pointer (some ⟨t3, 1, none⟩)) w3 (by simp [execOp, go_sem, Act.eval, e3]) (Below.refl _ _) rfl
              case app =>
                intro A_ w3 hs hlow hh hok
                have e33 : A_.tmps[33]?.getD undef = .slice B2 na2 ca2 := getD_of (RgX.val_at (hok 1 33 _ (by decide) (by decide) (by decide) rfl rfl))
                obtain ⟨_, q53, g53, rfl, r53⟩ := hok 21 53 _ (by decide) (by decide) (by decide) rfl rfl
                have e53 : A_.tmps[53]?.getD undef = .slice (some ⟨g53, 0, none⟩) 1 1 := getD_of q53
                clear hs hlow hok
                refine ⟨rfl, rfl, ?_⟩
                have hown3 := own_belowT HW.out.1.row.2.2 hh
                refine RgX.app_exec (.tmp 33) (.tmp 53) 24 rfl lo 71 iA _ 6 48 Try.underlying24 hiA hzA hsA hbA rfl (by decide) (.slice B2 na2 ca2) na2 (TP.ansC ((R.take k).flatMap (·.l) ++ rl.take j)) (by simpa [Act.eval] using e33) hown3 ⟨g53, 0, none⟩ 1 1 (TP.anC ((⟨qc, qh, qt, qk, qi⟩ : NM.Qu), y)) (by simpa [Act.eval] using e53) rfl (World.news_of_block r53) (by simp [TP.anC, Value.oneCell']) (by decide) (by simp only [maxLen]; omega) (by omega) (by have := hh.size; omega) ?_
                intro B' c' w' hown' hgr'
                exact ⟨B', c', rfl, w3, hh, hown', hgr'⟩
              case flo =>
                intro i_ o_ A_ w3 hi ho hlow
                simp only [List.mem_cons, List.not_mem_nil, or_false] at hi
                rcases hi with rfl
                · simp only [List.getElem?_toArray, List.getElem?_cons_succ, List.getElem?_cons_zero, Option.some.injEq] at ho
                  subst ho
                  have e3 : A_.tmps[3]?.getD undef = .pointer (some ⟨t3, 0, none⟩) := by rw [hlow 3 (by decide)]; rfl
                  exact ⟨rfl, rfl, by simp [execOp, go_sem, Act.eval, e3]⟩
              case hF =>
                intro i_ hi w_ y_ h_
                simp only [List.mem_cons, List.not_mem_nil, or_false] at hi
                rcases hi with rfl
                · exact h_
              case fin =>
              intro A_ w3 y_ hs hd hlow hy hG hfl hex
              obtain ⟨z32, hz32⟩ := hex 0 32 (by decide) rfl
              obtain ⟨z33, hz33⟩ := hex 1 33 (by decide) rfl
              obtain ⟨z34, hz34⟩ := hex 2 34 (by decide) rfl
              obtain ⟨z35, hz35⟩ := hex 3 35 (by decide) rfl
              obtain ⟨z36, hz36⟩ := hex 4 36 (by decide) rfl
              obtain ⟨z37, hz37⟩ := hex 5 37 (by decide) rfl
              obtain ⟨z38, hz38⟩ := hex 6 38 (by decide) rfl
              obtain ⟨z39, hz39⟩ := hex 7 39 (by decide) rfl
              obtain ⟨z40, hz40⟩ := hex 8 40 (by decide) rfl
              obtain ⟨z41, hz41⟩ := hex 9 41 (by decide) rfl
              obtain ⟨z42, hz42⟩ := hex 10 42 (by decide) rfl
              obtain ⟨z43, hz43⟩ := hex 11 43 (by decide) rfl
              obtain ⟨z44, hz44⟩ := hex 12 44 (by decide) rfl
              obtain ⟨z45, hz45⟩ := hex 13 45 (by decide) rfl
              obtain ⟨z46, hz46⟩ := hex 14 46 (by decide) rfl
              obtain ⟨z47, hz47⟩ := hex 15 47 (by decide) rfl
              obtain ⟨z48, hz48⟩ := hex 16 48 (by decide) rfl
              obtain ⟨z49, hz49⟩ := hex 17 49 (by decide) rfl
              obtain ⟨z50, hz50⟩ := hex 18 50 (by decide) rfl
              obtain ⟨z51, hz51⟩ := hex 19 51 (by decide) rfl
              obtain ⟨z52, hz52⟩ := hex 20 52 (by decide) rfl
              obtain ⟨z53, hz53⟩ := hex 21 53 (by decide) rfl
              obtain rfl : A_ = ⟨#[.slice (some ⟨g, 0, none⟩) n c, undef, .pointer (some ⟨w.heap.size, 0, none⟩), .pointer (some ⟨t3, 0, none⟩), .int .i64 (k : Int), .int .i64 (j : Int), .int .i64 (k : Int), .slice (some ⟨g, 0, none⟩) n c, .int .i64 (n : Int), .bool true, u10, u11, .pointer (some ⟨t3, 0, none⟩), .slice E k ce, .slice (some ⟨g, 0, none⟩) n c, .int .i64 (k : Int), .pointer (some { block := g, off := k * 11 }), .pointer (some { block := g, off := k * 11 }), .agg #[.int .i64 xk, .int .i64 xn, .int .i64 xa, .int .i64 xc, .int .i64 xh, .int .i64 xt, .int .i64 xi, .int .i64 xp], .slice (some ⟨wq.heap.size, 0, none⟩) 1 1, .slice (some ⟨g7, 0, none⟩) (k + 1) cc, .pointer (some ⟨t3, 0, none⟩), .int .i64 (j : Int), .slice (some ⟨g, 0, none⟩) n c, .int .i64 (k : Int), .pointer (some { block := g, off := k * 11 }), .pointer (some { block := g, off := k * 11 + 8 }), .slice (some ⟨gB, 0, none⟩) rl.length rc, .int .i64 (rl.length : Int), .bool true, u30, u31, z32, z33, z34, z35, z36, z37, z38, z39, z40, z41, z42, z43, z44, z45, z46, z47, z48, z49, z50, z51, z52, z53, y_, .pointer (some ⟨t3, 1, none⟩), undef, undef], []⟩ := act_ext hd hs (fun j hj => match j, hj with | 0, _ => (hlow 0 (by decide)).trans rfl | 1, _ => (hlow 1 (by decide)).trans rfl | 2, _ => (hlow 2 (by decide)).trans rfl | 3, _ => (hlow 3 (by decide)).trans rfl | 4, _ => (hlow 4 (by decide)).trans rfl | 5, _ => (hlow 5 (by decide)).trans rfl | 6, _ => (hlow 6 (by decide)).trans rfl | 7, _ => (hlow 7 (by decide)).trans rfl | 8, _ => (hlow 8 (by decide)).trans rfl | 9, _ => (hlow 9 (by decide)).trans rfl | 10, _ => (hlow 10 (by decide)).trans rfl | 11, _ => (hlow 11 (by decide)).trans rfl | 12, _ => (hlow 12 (by decide)).trans rfl | 13, _ => (hlow 13 (by decide)).trans rfl | 14, _ => (hlow 14 (by decide)).trans rfl | 15, _ => (hlow 15 (by decide)).trans rfl | 16, _ => (hlow 16 (by decide)).trans rfl | 17, _ => (hlow 17 (by decide)).trans rfl | 18, _ => (hlow 18 (by decide)).trans rfl | 19, _ => (hlow 19 (by decide)).trans rfl | 20, _ => (hlow 20 (by decide)).trans rfl | 21, _ => (hlow 21 (by decide)).trans rfl | 22, _ => (hlow 22 (by decide)).trans rfl | 23, _ => (hlow 23 (by decide)).trans rfl | 24, _ => (hlow 24 (by decide)).trans rfl | 25, _ => (hlow 25 (by decide)).trans rfl | 26, _ => (hlow 26 (by decide)).trans rfl | 27, _ => (hlow 27 (by decide)).trans rfl | 28, _ => (hlow 28 (by decide)).trans rfl | 29, _ => (hlow 29 (by decide)).trans rfl | 30, _ => (hlow 30 (by decide)).trans rfl | 31, _ => (hlow 31 (by decide)).trans rfl | 32, _ => hz32 | 33, _ => hz33 | 34, _ => hz34 | 35, _ => hz35 | 36, _ => hz36 | 37, _ => hz37 | 38, _ => hz38 | 39, _ => hz39 | 40, _ => hz40 | 41, _ => hz41 | 42, _ => hz42 | 43, _ => hz43 | 44, _ => hz44 | 45, _ => hz45 | 46, _ => hz46 | 47, _ => hz47 | 48, _ => hz48 | 49, _ => hz49 | 50, _ => hz50 | 51, _ => hz51 | 52, _ => hz52 | 53, _ => hz53 | 54, _ => hy | 55, _ => hfl 23 (by decide) | 56, _ => (hlow 56 (by decide)).trans rfl | 57, _ => (hlow 57 (by decide)).trans rfl | n + 58, h => absurd h (by show ¬ n + 58 < 58; omega))
              clear hs hd hlow hy hfl hex hz32 hz33 hz34 hz35 hz36 hz37 hz38 hz39 hz40 hz41 hz42 hz43 hz44 hz45 hz46 hz47 hz48 hz49 hz50 hz51 hz52 hz53
              obtain ⟨B', c', rfl, V3, hV3, hown', hgr'⟩ := hG
              have D8 := HW.out.1.below hV3
              have hob : ∀ b, (Value.slice B2 na2 ca2).ownBlock = some b → lo ≤ b := fun b hb => (anRow_ne D8.row.2.2 hb).1
              obtain ⟨⟨p0, p1⟩, pf0, pf1⟩ := row2 ((hgr'.block t3 (heap_lt D8.box) (fun e => by have := hob _ e.symm; omega)).trans D8.box)
              have V8 := (HW.out.2.trans (hV3.mono hszW)).grown hgr' (by have := hV3.size; omega) (fun b e => by have := hob _ e; omega)
              have D9 := Lib.hid (D8.answer hown' hgr')
              have V9 := Lib.hid (V8.setCell (p := ⟨t3, 1, none⟩) (by show w.heap.size ≤ t3; omega) (.slice B' (na2 + 1) c'))
              clear D8 hob V8 hown' hgr'
              go_wp2_with fail
              go_roundw
              case rel => exact ⟨j + 1, na2 + 1, c', B', by omega, by omega, by go_num, by rw [HXJ.out, ← List.append_assoc]; exact ⟨D9.out, V9.out⟩⟩
              case measure => simp [intOf]; omega
            · have dj : decide (j < rl.length) = false := decide_eq_false hjn
              have dj2 : decide ((j : Int) < (rl.length : Int)) = false := decide_eq_false (by omega)
              have HTJ := Lib.hid (show rl.take j = rl from List.take_of_length_le (by omega))
              rw [HTJ.out, ← HX2.out] at HW
              go_wp2_with fail
              go_roundw
              case rel => exact ⟨k + 1, cc, na2, ca2, _, B2, by omega, by omega, by go_num, HW.out⟩
              case measure => simp [intOf]; omega
      · have dk : decide (k < n) = false := decide_eq_false hin
        have dk2 : decide ((k : Int) < (n : Int)) = false := decide_eq_false (by omega)
        obtain rfl : k = n := by omega
        have HT := Lib.hid (show R.take k = R from List.take_of_length_le (by omega))
        rw [HT.out] at HV
        go_wp2_with fail
        go_meet
        case rel => exact ⟨E, ce, B, na, ca, by omega, HV.out⟩
  case rest =>
  obtain ⟨E, ce, B, na, ca, bna, HV⟩ := hcut
  obtain ⟨⟨b0, b1⟩, bf0, bf1⟩ := row2 HV.out.1.box
  clear H0
  have hl2 : (R.flatMap (·.l)).length = na := HV.out.1.row.1.2
  have HN := Lib.hid (refNormal_any (ce := ce) (ca := ca) wc (HV.out.1.row.tin (by omega) (by omega)) (by omega))
  have hlr := heap_lt HV.out.1.res
  have hnl := TP.norm_len (R.flatMap (·.l))
  go_wp2_with (first
    | (go_at_call 15; refine HN.out.mono ?_; clear HN; rintro e w3 ⟨⟨E', ce', A', m', ca', rfl, hE, hR⟩, hb3⟩
       have hR3 := (hb3.block w.heap.size hlr).trans HV.out.1.res
       have HT := Lib.hid (And.intro hE (And.intro hR (And.intro hb3 hR3)))
       have hml := hR.len
       clear hE hR hb3 hR3)
    | (refine RgX.wpList_store_seg rfl 26 _ _ rfl w.heap.size 0 (.agg #[.slice E' n ce', .slice A' m' ca']) rfl rfl 26 _ HT.out.2.2.2 (by rw [size_tape]; rfl) (by show 0 + 2 ≤ 2; omega) (by simp [Value.cells, Value.oneCell']) #[.slice E' n ce', .slice A' m' ca'] rfl ?_; intro W4 k4 ho4 hz4 hb4))
  obtain ⟨⟨r0, r1⟩, _, _⟩ := row2 k4
  have hgr : w3.grownBy W4 (some w.heap.size) := ⟨hb4.os, hb4.tape, hb4.output, by omega, fun b _ hne => ho4 b (fun e => hne (by rw [e]))⟩
  have hs1 := HV.out.2.size
  have hE4 := HT.out.1.kept hgr (own_ne HT.out.1 HT.out.2.2.2 (by decide))
  have hR4 := HT.out.2.1.set HT.out.2.2.2 ho4 hz4
  refine bodyPost_ret (v := .agg #[.slice E' n ce', .slice A' m' ca']) (by simp [results, Try.results28, go_sem, r0, r1]) rfl ?_
  exact ⟨⟨_, E', ce', A', m', ca', rfl, rfl, own_tin hE4 hR4 (by rw [List.length_map]; exact hrl) (by omega) (by omega)⟩, HV.out.2.trans ((HT.out.2.2.1.mono hs1).trans hb4)⟩
end Go.Proofs.Ytiokiecnglmbnaa
