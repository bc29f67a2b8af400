/-
  slices.Equal of events and maps.Equal of answers. Conditions: the lengths.
  maps.Equal of answers. No condition.
-/
import Derived.Test.YtiokiecnglmbnaaK5
import Derived.Test.YtiokiecnglmbnaaK7
import Derived.Deep.CutBlock
import Derived.Test.YtiokiecnglmbnaaK4

namespace Go.Proofs.Ytiokiecnglmbnaa
open Go Go.RowKit Go.Proofs
attribute [local go_sem] Oper.semAt_some

theorem srt_sub : ∀ {r l : List TP.An}, TP.Srt l → TP.Srt r → (∀ x ∈ l, x ∈ r) → l.Sublist r
  | [], l, _, _, h => by
    cases l with
    | nil => exact .slnil
    | cons x l => exact absurd (h x (by simp)) (by simp)
  | y :: r, [], _, _, _ => List.nil_sublist _
  | y :: r, x :: l, hl, hr, h => by
    obtain ⟨hl1, hl2⟩ := List.pairwise_cons.1 hl
    obtain ⟨hr1, hr2⟩ := List.pairwise_cons.1 hr
    have irr : ∀ z : TP.An, TP.ltQ y.1 z.1 → z ≠ y := fun z hz e => TP.ltQ_irr y.1 (e ▸ hz)
    by_cases hxy : x = y
    · subst hxy
      refine List.Sublist.cons_cons x (srt_sub hl2 hr2 fun z hz => ?_)
      rcases List.mem_cons.1 (h z (by simp [hz])) with e | hzr
      · exact absurd e (irr z (hl1 z hz))
      · exact hzr
    · have hxr : x ∈ r := (List.mem_cons.1 (h x (by simp))).resolve_left hxy
      have hyx := hr1 x hxr
      refine List.Sublist.cons y (srt_sub hl hr2 fun z hz => ?_)
      rcases List.mem_cons.1 hz with rfl | hz
      · exact hxr
      · exact (List.mem_cons.1 (h z (by simp [hz]))).resolve_left (irr z (TP.ltQ_trans hyx (hl1 z hz)))
/-- Two normal lists of one length, one's answers being the other's. -/
theorem norm_same {t u : List TP.An} (hl : (TP.normA t).length = (TP.normA u).length) (h : ∀ q, 0 < TP.getA t q → TP.getA u q = TP.getA t q) : TP.normA t = TP.normA u := by
  refine List.Sublist.eq_of_length (srt_sub (TP.norm_srt t) (TP.norm_srt u) fun x hx => ?_) hl
  obtain ⟨h1, h2⟩ := TP.mem_norm.1 hx
  have := h x.1 (h1 ▸ h2)
  exact TP.mem_norm.2 ⟨by rw [this]; exact h1, h2⟩
set_option maxHeartbeats 4000000 in
set_option maxRecDepth 100000 in
theorem evsEqual_any {E1 E2 : Option Addr} {n1 c1 n2 c2 : Nat} {e1 e2 : List NM.Ev} (w : World) (he1 : Evs w E1 n1 e1) (he2 : Evs w E2 n2 e2) (bn : n1 ≤ 1000000) :
    Calls Try.prog 47 #[.slice E1 n1 c1, .slice E2 n2 c2] w fun e w' => e = .returned (.bool (decide (e1 = e2))) ∧ Below w.heap.size w w' := by
  have HE1 := Lib.hid he1
  have HE2 := Lib.hid he2
  clear he1 he2
  go_enter Try.func47, Try.ntmps47
  by_cases hn : n1 = n2
  · subst hn
    go_wp2_with fail
    go_loopw [13] (fun i V => ∃ k : Nat, k ≤ n1 ∧ i = .int .i64 (k : Int) ∧ Hid (e1.take k = e2.take k) ∧ Hid (Below w.heap.size w V)) (fun i _ => n1 - (intOf i).toNat)
    case atStart => exact ⟨0, by omega, rfl, rfl, Below.refl _ _⟩
    case round =>
      obtain ⟨k, hk, rfl, HQ, HV⟩ := hrel
      by_cases hin : k < n1
      · have dk : decide (k < n1) = true := decide_eq_true hin
        obtain ⟨x, hx⟩ : ∃ x, e1[k]? = some x := ⟨_, List.getElem?_eq_getElem (by rw [HE1.out.1]; exact hin)⟩
        obtain ⟨y, hy⟩ : ∃ y, e2[k]? = some y := ⟨_, List.getElem?_eq_getElem (by rw [HE2.out.1]; exact hin)⟩
        obtain ⟨g, hg, hgl, hxa⟩ := HE1.out.2 (by omega)
        obtain ⟨g', hg', hgl', hya⟩ := HE2.out.2 (by omega)
        obtain ⟨p0, p1, p2, p3, p4, p5, p6, p7⟩ := (hxa k x hx).keep hgl HV.out
        obtain ⟨q0, q1, q2, q3, q4, q5, q6, q7⟩ := (hya k y hy).keep hgl' HV.out
        subst hg
        subst hg'
        have hne : ∀ V, (binOp .neq 47 (evV x) (evV y)).run Try.prog V = .ok (.bool (!decide (x = y))) V := fun V => neE_any x y V
        have HX := Lib.hid (And.intro hx hy)
        have hki : (k : Int) < (n1 : Int) := by omega
        clear hxa hya hx hy
        by_cases hxy : x = y
        · have dq : decide (x = y) = true := decide_eq_true hxy
          simp only [dq, Bool.not_true] at hne
          have HT := Lib.hid (take_more HQ.out HX.out.1 (hxy ▸ HX.out.2))
          clear HX hxy dq
          go_wp2_with (go_quiet (fail))
          go_roundw
          case rel => exact ⟨k + 1, by omega, by go_num, HT, HV.out.trans ((drewN_below wr _).mono HV.out.size)⟩
          case measure => simp [intOf]; omega
        · have dq : decide (x = y) = false := decide_eq_false hxy
          simp only [dq, Bool.not_false] at hne
          have HT := Lib.hid (dec_f (p := e1 = e2) fun h => take_differ HX.out.1 HX.out.2 hxy h)
          clear HX hxy dq
          go_wp2_with (go_quiet (fail))
          go_ret
          exact ⟨by rw [HT.out]; rfl, HV.out.trans ((drewN_below wr _).mono HV.out.size)⟩
      · have dk : decide (k < n1) = false := decide_eq_false hin
        have HEQ := Lib.hid (decide_eq_true (take_both HQ.out (by have := HE1.out.1; omega) (by have := HE2.out.1; omega)))
        clear HQ
        go_wp2_with fail
        go_ret
        exact ⟨by rw [HEQ.out]; rfl, HV.out⟩
  · have hne : ((n1 : Int) != (n2 : Int)) = true := by rw [bne_iff_ne]; omega
    have HT := Lib.hid (dec_f (p := e1 = e2) fun h => hn (by rw [← HE1.out.1, ← HE2.out.1, h]))
    clear hn
    go_wp2_with fail
    go_ret
    exact ⟨by rw [HT.out]; rfl, Below.refl _ _⟩
section
variable (w : World) {ops : Array Oper} {rest : List Oper} {o : Oper} {a : Act} {Q : Exit → Act → World → Prop}
theorem wpList_range_q (hg : o.guard = none) (x : Operand) (hop : o.op = Op.range 85 x) (B n : Nat) (f : NM.Qu → Int) (hm : a.eval x = .map (some B)) (h : MapQ w B f n)
    (hK : ∀ w' cnt, ItQ w' w.heap.size B f n [] cnt → w.grownBy w' none → w'.heap.size = w.heap.size + 1 → wpList Try.prog ops Q rest (a.put o.dst (.pointer (some ⟨w.heap.size, 0, none⟩))) w') :
    wpList Try.prog ops Q (o :: rest) a w := by
  refine wpList_plain hg fun K' hK' => ?_
  obtain ⟨w', cnt, hrun, r1, r2, r3⟩ := h.range
  unfold Oper.wp
  simp [execOp, hop, hm, hrun, Result.andThen]
  exact hK' _ _ (hK w' cnt r1 r2 r3)
theorem wpList_next_q (hg : o.guard = none) (it : Operand) (hop : o.op = Op.next it false) (r B n cnt : Nat) (f : NM.Qu → Int) (ss : List NM.Qu) (hit : a.eval it = .pointer (some ⟨r, 0, none⟩)) (h : ItQ w r B f n ss cnt)
    (hDone : cnt = 0 → wpList Try.prog ops Q rest (a.put o.dst (.tuple #[.bool false])) w)
    (hMore : ∀ q v w' cnt', ItQ w' r B f n (ss ++ [q]) cnt' → cnt' < cnt → w.grownBy w' (some r) → w'.heap.size = w.heap.size → (Instr.entry (.pointer (some ⟨r, 0, none⟩))).run Try.prog w' = .ok (.tuple #[quV q, .int .i64 v]) w' → v = f q → 0 < f q → wpList Try.prog ops Q rest (a.put o.dst (.tuple #[.bool true, quV q, .int .i64 v])) w') :
    wpList Try.prog ops Q (o :: rest) a w := by
  refine wpList_plain hg fun K' hK' => ?_
  unfold Oper.wp
  rcases h.next o.type with ⟨h0, hrun⟩ | ⟨q, v, w', cnt', hrun, hrg, hlt, hgr, hsz, hen, hv, hp⟩
  · simp [execOp, hop, hit, hrun, Result.andThen]
    exact hK' _ _ (hDone h0)
  · simp [execOp, hop, hit, hrun, Result.andThen]
    exact hK' _ _ (hMore q v w' cnt' hrg hlt hgr hsz hen hv hp)
end
end Go.Proofs.Ytiokiecnglmbnaa

namespace Go.Proofs.Ytiokiecnglmbnaa
open Go Go.RowKit Go.Proofs
attribute [local go_sem] Oper.semAt_some

theorem getA_nn' (u : List TP.An) (q : NM.Qu) : 0 ≤ TP.getA u q := TP.getA_nn u q
set_option maxHeartbeats 4000000 in
set_option maxRecDepth 100000 in
theorem mapsEqual_any {B1 B2 n1 n2 : Nat} {t u : List TP.An} (w : World) (h1 : MapQ w B1 (TP.getA t) n1) (h2 : MapQ w B2 (TP.getA u) n2) :
    Calls Try.prog 48 #[.map (some B1), .map (some B2)] w fun e w' => e = .returned (.bool (decide (TP.normA t = TP.normA u))) ∧ Below w.heap.size w w' := by
  have H1 := Lib.hid h1
  have H2 := Lib.hid h2
  clear h1 h2
  obtain ⟨lt, hlt⟩ : ∃ n, (TP.normA t).length = n := ⟨_, rfl⟩
  obtain ⟨lu, hlu⟩ : ∃ n, (TP.normA u).length = n := ⟨_, rfl⟩
  have l1 := H1.out.len 3
  have l2 := H2.out.len 3
  rw [hlt] at l1
  rw [hlu] at l2
  by_cases hn : lt = lu
  case neg =>
    have hne : ((lt : Int) != (lu : Int)) = true := by rw [bne_iff_ne]; omega
    have HT := Lib.hid (dec_f (p := TP.normA t = TP.normA u) fun h => hn (by rw [← hlt, ← hlu, h]))
    go_enter Try.func48, Try.ntmps48
    go_wp2_with fail
    go_ret
    exact ⟨by rw [HT.out]; rfl, Below.refl _ _⟩
  case pos =>
    have hne : ((lt : Int) != (lu : Int)) = false := by rw [hn]; simp
    go_enter Try.func48, Try.ntmps48
    go_wp2_with (first
      | (refine wpList_range_q _ rfl _ rfl B1 n1 (TP.getA t) rfl H1.out ?_; intro w0 cnt0 hrg0 hg0 hs0))
    have HB0 := Lib.hid (show Below w.heap.size w w0 from (Below.refl _ _).grown hg0 (Nat.le_refl _) (fun b e => by cases e))
    go_frame
    go_loopw [16] (fun _ wr => ∃ (ss : List NM.Qu) (cnt : Nat), ItQ wr w.heap.size B1 (TP.getA t) n1 ss cnt ∧ Hid (∀ q ∈ ss, TP.getA u q = TP.getA t q) ∧ Hid (Below w.heap.size w wr) ∧ w.heap.size < wr.heap.size) (fun _ wr => wr.rangeLeft B1 w.heap.size)
    case atStart => exact ⟨[], cnt0, hrg0, fun q hq => by (cases hq), HB0.out, by omega⟩
    case round =>
      obtain ⟨ss, cnt, hrg, HS, HV, hsz⟩ := hrel
      go_upto_region 5 with (refine wpList_next_q _ rfl _ rfl w.heap.size B1 n1 cnt (TP.getA t) ss rfl hrg ?_ ?_)
      · intro hc0
        subst hc0
        have hd := hrg.done
        have HEQ := Lib.hid (decide_eq_true (norm_same (hlt.trans (hn.trans hlu.symm)) fun q hq => HS.out q ((hd.2 q).2 hq)))
        clear hd
        go_wp2_with fail
        go_ret
        exact ⟨by rw [HEQ.out]; rfl, HV.out⟩
      · intro q v w2 cnt2 hrg2 hlt2 hg2 hs2 hen hv hp
        subst hv
        have hb2 : Below w.heap.size w w2 := HV.out.grown hg2 HV.out.size (fun b e => by injection e with e; omega)
        have hb3 := hb2.alloc hb2.size (.cells #[.int .i64 q.c, .int .i64 q.h, .int .i64 q.t, .int .i64 q.k, .int .i64 q.i] 30)
        obtain ⟨w3, hw3⟩ : ∃ V, w2.alloc (.cells #[.int .i64 q.c, .int .i64 q.h, .int .i64 q.t, .int .i64 q.k, .int .i64 q.i] 30) = V := ⟨_, rfl⟩
        rw [hw3] at hb3
        have hrg3 : ItQ w3 w.heap.size B1 (TP.getA t) n1 (ss ++ [q]) cnt2 := hrg2.walks (hw3 ▸ KeepsWalks.alloc _ _)
        have hs3 : w3.heap.size = w2.heap.size + 1 := by rw [← hw3]; simp
        obtain ⟨x0, x1, x2, x3, x4⟩ := row5 (show w3.heap[w2.heap.size]? = some (.cells #[.int .i64 q.c, .int .i64 q.h, .int .i64 q.t, .int .i64 q.k, .int .i64 q.i] 30 (0, 0)) by rw [← hw3]; exact World.alloc_heap_new w2 _)
        have HM3 := Lib.hid (H2.out.keep H2.out.lt hb3)
        have HR := Lib.hid (And.intro hrg3 (And.intro hb3 hlt2))
        have HRG := Lib.hid hrg
        have HSQ := Lib.hid (And.intro HS.out hp)
        have hszz : w.heap.size < w3.heap.size := by omega
        clear hrg2 hlt2 hg2 hs2 hp hb2 hb3 hrg3 hrg HS
        by_cases he : TP.getA u q = TP.getA t q
        · have hd : decide (0 < TP.getA u q) = true := decide_eq_true (by rw [he]; exact HSQ.out.2)
          have hne2 : (TP.getA t q != TP.getA u q) = false := by rw [he]; simp
          have HS2 := Lib.hid (show ∀ r ∈ ss ++ [q], TP.getA u r = TP.getA t r from fun r hr => by
            rcases List.mem_append.1 hr with hr | hr
            · exact HSQ.out.1 r hr
            · rw [List.mem_singleton.1 hr]; exact he)
          clear he
          go_wp2_with (first | (at_lookup; refine wpList_lookup2_q rfl _ _ rfl rfl HM3.out q rfl (getA_nn' u q) ?_) | fail)
          go_roundw
          case rel => exact ⟨ss ++ [q], cnt2, HR.out.1, HS2, HR.out.2.1, hszz⟩
          case measure => rw [HR.out.1.left_eq, HRG.out.left_eq]; exact HR.out.2.2
        · have hne2 : (TP.getA t q != TP.getA u q) = true := by rw [bne_iff_ne]; exact fun e => he e.symm
          have HT := Lib.hid (dec_f (p := TP.normA t = TP.normA u) fun h => he (TP.norm_eq.1 h q).symm)
          clear he
          by_cases h0 : 0 < TP.getA u q
          · have hd : decide (0 < TP.getA u q) = true := decide_eq_true h0
            clear h0
            go_wp2_with (first | (at_lookup; refine wpList_lookup2_q rfl _ _ rfl rfl HM3.out q rfl (getA_nn' u q) ?_) | fail)
            go_ret
            exact ⟨by rw [HT.out]; rfl, HR.out.2.1⟩
          · have hd : decide (0 < TP.getA u q) = false := decide_eq_false h0
            clear h0
            go_wp2_with (first | (at_lookup; refine wpList_lookup2_q rfl _ _ rfl rfl HM3.out q rfl (getA_nn' u q) ?_) | fail)
            go_ret
            exact ⟨by rw [HT.out]; rfl, HR.out.2.1⟩
end Go.Proofs.Ytiokiecnglmbnaa
