/-
  The reference's With. Conditions: the lengths; a nil row of answers is empty.
-/
import Derived.Test.YtiokiecnglmbnaaK37
import Derived.Test.YtiokiecnglmbnaaK29
import Derived.Test.YtiokiecnglmbnaaK31
import Derived.Deep.Cut

namespace Go.Proofs.Ytiokiecnglmbnaa
open Go Go.RowKit Go.Proofs
attribute [local go_sem] Oper.semAt_some

theorem src_ans {w : World} {A : Option Addr} {na ca : Nat} {l : List TP.An} (h : Ans w A na l) (hn : A = none → na = 0 ∧ ca = 0) : RgX.Src w A na ca (TP.ansC l) := by
  rcases A with _ | ad
  · obtain ⟨rfl, rfl⟩ := hn rfl
    exact .inl ⟨rfl, rfl, rfl, by rw [List.eq_nil_of_length_eq_zero h.1]; rfl⟩
  · refine .inr ⟨ad, rfl, fun j u hu => ?_⟩
    obtain ⟨q, o, y, rfl, _, h5, h6⟩ := RS.flat_get (E := anE) (l := l) (show (RS.flat anE l)[j]? = some u from hu)
    have hq : q < na := by rw [← h.1]; exact (List.getElem?_eq_some_iff.1 h5).1
    obtain ⟨g, e, hg, hx⟩ := h.2 (by omega)
    injection e with e
    subst e
    obtain ⟨k0, k1, k2, k3, k4, k5⟩ := hx q y h5
    have e0 : (Addr.mk g 0 none).add (q * anE.k + o) = ⟨g, q * 6 + o, none⟩ := by rw [Addr.add_lit, Nat.zero_add]; rfl
    rw [e0]
    match o, h6 with
    | 0, h6 => exact k0.trans h6
    | 1, h6 => exact k1.trans h6
    | 2, h6 => exact k2.trans h6
    | 3, h6 => exact k3.trans h6
    | 4, h6 => exact k4.trans h6
    | 5, h6 => exact k5.trans h6
    | o + 6, h6 => simp [anE, TP.anC] at h6
set_option maxHeartbeats 8000000 in
set_option maxRecDepth 100000 in
theorem refWith_any {E A : Option Addr} {ne ce na ca : Nat} {es : List NM.Ev} {l : List TP.An} (q : NM.Qu) (y : Int) (w : World) (h : TIn w E ne ce A na es l) (hA : A = none → na = 0 ∧ ca = 0) (hna : na ≤ 1000) :
    Calls Try.prog 20 #[.agg #[.slice E ne ce, .slice A na ca], quV q, .int .i64 y] w fun e w' => (∃ E' ce' A' m c', e = .returned (.agg #[.slice E' ne ce', .slice A' m c']) ∧ w'.ownsRow w.heap.size 47 8 (.slice E' ne ce') ne (es.flatMap evC) ∧ AnsR w' A' m c' (TP.withA l q y)) ∧ Below w.heap.size w w' := by
  obtain ⟨qc, qh, qt, qk, qi⟩ := q
  obtain ⟨iA, hiA, hzA, hsA, hbA⟩ := info_split' info_answer
  obtain ⟨U, hU, hb, k0, k1, k2, hlt⟩ := three_boxes w (.cells #[.slice E ne ce, .slice A na ca] 26) (.cells #[.int .i64 qc, .int .i64 qh, .int .i64 qt, .int .i64 qk, .int .i64 qi] 30) (.cells #[.slice none 0 0, .slice none 0 0] 26)
  have hsU : U.heap.size = w.heap.size + 1 + 1 + 1 := by rw [← hU]; simp
  have hbe := h.be
  have hal := h.an.1
  have HI := Lib.hid (fun (V : World) (hV : Below U.heap.size U V) => (h.keep hb).keep hV)
  have HS := Lib.hid (fun (V : World) (hV : Below U.heap.size U V) => src_ans (((h.keep hb).keep hV).an) hA)
  have HK := Lib.hid (fun (V : World) (hV : Below U.heap.size U V) => And.intro (row2 ((hV.block _ (by omega)).trans k0)).1 (row5 ((hV.block _ (by omega)).trans k1)))
  have HR := Lib.hid k2
  have HB := Lib.hid hb
  clear k0 k1 k2 hb h hA
  go_enter Try.func20, Try.ntmps20
  go_upto_region 1 with (fail)
  try rw [hU]
  clear hU
  refine RgX.seq 5 (fun i => (if i = 4 then 7 else 8 + i)) (fun ix_ => match ix_ with | 0 => .zrow U.heap.size 71 | 1 => .v (.pointer (some ⟨w.heap.size, 1, none⟩)) | 2 => .v (.slice A na ca) | 3 => .own U.heap.size 71 6 na (TP.ansC l) | 4 => .own U.heap.size 71 6 na (TP.ansC l) | _ => .any) rfl (by kernel_rfl)  (fun i hi => by show (if i = 4 then 7 else 8 + i) < 22; (repeat' split) <;> omega) (fun i j hi hj => by show (if i = 4 then 7 else 8 + i) = (if j = 4 then 7 else 8 + j) → i = j; (repeat' split) <;> omega) ?step ?fin
  case step =>
    intro L_ A_ w3 ix op_ hI ho hdep
    have hi : ix < 5 := (Array.getElem?_eq_some_iff.1 ho).1
    have hcase : ix = 0 ∨ ix = 1 ∨ ix = 2 ∨ ix = 3 ∨ ix = 4 := by omega
    have hh := hI.held
    clear hi
    rcases hcase with rfl | rfl | rfl | rfl | rfl
    · simp only [List.getElem?_toArray, List.getElem?_cons_zero, Option.some.injEq] at ho
      subst ho
      refine ⟨rfl, ?_⟩
      clear hI hdep
      exact .run rfl (.slice (some ⟨w3.heap.size, 0, none⟩) 0 0) (w3.alloc (.cells #[] 71)) (by simp [execOp, go_sem, Act.eval]) ((Below.refl _ _).alloc (Nat.le_refl _) _) ⟨_, rfl, heap_alloc_new _ _, hh.size⟩
    · simp only [List.getElem?_toArray, List.getElem?_cons_succ, List.getElem?_cons_zero, Option.some.injEq] at ho
      subst ho
      refine ⟨rfl, ?_⟩
      have e3 : A_.tmps[3]?.getD undef = .pointer (some ⟨w.heap.size, 0, none⟩) := by rw [hI.low 3 (by decide)]; rfl
      clear hI hdep
      exact .run rfl (.pointer (some ⟨w.heap.size, 1, none⟩)) w3 (by simp [execOp, go_sem, Act.eval, e3]) (Below.refl _ _) rfl
    · simp only [List.getElem?_toArray, List.getElem?_cons_succ, List.getElem?_cons_zero, Option.some.injEq] at ho
      subst ho
      refine ⟨rfl, ?_⟩
      have e9 : A_.tmps[9]?.getD undef = .pointer (some ⟨w.heap.size, 1, none⟩) := getD_of (hI.val_ (i := 1) rfl rfl (by decide) (hdep ⟨1, .data⟩ (by simp) rfl))
      clear hI hdep
      obtain ⟨⟨b0, b1⟩, _⟩ := HK.out w3 hh
      exact .run rfl (.slice A na ca) w3 (by simp [execOp, go_sem, Act.eval, *]) (Below.refl _ _) rfl
    · simp only [List.getElem?_toArray, List.getElem?_cons_succ, List.getElem?_cons_zero, Option.some.injEq] at ho
      subst ho
      refine ⟨rfl, ?_⟩
      obtain ⟨_, e8, g8, rfl, r8, l8⟩ := hI.get_ (i := 0) (j := 8) rfl rfl (by decide) (hdep ⟨0, .data⟩ (by simp) rfl)
      have e10 : A_.tmps[10]?.getD undef = .slice A na ca := getD_of (hI.val_ (i := 2) rfl rfl (by decide) (hdep ⟨2, .data⟩ (by simp) rfl))
      clear hI hdep
      exact RgX.app_empty_own rfl (.tmp 8) (.tmp 10) 24 rfl U.heap.size 71 iA _ 6 48 Try.underlying24 hiA hzA hsA hbA rfl g8 (by simpa [Act.eval] using e8) r8 l8 A na ca (TP.ansC l) (by simpa [Act.eval] using e10) (by rw [TP.ansC_len, hal]) (HS.out w3 hh) (TP.ansC_one l) (by simp only [maxLen]; omega) (by omega)
    · simp only [List.getElem?_toArray, List.getElem?_cons_succ, List.getElem?_cons_zero, Option.some.injEq] at ho
      subst ho
      refine ⟨rfl, ?_⟩
      obtain ⟨y11, e11, h11⟩ := hI.get_ (i := 3) (j := 11) rfl rfl (by decide) (hdep ⟨3, .data⟩ (by simp) rfl)
      clear hI hdep
      exact .run rfl y11 w3 (by simp [execOp, go_sem, Act.eval, e11]) (Below.refl _ _) h11
  case fin =>
  intro A_ w3 hs hd hlow hS hok
  obtain ⟨_, hy7, B7, c7, rfl, h7⟩ := hok 4 7 _ (by decide) rfl rfl
  obtain ⟨_, hy8, g8, rfl, r8, l8⟩ := hok 0 8 _ (by decide) rfl rfl
  obtain ⟨_, hy11, B11, c11, rfl, h11⟩ := hok 3 11 _ (by decide) rfl rfl
  obtain rfl : A_ = ⟨#[.agg #[.slice E ne ce, .slice A na ca], quV { c := qc, h := qh, t := qt, k := qk, i := qi }, .int .i64 y, .pointer (some ⟨w.heap.size, 0, none⟩), .pointer (some ⟨w.heap.size + 1, 0, none⟩), undef, .pointer (some ⟨w.heap.size + 1 + 1, 0, none⟩), .slice B7 na c7, .slice (some ⟨g8, 0, none⟩) 0 0, .pointer (some ⟨w.heap.size, 1, none⟩), .slice A na ca, .slice B11 na c11, undef, undef, undef, undef, undef, undef, undef, undef, undef, undef], []⟩ := act_ext hd hs (fun j hj => match j, hj with | 0, _ => (hlow 0 (by decide)).trans rfl | 1, _ => (hlow 1 (by decide)).trans rfl | 2, _ => (hlow 2 (by decide)).trans rfl | 3, _ => (hlow 3 (by decide)).trans rfl | 4, _ => (hlow 4 (by decide)).trans rfl | 5, _ => (hlow 5 (by decide)).trans rfl | 6, _ => (hlow 6 (by decide)).trans rfl | 7, _ => hy7 | 8, _ => hy8 | 9, _ => RgX.val_at (hok 1 9 _ (by decide) rfl rfl) | 10, _ => RgX.val_at (hok 2 10 _ (by decide) rfl rfl) | 11, _ => hy11 | 12, _ => (hlow 12 (by decide)).trans rfl | 13, _ => (hlow 13 (by decide)).trans rfl | 14, _ => (hlow 14 (by decide)).trans rfl | 15, _ => (hlow 15 (by decide)).trans rfl | 16, _ => (hlow 16 (by decide)).trans rfl | 17, _ => (hlow 17 (by decide)).trans rfl | 18, _ => (hlow 18 (by decide)).trans rfl | 19, _ => (hlow 19 (by decide)).trans rfl | 20, _ => (hlow 20 (by decide)).trans rfl | 21, _ => (hlow 21 (by decide)).trans rfl | n + 22, h => absurd h (by show ¬ n + 22 < 22; omega))
  clear hs hd hlow hok hy7 hy8 hy11
  obtain ⟨w2, h2⟩ : ∃ V, V = w3 := ⟨_, rfl⟩
  rw [← h2] at hS h7 ⊢
  have HO := Lib.hid (And.intro h7 hS)
  obtain ⟨⟨b0, b1⟩, q0, q1, q2, q3, q4⟩ := HK.out w2 hS
  have hs2 := hS.size
  clear hS h7 h11 h2
  have HQ := Lib.hid (fun (V : World) (hV : Below w2.heap.size w2 V) => HK.out V (HO.out.2.trans (hV.mono hs2)))
  go_upto_region 2 with (fail)
  have hA0 : ∀ o : Obj, (w2.alloc o).cell? ⟨w.heap.size, 0, none⟩ = some (.slice E ne ce) := fun o => (HQ.out _ (one_box w2 o)).1.1
  have hA1 : ∀ o : Obj, (w2.alloc o).drew.cell? ⟨w.heap.size, 0, none⟩ = some (.slice E ne ce) := fun o => (HQ.out _ (one_box w2 o).drew).1.1
  go_region_law (first
    | (refine step_append_lies _ rfl (.tmp 14) (.tmp 18) 24 rfl U.heap.size 71 iA _ 6 48 Try.underlying24 hiA hzA hsA hbA rfl (by decide) (.slice B7 na c7) na (TP.ansC l) (by simp [Act.eval]) (own_belowT HO.out.1 (by first | exact one_box w2 _ | exact (one_box w2 _).drew)) ⟨w2.heap.size, 0, none⟩ 1 1 (TP.anC (⟨qc, qh, qt, qk, qi⟩, y)) (by simp [Act.eval]) rfl (World.news_of_block (World.alloc_heap_new w2 _)) (by simp [TP.anC, Value.oneCell']) (by decide) (by simp only [maxLen]; omega) (by omega) (by simp; omega) _ rfl ?_
       intro g7 c8 w7 hown7 hgr7 _ _
       have hd0 := HO.out.2.trans ((one_box w2 (.cells #[.int .i64 qc, .int .i64 qh, .int .i64 qt, .int .i64 qk, .int .i64 qi, .int .i64 y] 71)).drew.mono hs2)
       have hb7 : Below U.heap.size U w7 := hd0.grown hgr7 hd0.size (fun b e => (HO.out.1.lt b e).1)
       have ha7 : Ans w7 (some ⟨g7, 0, none⟩) (na + 1) (l ++ [((⟨qc, qh, qt, qk, qi⟩ : NM.Qu), y)]) := (ans_of_own (L := l ++ [((⟨qc, qh, qt, qk, qi⟩ : NM.Qu), y)]) (by rw [ansC_snoc]; exact hown7) (by simp [hal])).1
       have t7 : TIn w7 E ne ce (some ⟨g7, 0, none⟩) (na + 1) es (l ++ [((⟨qc, qh, qt, qk, qi⟩ : NM.Qu), y)]) := ⟨(HI.out w7 hb7).ev, (HI.out w7 hb7).nil, ha7, hbe, by omega⟩
       have HN := Lib.hid (refNormal_any (ca := c8) w7 t7 (by omega))
       have H7 := Lib.hid hb7
       obtain ⟨⟨v0, _⟩, _⟩ := HK.out w7 hb7
       clear hown7 hgr7 hd0 hb7 ha7 t7)
    | (go_simp; go_at_call 15; refine HN.out.mono ?_; clear HN; rintro e w8 ⟨⟨E', ce', A', m, c', rfl, hE8, hR8⟩, hb8⟩
       have hU8 : Below U.heap.size U w8 := H7.out.trans (hb8.mono H7.out.size)
       obtain ⟨⟨x0, x1⟩, xf0, xf1⟩ := row2 ((hU8.block _ (by omega)).trans HR.out)
       have hE9 := own_baseT hE8 (show w.heap.size ≤ w7.heap.size by have := H7.out.size; omega)
       have H8 := Lib.hid (And.intro hE9 (And.intro hR8 hU8))
       clear hE8 hE9 hR8 hb8 hU8))
  all_goals
    try go_wp2_with fail
    have h8 := (H8.out.2.2.block _ (by omega)).trans HR.out
    obtain ⟨V8, e8, k8, o8, z8, p8, q8, t8⟩ := set1D h8 (i := 0) (.slice E' ne ce')
    rw [e8]
    clear e8
    obtain ⟨V9, e9, k9, o9, z9, p9, q9, t9⟩ := set1D k8 (i := 1) (.slice A' m c')
    rw [e9]
    clear e9
    obtain ⟨⟨y0, y1⟩, _, _⟩ := row2 k9
    have hgr : w8.grownBy V9 (some (w.heap.size + 1 + 1)) := ⟨p9.trans p8, q9.trans q8, t9.trans t8, by rw [z9, z8]; exact Nat.le_refl _, fun b _ hne => (o9 b (fun e => hne (by rw [e]))).trans (o8 b (fun e => hne (by rw [e])))⟩
    have hR := (H8.out.2.1.set h8 o8 z8).set k8 o9 z9
    have hE := H8.out.1.kept hgr (own_ne H8.out.1 h8 (by decide))
    have hW := HB.out.trans (H8.out.2.2.mono HB.out.size)
    have hD := hW.grown hgr hW.size (fun b e => by injection e with e; omega)
    refine bodyPost_ret (v := .agg #[.slice E' ne ce', .slice A' m c']) (by simp [results, Try.results20, go_sem, y0, y1]) rfl ?_
    exact ⟨⟨E', ce', A', m, c', rfl, hE, hR⟩, hD⟩
end Go.Proofs.Ytiokiecnglmbnaa
