/-
  The reference's Normal. Conditions: the lengths.
  The reference's numbers: the encodings of numbers, one behind the other. Conditions: the numbers are Go's, at most a hundred.
-/
import Derived.Test.YtiokiecnglmbnaaK35
import Derived.Test.YtiokiecnglmbnaaK36
import Derived.Test.YtiokiecnglmbnaaK23
import Derived.Test.YtiokiecnglmbnaaK20
import Derived.Test.YtiokiecnglmbnaaK16
import Derived.Test.YtiokiecnglmbnaaK21

namespace Go.Proofs.Ytiokiecnglmbnaa
open Go Go.RowKit Go.Proofs
attribute [local go_sem] Oper.semAt_some

/-- A store into a box of slices leaves a row of answers as it is. -/
theorem AnsR.set {W W' : World} {A : Option Addr} {n c g : Nat} {l : List TP.An} {a1 : Option Addr} {b1 c1 : Nat} {v : Value} {t : TypeId} (h : AnsR W A n c l) (hg : W.heap[g]? = some (.cells #[.slice a1 b1 c1, v] t (0, 0))) (ho : ∀ b, b ≠ g → W'.heap[b]? = W.heap[b]?) (hs : W'.heap.size = W.heap.size) : AnsR W' A n c l := by
  rcases h with h | ⟨g2, rfl, hlt, h1, h2, h3⟩
  · exact .inl h
  · refine .inr ⟨g2, rfl, by omega, h1, h2, fun j x hx => ?_⟩
    have hne : g2 ≠ g := by
      rintro rfl
      have c0 := (h3 j x hx).1
      rw [cell_of_row W g2 (j * 6) _ _ (0, 0) hg] at c0
      match j with
      | 0 => simp at c0
      | j + 1 =>
        rw [Array.getElem?_eq_none (by simp; omega)] at c0
        cases c0
    obtain ⟨k0, k1, k2, k3, k4, k5⟩ := h3 j x hx
    have hb := fun (o : Nat) => World.cell?_of_block (w := W) (w' := W') (a := ⟨g2, o, none⟩) (ho g2 hne)
    exact ⟨(hb _).trans k0, (hb _).trans k1, (hb _).trans k2, (hb _).trans k3, (hb _).trans k4, (hb _).trans k5⟩
/-- A normal form that is being built in block g; the result's box. -/
structure NmAt (lo g r : Nat) (W : World) (E : Option Addr) (ne ce : Nat) (A : Option Addr) (m c : Nat) (es : List NM.Ev) (L : List TP.An) : Prop where
  box : W.heap[g]? = some (.cells #[.slice E ne ce, .slice A m c] 26 (0, 0))
  res : W.heap[r]? = some (.cells #[.slice none 0 0, .slice none 0 0] 26 (0, 0))
  ev : W.ownsRow lo 47 8 (.slice E ne ce) ne (es.flatMap evC)
  an : AnsR W A m c L
  g0 : r < g
  g1 : g < lo
theorem NmAt.below {lo g r : Nat} {W W' : World} {E A : Option Addr} {ne ce m c : Nat} {es : List NM.Ev} {L : List TP.An} (h : NmAt lo g r W E ne ce A m c es L) (hb : Below W.heap.size W W') : NmAt lo g r W' E ne ce A m c es L :=
  ⟨(hb.block _ (heap_lt h.box)).trans h.box, (hb.block _ (heap_lt h.res)).trans h.res, own_belowT h.ev hb, h.an.keep hb, h.g0, h.g1⟩
theorem NmAt.put {lo g r : Nat} {W : World} {E A A2 : Option Addr} {ne ce m c m2 c2 : Nat} {es : List NM.Ev} {L L2 : List TP.An} (h : NmAt lo g r W E ne ce A m c es L) (hR : AnsR W A2 m2 c2 L2) : NmAt lo g r (W.setCell ⟨g, 1, none⟩ (.slice A2 m2 c2)) E ne ce A2 m2 c2 es L2 := by
  obtain ⟨W8, hW8, k8, o8, z8, p8, q8, r8⟩ := set1D h.box (i := 1) (.slice A2 m2 c2)
  rw [hW8]
  have hg8 : W.grownBy W8 (some g) := ⟨p8, q8, r8, by omega, fun b _ hne => o8 b (fun e => hne (by rw [e]))⟩
  have h0 := h.g0
  exact ⟨k8, (o8 r (by omega)).trans h.res, h.ev.kept hg8 (own_ne h.ev h.box (by decide)), hR.set h.box o8 z8, h.g0, h.g1⟩
theorem norm_next {t l : List TP.An} {k : Nat} {x : TP.An} (hx : l[k]? = some x) : TP.normO t [] (l.take (k + 1)) = if 0 < TP.getA t x.1 then TP.putA (TP.normO t [] (l.take k)) (x.1, TP.getA t x.1) else TP.normO t [] (l.take k) := by
  rw [List.take_add_one, hx, show (some x).toList = [x] from rfl, TP.normO_snoc]
theorem src_evs {w : World} {E : Option Addr} {ne ce : Nat} {es : List NM.Ev} (h : Evs w E ne es) (hn : E = none → ne = 0 ∧ ce = 0) : RgX.Src w E ne ce (es.flatMap evC) := by
  rcases E with _ | ad
  · obtain ⟨rfl, rfl⟩ := hn rfl
    exact .inl ⟨rfl, rfl, rfl, by rw [List.eq_nil_of_length_eq_zero h.1]; rfl⟩
  · exact .inr ⟨ad, rfl, evs_src h rfl⟩
set_option maxHeartbeats 8000000 in
set_option maxRecDepth 100000 in
theorem refNormal_any {E A : Option Addr} {ne ce na ca : Nat} {es : List NM.Ev} {l : List TP.An} (w : World) (h : TIn w E ne ce A na es l) (hna : na ≤ 90000) :
    Calls Try.prog 15 #[.agg #[.slice E ne ce, .slice A na ca]] w fun e w' => (∃ E' ce' A' m c', e = .returned (.agg #[.slice E' ne ce', .slice A' m c']) ∧ w'.ownsRow w.heap.size 47 8 (.slice E' ne ce') ne (es.flatMap evC) ∧ AnsR w' A' m c' (TP.normA l)) ∧ Below w.heap.size w w' := by
  obtain ⟨i0, hi0, hz0, hs0, hb0⟩ := info_splitE info_event
  obtain ⟨U, hU, hb, k0, k1, k2, hlt⟩ := three_boxes w (.cells #[.slice E ne ce, .slice A na ca] 26) (.cells #[.slice none 0 0, .slice none 0 0] 26) (.cells #[.slice none 0 0, .slice none 0 0] 26)
  have hsU : U.heap.size = w.heap.size + 1 + 1 + 1 := by rw [← hU]; simp
  have hsrc := src_evs (h.ev.keep hb) h.nil
  have HT := Lib.hid h
  have hel := h.ev.1
  have hbe := h.be
  have HLN := Lib.hid h.an.1
  have HB := Lib.hid hb
  have HK0 := Lib.hid (fun (V : World) (hV : Below U.heap.size U V) => (row2 ((hV.block _ (by omega)).trans k0)).1)
  have HK := Lib.hid (And.intro k1 k2)
  obtain ⟨⟨b0, b1⟩, _, _⟩ := row2 k0
  obtain ⟨⟨x0, x1⟩, xf0, xf1⟩ := row2 k2
  have HS := Lib.hid hsrc
  have KT0 := Lib.hid k0
  clear hsrc h hb k0 k1 k2
  go_enter Try.func15, Try.ntmps15
  go_upto_region 3 with (at_builtin
                         refine RgX.wpList_append_any rfl _ _ 23 rfl U.heap.size 47 i0 _ 8 64 Try.underlying23 hi0 hz0 hs0 hb0 rfl (by decide) (.slice none 0 0) 0 [] rfl (World.ownsRow_nil _ _ _ _) E ne ce (es.flatMap evC) rfl (by rw [evC_len, hel]) HS.out (evC_one es) (by simp only [maxLen]; omega) (by omega) (Nat.le_refl _) ?_
                         intro B2 c2 w2 hown2 hgr2
                         obtain ⟨⟨y0, y1⟩, yf0, yf1⟩ := row2 ((hgr2.block _ (by omega) (by simp [Value.ownBlock])).trans HK.out.2)
                         have H2 := Lib.hid (And.intro hown2 hgr2)
                         clear hown2 hgr2)
  obtain ⟨W8, e8, k8, o8, z8, p8, q8, t8⟩ := set1D (V := w2) (i := 0) ((H2.out.2.block _ (by omega) (by simp [Value.ownBlock])).trans HK.out.2) (.slice B2 (0 + ne) c2)
  have hown := H2.out.1
  have hgr := H2.out.2
  rw [List.nil_append] at hown
  have hb2 : Below U.heap.size U w2 := (Below.refl _ _).grown hgr (Nat.le_refl _) (fun b e => by cases e)
  have hz2 := hb2.size
  have hg8 : w2.grownBy W8 (some (w.heap.size + 1 + 1)) := ⟨p8, q8, t8, by omega, fun b _ hne => o8 b (fun e => hne (by rw [e]))⟩
  simp only [Nat.zero_add] at e8 k8 hown
  try simp only [Nat.zero_add]
  rw [e8]
  have hN : NmAt U.heap.size (w.heap.size + 1 + 1) (w.heap.size + 1) W8 B2 ne c2 none 0 0 es (TP.normO l [] (l.take 0)) := ⟨k8, (o8 _ (by omega)).trans ((hb2.block _ (by omega)).trans HK.out.1), hown.kept hg8 (own_ne hown ((hb2.block _ (by omega)).trans HK.out.2) (by decide)), .inl ⟨rfl, rfl, rfl, rfl⟩, by omega, by omega⟩
  have hbU : Below w.heap.size w W8 := (HB.out.trans (hb2.mono HB.out.size)).grown hg8 (by have := HB.out.size; omega) (fun b e => by injection e with e; omega)
  have hk0 : W8.heap[w.heap.size]? = some (.cells #[.slice E ne ce, .slice A na ca] 26 (0, 0)) := (o8 _ (by omega)).trans ((hb2.block _ (by omega)).trans KT0.out)
  have HN8 := Lib.hid (And.intro hN (And.intro hbU hk0))
  obtain ⟨g, hg⟩ : ∃ g, w.heap.size + 1 + 1 = g := ⟨_, rfl⟩
  obtain ⟨r, hr⟩ : ∃ r, w.heap.size + 1 = r := ⟨_, rfl⟩
  obtain ⟨lo, hlo⟩ : ∃ lo, U.heap.size = lo := ⟨_, rfl⟩
  rw [hg, hr, hlo] at HN8
  try rw [hg]
  try rw [hr]
  have hrg : r < g := by omega
  have hwr : w.heap.size < r := by omega
  clear e8 k8 o8 z8 p8 q8 t8 hown hgr hb2 hz2 hg8 hN hbU hk0 H2 HK HK0 HS KT0 b0 b1 x0 x1 xf0 xf1 y0 y1 yf0 yf1 hU
  go_wp2_with fail
  go_loopw [4] (fun i V => ∃ (k m c : Nat) (A' : Option Addr), k ≤ na ∧ m ≤ k ∧ i = .int .i64 (k : Int) ∧ Hid (NmAt lo g r V B2 ne c2 A' m c es (TP.normO l [] (l.take k)) ∧ Below w.heap.size w V ∧ V.heap[w.heap.size]? = some (.cells #[.slice E ne ce, .slice A na ca] 26 (0, 0)))) (fun i _ => na - (intOf i).toNat)
  case atStart => exact ⟨0, 0, 0, none, by omega, by omega, rfl, HN8.out⟩
  case round =>
    obtain ⟨k, m, c, A', hk, hmk, rfl, HV⟩ := hrel
    obtain ⟨⟨b0, b1⟩, _, _⟩ := row2 HV.out.2.2
    by_cases hin : k < na
    · have dk : decide (k < na) = true := decide_eq_true hin
      obtain ⟨x, hx⟩ : ∃ x, l[k]? = some x := ⟨_, List.getElem?_eq_getElem (by rw [HLN.out]; exact hin)⟩
      obtain ⟨gA, hgA, hgl, hxa⟩ := HT.out.an.2 (by omega)
      obtain ⟨q0, q1, q2, q3, q4, q5⟩ := (hxa k x hx).keep hgl HV.out.2.1
      subst hgA
      have HX := Lib.hid (norm_next (t := l) hx)
      obtain ⟨⟨qc, qh, qj, qk, qi⟩, y⟩ := x
      have HG := Lib.hid (fun (V : World) (hV : Below w.heap.size w V) => refGet_any E ne ce (ca := ca) ⟨qc, qh, qj, qk, qi⟩ V (HT.out.an.keep hV) (Nat.le_trans hna (by decide)))
      have hgn := TP.getA_nn l ⟨qc, qh, qj, qk, qi⟩
      obtain ⟨gk, hgk⟩ : ∃ n, TP.getA l ⟨qc, qh, qj, qk, qi⟩ = n := ⟨_, rfl⟩
      rw [hgk] at hgn
      have hki : (k : Int) < (na : Int) := by omega
      have HXA := Lib.hid (fun (V : World) (hV : Below w.heap.size w V) => (hxa k _ hx).keep hgl hV)
      clear hxa hx
      go_upto_region 6 with (fail)
      go_region_law (go_simp; go_at_call 22; refine (HG.out _ HV.out.2.1.drew).mono ?_; clear HG; rintro e w4 ⟨rfl, b4⟩
                     rw [hgk]
                     have b4' : Below wr.heap.size wr w4 := (Below.refl _ _).drew.trans b4
                     have N4 := HV.out.1.below b4'
                     have D4 := HV.out.2.1.trans (b4'.mono HV.out.2.1.size)
                     have K4 := (b4'.block _ (heap_lt HV.out.2.2)).trans HV.out.2.2
                     obtain ⟨⟨v0, v1⟩, _, _⟩ := row2 K4
                     obtain ⟨⟨x0, x1⟩, xf0, xf1⟩ := row2 N4.box
                     obtain ⟨p0, p1, p2, p3, p4, p5⟩ := HXA.out w4 D4
                     have H4 := Lib.hid (And.intro N4 (And.intro D4 K4))
                     clear b4 b4' N4 D4 K4)
      all_goals
        by_cases hp : 0 < gk
        · have dp : decide (0 < gk) = true := decide_eq_true hp
          have HP := Lib.hid (put_any (⟨qc, qh, qj, qk, qi⟩, gk) w4.drew (H4.out.1.below (Below.refl _ _).drew).an (by omega))
          have HL := Lib.hid (show TP.normO l [] (l.take (k + 1)) = TP.putA (TP.normO l [] (l.take k)) (⟨qc, qh, qj, qk, qi⟩, gk) from by rw [HX.out]; simp only [hgk]; exact if_pos hp)
          have hml := H4.out.1.an.len
          have hpl := TP.put_len (TP.normO l [] (l.take k)) (⟨qc, qh, qj, qk, qi⟩, gk)
          clear hp
          go_upto_region 8 with (fail)
          go_region_law (go_simp; go_at_call 44; refine HP.out.mono ?_; clear HP; rintro e w5 ⟨⟨A5, m5, c5, rfl, hR⟩, b5⟩
                         have b5' : Below w4.heap.size w4 w5 := (Below.refl _ _).drew.trans b5
                         have N5 := H4.out.1.below b5'
                         have D5 := H4.out.2.1.trans (b5'.mono H4.out.2.1.size)
                         have K5 := (b5'.block _ (heap_lt H4.out.2.2)).trans H4.out.2.2
                         obtain ⟨⟨z0, z1⟩, zf0, zf1⟩ := row2 N5.box
                         have hm5 := hR.len
                         have H5 := Lib.hid (And.intro (N5.put hR) (And.intro (D5.setCell (p := ⟨g, 1, none⟩) (by show w.heap.size ≤ g; omega) (.slice A5 m5 c5)) ((set_otherD (V := w5) (r := g) (i := 1) (.slice A5 m5 c5) (by omega : w.heap.size ≠ g)).trans K5)))
                         clear b5 b5' N5 D5 K5 hR)
          all_goals
            go_wp2_with fail
            go_roundw
            case rel => exact ⟨k + 1, m5, c5, A5, by omega, by omega, by go_num, by rw [HL.out]; exact H5.out⟩
            case measure => simp [intOf]; omega
        · have dp : decide (0 < gk) = false := decide_eq_false hp
          have HL := Lib.hid (show TP.normO l [] (l.take (k + 1)) = TP.normO l [] (l.take k) from by rw [HX.out]; simp only [hgk]; exact if_neg hp)
          clear hp
          go_wp2_with fail
          go_roundw
          case rel => exact ⟨k + 1, m, c, A', by omega, by omega, by go_num, by rw [HL.out]; exact H4.out⟩
          case measure => simp [intOf]; omega
    · have dk : decide (k < na) = false := decide_eq_false hin
      obtain rfl : k = na := by omega
      have HL := Lib.hid (show TP.normO l [] (l.take k) = TP.normA l from by rw [List.take_of_length_le (by rw [HLN.out]; exact Nat.le_refl _)]; rfl)
      obtain ⟨⟨x0, x1⟩, xf0, xf1⟩ := row2 HV.out.1.box
      obtain ⟨⟨z0, z1⟩, zf0, zf1⟩ := row2 HV.out.1.res
      go_wp2_with fail
      obtain ⟨V8, e8, k8, o8, z8, p8, q8, t8⟩ := set1D HV.out.1.res (i := 0) (.slice B2 ne c2)
      rw [e8]
      clear e8
      obtain ⟨V9, e9, k9, o9, z9, p9, q9, t9⟩ := set1D k8 (i := 1) (.slice A' m c)
      rw [e9]
      clear e9
      obtain ⟨⟨y0, y1⟩, _, _⟩ := row2 k9
      have hgr : wr.grownBy V9 (some r) := ⟨p9.trans p8, q9.trans q8, t9.trans t8, by rw [z9, z8]; exact Nat.le_refl _, fun b _ hne => (o9 b (fun e => hne (by rw [e]))).trans (o8 b (fun e => hne (by rw [e])))⟩
      have hR := (HV.out.1.an.set HV.out.1.res o8 z8).set k8 o9 z9
      have hE := own_baseT (HV.out.1.ev.kept hgr (own_ne HV.out.1.ev HV.out.1.res (by decide))) (show w.heap.size ≤ lo by omega)
      have hD := HV.out.2.1.grown hgr HV.out.2.1.size (fun b e => by injection e with e; omega)
      rw [HL.out] at hR
      refine bodyPost_ret (v := .agg #[.slice B2 ne c2, .slice A' m c]) (by simp [results, Try.results15, go_sem, y0, y1]) rfl ?_
      exact ⟨⟨B2, c2, A', m, c, rfl, hE, hR⟩, hD⟩
end Go.Proofs.Ytiokiecnglmbnaa

namespace Go.Proofs.Ytiokiecnglmbnaa
open Go Go.RowKit Go.Proofs
attribute [local go_sem] Oper.semAt_some

theorem encN_snoc (l : List Int) (x : Int) : encN (l ++ [x]) = encN l ++ encI x := by unfold encN; rw [List.flatMap_append]; simp
theorem encN_take {l : List Int} {k : Nat} (h : k < l.length) : encN (l.take (k + 1)) = encN (l.take k) ++ encI (l[k]?.getD 0) := by
  rw [List.take_add_one, List.getElem?_eq_getElem h, show (some l[k]).toList = [l[k]] from rfl, encN_snoc]
  rfl
theorem src_slc {w : World} {k : IntKind} {a : Option Addr} {n c : Nat} {zs : List Int} (h : Slc k w a n c zs) : RgX.Src w a n c (zs.map (Value.int k)) := by
  obtain ⟨h1, h2, _, h4⟩ := h
  rcases h4 with ⟨rfl, rfl⟩ | h4
  · have hn : n = 0 := by omega
    subst hn
    exact .inl ⟨rfl, rfl, rfl, by rw [List.length_eq_zero_iff.1 h1]; rfl⟩
  · exact .inr h4
theorem bytes_one (l : List Int) : ∀ u ∈ l.map (Value.int .u8), u.oneCell' = true := by
  intro u hu
  obtain ⟨x, _, rfl⟩ := List.mem_map.1 hu
  rfl
set_option maxHeartbeats 4000000 in
set_option maxRecDepth 100000 in
theorem refNumbers_any {A : Option Addr} {n c : Nat} {zs : List Int} (w : World) (hI : Ints .i64 w.heap.size w A n zs) (hi : ∀ x ∈ zs, I64 x) (hn : n ≤ 100) :
    Calls Try.prog 56 #[.slice A n c] w (Mk 5 .u8 w (encN zs)) := by
  obtain ⟨i0, hi0, hz0, hz1, hz2⟩ := info_parts info_byte
  have HI := Lib.hid (And.intro hI hi)
  clear hI hi
  go_enter Try.func56, Try.ntmps56
  go_wp2_with fail
  go_loopw [3, 4] (fun r i V => ∃ (k m d : Nat) (B : Option Addr), k ≤ n ∧ i = .int .i64 (k : Int) ∧ r = .slice B m d ∧ Hid (V.ownsRow w.heap.size 5 1 (.slice B m d) m ((encN (zs.take k)).map (Value.int .u8))) ∧ Hid (Below w.heap.size w V)) (fun _ i _ => n - (intOf i).toNat)
  case atStart => exact ⟨0, 0, 0, none, by omega, rfl, rfl, World.ownsRow_nil _ _ _ _, Below.refl _ _⟩
  case round =>
    obtain ⟨k, m, d, B, hk, rfl, rfl, HO, HV⟩ := hrel
    by_cases hin : k < n
    · have dk : decide (k < n) = true := decide_eq_true hin
      obtain ⟨b, off, rfl, hbl, hc⟩ := HI.out.1.at_ (by omega)
      have c0 := (HV.out.cell (p := ⟨b, off + k, none⟩) hbl).trans (hc k hin)
      have hyl := HI.out.1.len
      have HX := Lib.hid (encN_take (l := zs) (k := k) (by omega))
      have hx64 := HI.out.2 _ (getD_mem (l := zs) (j := k) (by omega))
      obtain ⟨x, hx⟩ : ∃ x, zs[k]?.getD 0 = x := ⟨_, rfl⟩
      rw [hx] at c0 HX hx64
      have HR := Lib.hid (ref_int x wr hx64)
      have hel := encN_len (zs.take k)
      have htl := List.length_take_le k zs
      have hml : (encN (zs.take k)).length = m := by have := HO.out.1; simpa using this
      have hei := encU_len (zig x)
      clear hc hx hx64
      go_wp2_with fail
      refine HR.out.mono ?_
      rintro e w2 ⟨P, p, q, rfl, m1, m2, m3, m4⟩
      have m1' : (encU (zig x)).length = p := m1
      have hO2 := own_belowT HO.out m4
      have HS := Lib.hid (src_slc (own_slc m3))
      have HM := Lib.hid (And.intro hO2 (HV.out.trans (m4.mono HV.out.size)))
      have hnl : ((encI x).map (Value.int .u8)).length = p * 1 := by rw [List.length_map, Nat.mul_one]; exact m1
      have hml2 : m + p ≤ maxLen := by simp only [maxLen]; omega
      clear m1 m2 m3 m4 hO2
      go_wp2_with (at_builtin; refine RgX.wpList_append_any rfl _ _ 60 rfl w.heap.size 5 i0 _ 1 1 Try.underlying60 hi0 hz0 hz1 hz2 rfl (by decide) (.slice B m d) m ((encN (zs.take k)).map (Value.int .u8)) rfl HM.out.1 P p q ((encI x).map (Value.int .u8)) rfl hnl HS.out (bytes_one _) hml2 (by omega) HM.out.2.size ?_; intro B3 d3 w3 ho3 hg3)
      have HV3 := Lib.hid (HM.out.2.grown hg3 HM.out.2.size fun b e => (HM.out.1.lt b e).1)
      have HO3 := Lib.hid ho3
      clear hg3 ho3
      go_roundw
      case rel => exact ⟨k + 1, m + p, d3, B3, by omega, by go_num, rfl, (by rw [HX.out, List.map_append]; exact HO3.out : World.ownsRow _ _ _ _ _ _ _), HV3.out⟩
      case measure => simp [intOf]; omega
    · have dk : decide (k < n) = false := decide_eq_false hin
      obtain rfl : k = n := by omega
      have HT := Lib.hid (show zs.take k = zs from List.take_of_length_le (by have := HI.out.1.len; omega))
      go_wp2_with fail
      go_ret
      have hO := HO.out
      rw [HT.out] at hO
      exact mk_own hO HV.out
end Go.Proofs.Ytiokiecnglmbnaa
