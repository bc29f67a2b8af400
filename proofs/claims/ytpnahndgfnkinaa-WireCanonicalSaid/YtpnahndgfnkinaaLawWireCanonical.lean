/-
  The walk of the law WireCanonical: what can be read to the end is what writing gives. No condition beyond the arguments' readings.
-/
import Derived.Test.YtpnahndgfnkinaaLawWirePrefix
import Derived.Test.YtpnahndgfnkinaaLawWireOwn
import Derived.Test.YtpnahndgfnkinaaWCanon
namespace Go.Proofs.Ytpnahndgfnkinaa.LawWireCanonical
open Go Go.RowKit LawWirePrefix

theorem VAt.other {B g : Nat} {w w' : World} {x : V} {v : Value} {cs : Array Value} (h : VAt B w x v) (hg : w.heap[g]? = some (.cells cs 73 (0, 0))) (hb : But g w w') : VAt B w' x v := by
  obtain ⟨bA, bn, bc, lA, ln, lc, e, h1, h2⟩ := h
  have key : ∀ (t : TypeId) (b : Nat) (C : Array Value), t ≠ 73 → w.heap[b]? = some (.cells C t (0, 0)) → w'.heap[b]? = w.heap[b]? := fun t b C hne hC => hb.block b (heap_lt hC) fun e => by
    injection e with e
    subst e
    exact heap_ne hg hC (Ne.symm hne) rfl
  exact ⟨bA, bn, bc, lA, ln, lc, e, h1.keep fun b C _ hC => key _ b C (by decide) hC, h2.keep fun b C _ hC => key _ b C (by decide) hC⟩
theorem row_other {w w' : World} {base size n g : Nat} {t : TypeId} {v : Value} {xs : List Value} {cs : Array Value} {tg : TypeId} {f : Nat × Nat} (h : w.ownsRow base t size v n xs) (hg : w.heap[g]? = some (.cells cs tg f)) (hne : tg ≠ t) (hb : But g w w') : w'.ownsRow base t size v n xs := by
  refine h.kept hb ?_
  rcases h.2 with ⟨rfl, _⟩ | ⟨g', cap, cur, rfl, _, hh, _⟩
  · exact .inl rfl
  · refine .inr fun e => ?_
    have : g' = g := by simpa [Value.ownBlock] using e
    subst this
    exact heap_ne hg hh hne rfl

/-- One value more has been read and collected. -/
theorem got_step {B g base k c' : Nat} {w0 wr v1 w4 : World} {s s' : St} {ys : List V} {cs : List Value} {A' : Option Addr} {x : V} {c0 c1 c2 c3 c4 : Value}
    (hI : InAt B wr g s) (hI1 : InAt B v1 g s') (hb : But g wr v1) (hrow : wr.ownsRow base 28 5 (.slice A' k c') k cs) (hV : VRows wr.heap.size wr ys cs) (hx : VAt v1.heap.size v1 x (.agg #[c0, c1, c2, c3, c4]))
    (hB : Below base w0 wr) (hbg : base ≤ g) (hbase : base ≤ wr.heap.size)
    (hg : (v1.alloc (.cells #[c0, c1, c2, c3, c4] 28)).grownBy w4 (Value.slice A' k c').ownBlock) :
    VRows w4.heap.size w4 (ys ++ [x]) (cs ++ [c0, c1, c2, c3, c4]) ∧ InAt B w4 g s' ∧ Below base w0 w4 ∧ wr.heap.size ≤ w4.heap.size := by
  obtain ⟨ci, hci⟩ := hI.struct
  have hs1 := hb.size
  have bT := Below.alloc (Below.refl v1.heap.size v1) (Nat.le_refl _) (.cells #[c0, c1, c2, c3, c4] 28)
  have hrow1 := row_other hrow hci (by decide) hb
  have hrow2 := row_below hrow1 bT
  have hr : ∀ b, (Value.slice A' k c').ownBlock = some b → ∃ C, (v1.alloc (.cells #[c0, c1, c2, c3, c4] 28)).heap[b]? = some (.cells C 28 (0, 0)) := fun b e => by
    rcases hrow2.2 with ⟨e2, _⟩ | ⟨g', cap, cur, e2, _, hh, _⟩
    · rw [e2] at e; cases e
    · rw [e2] at e
      have e3 : some g' = some b := e
      injection e3 with e3
      subst e3
      exact ⟨cur, hh⟩
  have sz := hg.size
  have sT := bT.size
  have hI2 := hI1.below bT
  obtain ⟨ci2, hci2⟩ := hI2.struct
  refine ⟨VRows.snoc (hV.imp fun y v hy => ((((VAt.other hy hci hb).more hs1).below bT).grown hg (fun b e => .inr (hr b e))).more (by omega)) (((hx.below bT).grown hg (fun b e => .inr (hr b e))).more (by omega)), ?_, ?_, by omega⟩
  · refine hI2.grown hg (fun e => ?_) fun b e => .inr fun C hC => ?_
    · obtain ⟨C, hC⟩ := hr g e.symm
      exact heap_ne hci2 hC (by decide) rfl
    · obtain ⟨C', hC'⟩ := hr b e
      exact heap_ne hC' hC (by decide) rfl
  · have b1 := below_but hB hb hbg hbase
    exact (b1.trans (bT.mono (by omega))).grown hg (by omega) fun b e => (hrow2.lt b e).1

theorem bad_ne {B g : Nat} {w : World} {s : St} (h : InAt B w g s) : ∀ e, s = .bad e → e ≠ 0 := by
  rintro e rfl
  obtain ⟨_, _, _, _, h0, _⟩ := h
  intro he
  subst he
  cases h0
theorem vat_agg {B : Nat} {w : World} {x : V} {v : Value} (h : VAt B w x v) : ∃ c0 c1 c2 c3 c4, v = .agg #[c0, c1, c2, c3, c4] := by
  obtain ⟨_, _, _, _, _, _, e, _⟩ := h
  exact ⟨_, _, _, _, _, e⟩
theorem vat_one {B : Nat} {w : World} {x : V} {c0 c1 c2 c3 c4 : Value} (h : VAt B w x (.agg #[c0, c1, c2, c3, c4])) : ∀ u ∈ [c0, c1, c2, c3, c4], u.oneCell' = true := by
  obtain ⟨_, _, _, _, _, _, e, _⟩ := h
  injection e with e
  simp only [Array.mk.injEq, List.cons.injEq] at e
  obtain ⟨rfl, rfl, rfl, rfl, rfl, _⟩ := e
  simp [Value.oneCell']

set_option maxRecDepth 100000 in
set_option maxHeartbeats 4000000 in
theorem walk (a0 : Option Addr) (len0 cap0 : Nat) (z0 : List Int) (a1 : Option Addr) (len1 cap1 : Nat) (z1 : List Int) (a2 : Int) (a3 : Int) (a4 : Option Addr) (len4 cap4 : Nat) (z4 : List Int) (w : World) (w0 : Row .u8 w a0 len0 cap0 z0) (w1 : Row .i64 w a1 len1 cap1 z1) (w2 : (Lit.int .i64 a2).wf = true) (w3 : (Lit.int .u8 a3).wf = true) (w4 : Row .i64 w a4 len4 cap4 z4) :
    Calls Try.prog 6 #[.slice a0 len0 cap0, .slice a1 len1 cap1, .int .i64 a2, .int .u8 a3, .slice a4 len4 cap4] w fun e w' => e = .returned (.bool true) ∧ Below w.heap.size w w' := by
  have hb2 := bounds_i64 w2
  have hb3 := bounds_u8 w3
  obtain ⟨hI1, hlc1, hcm1, hwf1⟩ := w1.ints
  obtain ⟨hI4, hlc4, hcm4, hwf4⟩ := w4.ints
  unfold maxLen at hcm1 hcm4
  have HV := Lib.hid (vals_any a1 len1 cap1 _ w hI1 (i64_of hwf1) (by omega))
  have HF := Lib.hid (fun u (hu : Below w.heap.size w u) => few_any a0 len0 cap0 _ 60 (by decide) (by decide) u (w0.slc.below hu))
  have h8 : ∀ x ∈ (z0.take len0).take 60, B8 x := fun x hx => b8_of w0.ints.2.2.2 x (List.mem_of_mem_take hx)
  have H80 := Lib.hid h8
  have HI4 := Lib.hid (i64_of hwf4)
  have hl4 : len4 ≤ 9223372036854775807 := by omega
  obtain ⟨i1, hi1, hy0, hy1, hy2⟩ := info_parts info_val
  clear w0 w1 w2 w3 w4 hI1 hlc1 hcm1 hwf1 hlc4 hcm4 hwf4 h8
  go_enter Try.func6, Try.ntmps6
  go_wp2_with fail
  refine HV.out.mono ?_
  rintro e u1 ⟨A1, n1, c1, xs, csx, rfl, hn8, hxl, hxg, hOx, hRx, hbw1⟩
  have hV : Vls u1.heap.size u1 A1 n1 c1 xs := Vls.of_own hOx hRx
  have HE := Lib.hid (encode_any A1 n1 c1 xs u1 hV (fun x hx => (hxg x hx).1) (by omega))
  have hlen := encVs_good xs hxg
  have H8 := Lib.hid (encVs_b8 xs hxg)
  have HXL := Lib.hid hxl
  have HXG := Lib.hid hxg
  have hl400 : (encVs xs).length ≤ 400 := by omega
  have hs1 := hbw1.size
  clear hxl hxg hlen hOx hRx
  go_wp2_with fail
  refine HE.out.mono ?_
  rintro e u2 ⟨A2, n2, c2, rfl, hn2, -, hO2, hbw2⟩
  have hn400 : n2 ≤ 400 := by omega
  have HN2 := Lib.hid hn2
  have B2 := hbw1.trans (hbw2.mono hs1)
  have hV2 := hV.below hbw2
  have hs2 := hbw2.size
  clear hn2 hV hl400
  by_cases hn0 : n2 = 0
  case' pos =>
    have hno : ¬ (0 : Int) < n2 := by omega
    clear hn0
    go_wp2_with fail
    obtain ⟨u3, bs, hu3, hO3, hB8, hbl, b23⟩ : ∃ (W : World) (bs : List Int), W = u2 ∧ W.ownsRow u1.heap.size 5 1 (.slice A2 n2 c2) n2 (bs.map (Value.int .u8)) ∧ Hid (∀ x ∈ bs, B8 x) ∧ Hid (bs.length = n2) ∧ Below u1.heap.size u2 W := ⟨u2, _, rfl, hO2, H8.out, HN2.out, Below.refl _ _⟩
    rw [← hu3]
    clear hu3 hno hO2
  case' neg =>
    have hpos : (0 : Int) < n2 := by omega
    obtain ⟨r0, r1⟩ := around_in a2 n2 hpos
    have HA := Lib.hid (around_any a2 n2 ⟨by omega, by omega⟩ hpos (by omega) u2)
    obtain ⟨a, ha⟩ : ∃ a, around a2 n2 = a := ⟨_, rfl⟩
    rw [ha] at HA r0 r1
    obtain ⟨a, rfl⟩ := Int.eq_ofNat_of_zero_le r0
    have han : a < n2 := by omega
    obtain ⟨gt, ut, rfl, hnc, hct, hft⟩ := LawWireOwn.own_at hO2 a han
    clear ha hn0
    go_wp2_with fail
    refine HA.out.mono ?_
    rintro e u2' ⟨rfl, rfl⟩
    go_wp2_with fail
    have hgt := (hO2.lt gt rfl).1
    obtain ⟨A2, hA2⟩ : ∃ A, A = some (⟨gt, 0, none⟩ : Addr) := ⟨_, rfl⟩
    have hset := LawWireOwn.own_set hO2 a (.int .u8 a3)
    rw [← List.map_set] at hset
    obtain ⟨u3, bs, hu3, hO3, hB8, hbl, b23⟩ : ∃ (W : World) (bs : List Int), W = u2.setCell ⟨gt, a, none⟩ (.int .u8 a3) ∧ W.ownsRow u1.heap.size 5 1 (.slice A2 n2 c2) n2 (bs.map (Value.int .u8)) ∧ Hid (∀ x ∈ bs, B8 x) ∧ Hid (bs.length = n2) ∧ Below u1.heap.size u2 W := ⟨_, (encVs xs).set a a3, rfl, by rw [hA2]; exact hset, (fun x hx => by
      rcases List.mem_or_eq_of_mem_set hx with hx | rfl
      · exact H8.out x hx
      · unfold B8; omega), (by show _ = _; rw [List.length_set]; exact HN2.out), (Below.refl _ _).setCell (p := ⟨gt, a, none⟩) hgt _⟩
    rw [← hu3, ← hA2]
    clear hu3 hpos hO2 hset hct hft hA2 HA
  all_goals
    have hs3 := b23.size
    have B3 := B2.trans (b23.mono hs1)
    have hV3 := hV2.below b23
    have HNW := Lib.hid (newin_any A2 n2 c2 bs u3 _ (Lst.of_own hO3) (by omega) hB8.out)
    have HO3 := Lib.hid hO3
    clear hO3 hV2
    refine HNW.out.mono ?_
    rintro e u4 ⟨g, rfl, hg, hin, hbw4⟩
    have hs4 := hbw4.size
    have B4 := B3.trans (hbw4.mono B3.size)
    have hV4 := hV3.below (hbw4.mono (by omega))
    clear hV3
    go_wp2_with fail
    go_loopw [14, 15] (fun o i wr => ∃ (k : Nat) (A' : Option Addr) (c' : Nat) (ys : List V) (cs : List Value) (s : St), k ≤ n1 ∧ i = .int .i64 k ∧ o = .slice A' k c' ∧ Hid (ys.length = k) ∧ wr.ownsRow u3.heap.size 28 5 (.slice A' k c') k cs ∧ VRows wr.heap.size wr ys cs ∧ InAt u4.heap.size wr g s ∧ Hid (Canon bs ys s) ∧ Below u3.heap.size u4 wr ∧ u4.heap.size ≤ wr.heap.size) (fun _ i _ => n1 - (intOf i).toNat)
    case atStart => exact ⟨0, none, 0, [], [], _, Nat.zero_le _, rfl, rfl, rfl, ⟨rfl, .inl ⟨rfl, rfl⟩⟩, VRows.nil _ _, hin, Canon.start bs, Below.refl _ _, Nat.le_refl _⟩
    case round =>
      obtain ⟨k, A', c', ys, cs, s, hk, rfl, rfl, hyl, hrow, hVr, hI, hCan, hBr, hsr⟩ := hrel
      clear hin
      have hVk := hV4.below (hBr.mono (by omega))
      by_cases hlt : k < n1
      · obtain ⟨b, off, x, rfl, hxk, hck⟩ := Vls.kind hVk hlt
        obtain ⟨_, _, _, _, _, _, hkd⟩ := (HXG.out x (List.mem_of_getElem? hxk)).1
        have HR1 := Lib.hid (read_any g s x.kind 60 wr hI (by omega) ⟨by decide, by decide⟩ hkd)
        have HC2 := Lib.hid (hCan.out.step hB8.out hkd)
        have HVr := Lib.hid hVr
        have HII := Lib.hid hI
        clear hVk hxk hVr hI
        go_wp2_with fail
        refine HR1.out.mono ?_
        rintro e v1 ⟨va, rfl, hva, hI1, hbv⟩
        obtain ⟨c0, c1', c2', c3, c4, rfl⟩ := vat_agg hva
        have hrow1 := row_other hrow HII.out.struct.choose_spec (by decide) hbv
        have hsv := hbv.size
        go_wp2_with (at_builtin; refine wpList_append_own _ rfl _ _ 25 rfl u3.heap.size 28 i1 _ 5 72 Try.underlying25 hi1 hy0 hy1 hy2 rfl (by decide) _ _ _ rfl (row_below hrow1 ((Below.refl _ _).alloc (Nat.le_refl _) _)) ⟨_, 0, none⟩ 1 1 [_, _, _, _, _] rfl rfl (cells5_new _ _ _ _ _ _ _ _ (by simp)) (vat_one hva) (by simp only [maxLen]; omega) (by omega) (by simp; omega) ?_; intro v' w4 hown' hgrow _; obtain ⟨g', cap', rfl⟩ := ownsRow_succ hown')
        obtain ⟨q1, q2, q3, q4⟩ := got_step HII.out hI1 hbv hrow HVr.out hva hBr hg (by omega) hgrow
        go_roundw
        case rel => exact ⟨k + 1, _, _, _, _, _, by omega, by go_num, rfl, vs_len hyl.out _, hown', q1, q2, HC2.out, q3, by omega⟩
        case measure => simp [intOf]; omega
      · have hno : ¬ k < n1 := hlt
        clear hlt hVk
        obtain rfl : n1 = k := by omega
        have B5 := B4.trans (hBr.mono (by omega))
        have hne0 := bad_ne hI
        obtain ⟨E, hE⟩ : ∃ E, s.endE = E := ⟨_, rfl⟩
        have HEn := Lib.hid (in_end g s wr hI)
        rw [hE] at HEn
        have HEE := Lib.hid hE
        have HN0 := Lib.hid hne0
        clear hE hne0
        go_wp2_with fail
        refine HEn.out.mono ?_
        rintro e wr' ⟨rfl, rfl⟩
        by_cases he : E = 0
        case' pos =>
          obtain ⟨d1, d2⟩ := hCan.out.done (HEE.out.trans he) HN0.out
          have HEC := Lib.hid (encode_any A' n1 c' ys wr (Vls.of_own hrow hVr) d2 (by omega))
          rw [d1] at HEC
          have heb : (E == 0) = true := by simp [he]
          clear he d1 d2 hrow hVr hI hV4
          go_wp2_with fail
          refine HEC.out.mono ?_
          rintro e v1 ⟨An, nn, cn, rfl, hnn, hLn, -, hbv1⟩
          have hnn4 : nn ≤ 400 := by rw [← hnn, hbl.out]; exact hn400
          have hT := Lst.of_own (row_below HO3.out ((hbw4.trans hBr).trans (hbv1.mono (by omega))))
          have HS := Lib.hid (sameBytes_eq An A2 nn n2 cn c2 bs v1 hLn.ints hT.ints (by omega))
          have B6 := B5.trans (hbv1.mono B5.size)
          clear hnn hLn hT
          go_wp2_with fail
          refine HS.out.mono ?_
          rintro e v2 ⟨rfl, hbv2⟩
          have B7 := B6.trans (hbv2.mono B6.size)
          clear heb
          go_wp2_with fail
          obtain ⟨u6, hu6⟩ : ∃ W, W = v2 := ⟨_, rfl⟩
          rw [← hu6] at B7 ⊢
          clear hu6
        case' neg =>
          have heb : (E == 0) = false := by simp [he]
          clear he hrow hVr hI hV4
          go_wp2_with fail
          have B7 := B5
          obtain ⟨u6, hu6⟩ : ∃ W, W = wr := ⟨_, rfl⟩
          rw [← hu6] at B7 ⊢
          clear hu6
        all_goals
          clear hCan hBr HEn HEE HN0
          refine (HF.out u6 B7).mono ?_
          rintro e u7 ⟨A7, n7, c7, rfl, hn7, hL7, hO7, hbw7⟩
          have e60 : (60 : Int).toNat = 60 := rfl
          rw [e60] at hn7 hL7
          obtain ⟨fw, hfw⟩ : ∃ fw, (z0.take len0).take 60 = fw := ⟨_, rfl⟩
          have HFW8 := Lib.hid (show ∀ x ∈ fw, B8 x by rw [← hfw]; exact H80.out)
          rw [hfw] at hn7 hL7
          have hn60 : n7 ≤ 60 := by rw [← hn7, ← hfw]; exact List.length_take_le _ _
          have HN7 := Lib.hid hn7
          have hs7 := hbw7.size
          have B8' := B7.trans (hbw7.mono B7.size)
          have HNW2 := Lib.hid (newin_any A7 n7 c7 fw u7 _ hL7 (by omega) HFW8.out)
          clear e60 hfw hn7 hO7
          go_wp2_with fail
          refine HNW2.out.mono ?_
          rintro e u8 ⟨g2, rfl, hg2, hin2, hbw8⟩
          have hs8 := hbw8.size
          have B9 := B8'.trans (hbw8.mono B8'.size)
          go_wp2_with fail
          go_loopw [14, 17] (fun o i wr => ∃ (k : Nat) (A' : Option Addr) (c' : Nat) (ys : List V) (cs : List Value) (s : St), k ≤ 10 ∧ i = .int .i64 k ∧ o = .slice A' k c' ∧ Hid (ys.length = k) ∧ wr.ownsRow u7.heap.size 28 5 (.slice A' k c') k cs ∧ VRows wr.heap.size wr ys cs ∧ InAt u8.heap.size wr g2 s ∧ Hid (Canon fw ys s) ∧ Below u7.heap.size u8 wr ∧ u8.heap.size ≤ wr.heap.size) (fun _ i _ => 10 - (intOf i).toNat)
          case atStart => exact ⟨0, none, 0, [], [], _, Nat.zero_le _, rfl, rfl, rfl, ⟨rfl, .inl ⟨rfl, rfl⟩⟩, VRows.nil _ _, hin2, Canon.start fw, Below.refl _ _, Nat.le_refl _⟩
          case round =>
            obtain ⟨k, A', c', ys, cs, s, hk, rfl, rfl, hyl, hrow, hVr, hI, hCan, hBr, hsr⟩ := hrel
            clear hin2
            have hs79 := B8'.size
            have B10 := B9.trans (hBr.mono hs79)
            obtain ⟨E2, hE2⟩ : ∃ E, s.endE = E := ⟨_, rfl⟩
            have HEn := Lib.hid (in_end g2 s wr hI)
            rw [hE2] at HEn
            have HEE := Lib.hid hE2
            have HN0 := Lib.hid (bad_ne hI)
            have HVr := Lib.hid hVr
            have HII := Lib.hid hI
            have HL7 := Lib.hid hL7
            clear hE2 hVr hI
            by_cases he : E2 = 0
            · obtain ⟨d1, d2⟩ := hCan.out.done (HEE.out.trans he) HN0.out
              have HEC := Lib.hid (encode_any A' k c' ys wr (Vls.of_own hrow HVr.out) d2 (by omega))
              rw [d1] at HEC
              have heb : (E2 == 0) = true := by simp [he]
              have heb2 : (E2 != 0) = false := by simp [he]
              clear he d1 d2 hrow
              by_cases hl : k < len4
              · by_cases h10 : k < 10
                · go_wp2_with fail
                  refine HEn.out.mono ?_
                  rintro e wr' ⟨rfl, rfl⟩
                  go_wp2_with fail
                  refine HEn.out.mono ?_
                  rintro e wr' ⟨rfl, rfl⟩
                  go_wp2_with fail
                  refine HEC.out.mono ?_
                  rintro e v1 ⟨An, nn, cn, rfl, hnn, hLn, -, hbv1⟩
                  have hnn4 : nn ≤ 60 := by rw [← hnn, HN7.out]; exact hn60
                  have hT := (HL7.out.below ((hbw8.trans hBr).trans (hbv1.mono (by omega)))).ints.more (show u7.heap.size ≤ v1.heap.size by have := hbv1.size; omega)
                  have HS := Lib.hid (sameBytes_eq An A7 nn n7 cn c7 fw v1 hLn.ints hT (by omega))
                  have B11 := B10.trans (hbv1.mono B10.size)
                  clear hnn hLn hT
                  go_wp2_with fail
                  refine HS.out.mono ?_
                  rintro e v2 ⟨rfl, hbv2⟩
                  have B12 := B11.trans (hbv2.mono B11.size)
                  go_wp2_with fail
                  refine (lives_any v2).mono ?_
                  rintro e v3 ⟨rfl, hbv3⟩
                  go_wp2_with fail
                  go_ret
                  exact ⟨rfl, B12.trans (hbv3.mono B12.size)⟩
                · go_wp2_with fail
                  refine HEn.out.mono ?_
                  rintro e wr' ⟨rfl, rfl⟩
                  go_wp2_with fail
                  refine HEC.out.mono ?_
                  rintro e v1 ⟨An, nn, cn, rfl, hnn, hLn, -, hbv1⟩
                  have hnn4 : nn ≤ 60 := by rw [← hnn, HN7.out]; exact hn60
                  have hT := (HL7.out.below ((hbw8.trans hBr).trans (hbv1.mono (by omega)))).ints.more (show u7.heap.size ≤ v1.heap.size by have := hbv1.size; omega)
                  have HS := Lib.hid (sameBytes_eq An A7 nn n7 cn c7 fw v1 hLn.ints hT (by omega))
                  have B11 := B10.trans (hbv1.mono B10.size)
                  clear hnn hLn hT
                  go_wp2_with fail
                  refine HS.out.mono ?_
                  rintro e v2 ⟨rfl, hbv2⟩
                  have B12 := B11.trans (hbv2.mono B11.size)
                  go_wp2_with fail
                  refine (lives_any v2).mono ?_
                  rintro e v3 ⟨rfl, hbv3⟩
                  go_wp2_with fail
                  go_ret
                  exact ⟨rfl, B12.trans (hbv3.mono B12.size)⟩
              · go_wp2_with fail
                refine HEn.out.mono ?_
                rintro e wr' ⟨rfl, rfl⟩
                go_wp2_with fail
                refine HEC.out.mono ?_
                rintro e v1 ⟨An, nn, cn, rfl, hnn, hLn, -, hbv1⟩
                have hnn4 : nn ≤ 60 := by rw [← hnn, HN7.out]; exact hn60
                have hT := (HL7.out.below ((hbw8.trans hBr).trans (hbv1.mono (by omega)))).ints.more (show u7.heap.size ≤ v1.heap.size by have := hbv1.size; omega)
                have HS := Lib.hid (sameBytes_eq An A7 nn n7 cn c7 fw v1 hLn.ints hT (by omega))
                have B11 := B10.trans (hbv1.mono B10.size)
                clear hnn hLn hT
                go_wp2_with fail
                refine HS.out.mono ?_
                rintro e v2 ⟨rfl, hbv2⟩
                have B12 := B11.trans (hbv2.mono B11.size)
                go_wp2_with fail
                refine (lives_any v2).mono ?_
                rintro e v3 ⟨rfl, hbv3⟩
                go_wp2_with fail
                go_ret
                exact ⟨rfl, B12.trans (hbv3.mono B12.size)⟩
            · have heb : (E2 == 0) = false := by simp [he]
              have heb2 : (E2 != 0) = true := by simp [he]
              clear he
              by_cases hl : k < len4
              · by_cases h10 : k < 10
                · obtain ⟨b, off, rfl, hbl4, hcs⟩ := hI4.at_ (by omega)
                  have hck := (B10.cell (p := ⟨b, off + k, none⟩) hbl4).trans (hcs k hl)
                  obtain ⟨x0, x1⟩ := HI4.out _ (getD_mem (l := z4.take len4) (j := k) (by rw [hI4.len]; exact hl))
                  obtain ⟨x, ex⟩ : ∃ x, (z4.take len4)[k]?.getD 0 = x := ⟨_, rfl⟩
                  rw [ex] at hck x0 x1
                  obtain ⟨r0', r1'⟩ := around_in x 4 (by decide)
                  have HA4 := Lib.hid (around_any x 4 ⟨x0, x1⟩ (by decide) (by decide) wr)
                  obtain ⟨kd, hkd⟩ : ∃ kd, around x 4 = kd := ⟨_, rfl⟩
                  rw [hkd] at HA4 r0' r1'
                  have hk4 := four r0' r1'
                  have HR1 := Lib.hid (read_any g2 s kd 60 wr HII.out (by omega) ⟨by decide, by decide⟩ hk4)
                  have HC2 := Lib.hid (hCan.out.step HFW8.out hk4)
                  clear hkd ex hcs hI4 hk4
                  go_wp2_with fail
                  refine HEn.out.mono ?_
                  rintro e wr' ⟨rfl, rfl⟩
                  go_wp2_with fail
                  refine HA4.out.mono ?_
                  rintro e wr' ⟨rfl, rfl⟩
                  go_wp2_with fail
                  refine HR1.out.mono ?_
                  rintro e v1 ⟨va, rfl, hva, hI1, hbv⟩
                  obtain ⟨c0, c1', c2', c3, c4, rfl⟩ := vat_agg hva
                  have hrow1 := row_other hrow HII.out.struct.choose_spec (by decide) hbv
                  have hsv := hbv.size
                  go_wp2_with (at_builtin; refine wpList_append_own _ rfl _ _ 25 rfl u7.heap.size 28 i1 _ 5 72 Try.underlying25 hi1 hy0 hy1 hy2 rfl (by decide) _ _ _ rfl (row_below hrow1 ((Below.refl _ _).alloc (Nat.le_refl _) _)) ⟨_, 0, none⟩ 1 1 [_, _, _, _, _] rfl rfl (cells5_new _ _ _ _ _ _ _ _ (by simp)) (vat_one hva) (by simp only [maxLen]; omega) (by omega) (by simp; omega) ?_; intro v' w4 hown' hgrow _; obtain ⟨g', cap', rfl⟩ := ownsRow_succ hown')
                  obtain ⟨q1, q2, q3, q4⟩ := got_step HII.out hI1 hbv hrow HVr.out hva hBr hg2 (by omega) hgrow
                  go_roundw
                  case rel => exact ⟨k + 1, _, _, _, _, _, by omega, by go_num, rfl, vs_len hyl.out _, hown', q1, q2, HC2.out, q3, by omega⟩
                  case measure => simp [intOf]; omega
                · clear hI4
                  go_wp2_with fail
                  refine HEn.out.mono ?_
                  rintro e wr' ⟨rfl, rfl⟩
                  go_wp2_with fail
                  refine (lives_any wr).mono ?_
                  rintro e v3 ⟨rfl, hbv3⟩
                  go_wp2_with fail
                  go_ret
                  exact ⟨rfl, B10.trans (hbv3.mono B10.size)⟩
              · clear hI4
                go_wp2_with fail
                refine HEn.out.mono ?_
                rintro e wr' ⟨rfl, rfl⟩
                go_wp2_with fail
                refine (lives_any wr).mono ?_
                rintro e v3 ⟨rfl, hbv3⟩
                go_wp2_with fail
                go_ret
                exact ⟨rfl, B10.trans (hbv3.mono B10.size)⟩
end Go.Proofs.Ytpnahndgfnkinaa.LawWireCanonical
