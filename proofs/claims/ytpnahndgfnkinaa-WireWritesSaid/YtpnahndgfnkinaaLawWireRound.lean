/-
  The walk of the law WireRound: reading what was written gives the same values. No condition beyond the arguments' readings.
-/
import Derived.Test.YtpnahndgfnkinaaLawWirePrefix
import Derived.Test.YtpnahndgfnkinaaWSame
import Derived.Deep.RegionHeld3
namespace Go.Proofs.Ytpnahndgfnkinaa.LawWireRound
open Go Go.RowKit LawWirePrefix

/-- Ten new cells, as a source of append. -/
theorem cells10_new (W : World) (c0 c1 c2 c3 c4 d0 d1 d2 d3 d4 : Value) (t : TypeId) (g : Nat) (hg : g = W.heap.size) : ∀ j u, [c0, c1, c2, c3, c4, d0, d1, d2, d3, d4][j]? = some u → (W.alloc (.cells #[c0, c1, c2, c3, c4, d0, d1, d2, d3, d4] t)).cell? ((⟨g, 0, none⟩ : Addr).add j) = some u := by
  intro j u hu
  subst hg
  rw [Addr.add_lit, Nat.zero_add, cell_of_row _ _ j _ _ _ (World.alloc_heap_new W _), ← hu, List.getElem?_toArray.symm]
theorem encVs_drop {xs : List V} {k : Nat} {x : V} (h : xs[k]? = some x) : encVs (xs.drop k) = encV x ++ encVs (xs.drop (k + 1)) := by
  obtain ⟨hl, e⟩ := List.getElem?_eq_some_iff.1 h
  subst e
  rw [List.drop_eq_getElem_cons hl]
  unfold encVs
  rw [List.flatMap_cons]
theorem cells_keep {w w' : World} {b o : Nat} {c0 c1 c2 c3 c4 : Value} (h : w'.heap[b]? = w.heap[b]?)
    (q : w.cell? ⟨b, o, none⟩ = some c0 ∧ w.cell? ⟨b, o + 1, none⟩ = some c1 ∧ w.cell? ⟨b, o + 2, none⟩ = some c2 ∧ w.cell? ⟨b, o + 3, none⟩ = some c3 ∧ w.cell? ⟨b, o + 4, none⟩ = some c4) :
    w'.cell? ⟨b, o, none⟩ = some c0 ∧ w'.cell? ⟨b, o + 1, none⟩ = some c1 ∧ w'.cell? ⟨b, o + 2, none⟩ = some c2 ∧ w'.cell? ⟨b, o + 3, none⟩ = some c3 ∧ w'.cell? ⟨b, o + 4, none⟩ = some c4 :=
  ⟨(World.cell?_of_block (w := w) (a := ⟨b, _, none⟩) h).trans q.1, (World.cell?_of_block (w := w) (a := ⟨b, _, none⟩) h).trans q.2.1, (World.cell?_of_block (w := w) (a := ⟨b, _, none⟩) h).trans q.2.2.1, (World.cell?_of_block (w := w) (a := ⟨b, _, none⟩) h).trans q.2.2.2.1, (World.cell?_of_block (w := w) (a := ⟨b, _, none⟩) h).trans q.2.2.2.2⟩

theorem two_step {base : Nat} {w u1 u2 : World} {xs : List V} {cs : List Value} {A' : Option Addr} {c' k : Nat} {x y : V} {c0 c1 c2 c3 c4 d0 d1 d2 d3 d4 : Value} (hB : Below base w u1) (hbase : base ≤ u1.heap.size) (hrow : u1.ownsRow base 28 5 (.slice A' k c') k cs) (hV : VRows u1.heap.size u1 xs cs)
    (hx : ∀ W, VAt u1.heap.size W x (.agg #[c0, c1, c2, c3, c4])) (hy : ∀ W, VAt u1.heap.size W y (.agg #[d0, d1, d2, d3, d4])) (hg : (u1.alloc (.cells #[c0, c1, c2, c3, c4, d0, d1, d2, d3, d4] 28)).grownBy u2 (Value.slice A' k c').ownBlock) :
    VRows u2.heap.size u2 ((xs ++ [x]) ++ [y]) (cs ++ [c0, c1, c2, c3, c4, d0, d1, d2, d3, d4]) ∧ Below base w u2 := by
  have bT := Below.alloc (Below.refl u1.heap.size u1) (Nat.le_refl _) (.cells #[c0, c1, c2, c3, c4, d0, d1, d2, d3, d4] 28)
  have hrow2 := row_below hrow bT
  have hr : ∀ b, (Value.slice A' k c').ownBlock = some b → ∃ C, (u1.alloc (.cells #[c0, c1, c2, c3, c4, d0, d1, d2, d3, d4] 28)).heap[b]? = some (.cells C 28 (0, 0)) := fun b e => by
    rcases hrow2.2 with ⟨e2, _⟩ | ⟨g', cap, cur, e2, _, hh, _⟩
    · rw [e2] at e; cases e
    · rw [e2] at e
      have e3 : some g' = some b := e
      injection e3 with e3
      subst e3
      exact ⟨cur, hh⟩
  have sz := hg.size
  have sT := bT.size
  have e : cs ++ [c0, c1, c2, c3, c4, d0, d1, d2, d3, d4] = (cs ++ [c0, c1, c2, c3, c4]) ++ [d0, d1, d2, d3, d4] := by simp
  rw [e]
  refine ⟨VRows.snoc (VRows.snoc (hV.imp fun z v hz => ((hz.below bT).grown hg (fun b e => .inr (hr b e))).more (by omega)) ((hx u2).more (by omega))) ((hy u2).more (by omega)), ?_⟩
  exact (hB.trans (bT.mono hbase)).grown hg (by omega) fun b e => (hrow2.lt b e).1
theorem own_sliceN {w : World} {base size : Nat} {e : TypeId} {v : Value} {n : Nat} {xs : List Value} (h : w.ownsRow base e size v n xs) : ∃ A c, v = .slice A n c ∧ n ≤ c ∧ c ≤ maxLen := by
  rcases h.2 with ⟨rfl, rfl⟩ | ⟨g, cap, cur, rfl, _, _, h1, h2, _⟩
  · exact ⟨none, 0, rfl, Nat.le_refl _, by simp [maxLen]⟩
  · exact ⟨_, cap, rfl, h1, h2⟩

theorem same_ready {B g : Nat} {wr v1 : World} {x : V} {va vb : Value} (hva : VAt v1.heap.size v1 x va) (h : VAt B wr x vb) (hb : But g wr.drew v1) (hB : B ≤ g) (hs : B ≤ wr.heap.size) (h1 : x.b.length ≤ 9) (h2 : x.l.length ≤ 4) :
    Calls Try.prog 21 #[va, vb] v1 (Tells true v1) := by
  have hz : wr.heap.size ≤ v1.heap.size := hb.size
  exact same_any x va vb v1 hva ((h.below (below_but ((Below.refl B wr).drew) hb hB hs)).more (by omega)) (by omega) (by omega)
theorem cells_two {v1 v2 : World} {b o : Nat} {c0 c1 c2 c3 c4 : Value} (hb : Below v1.heap.size v1 v2) (hl : b < v1.heap.size)
    (q : v1.cell? ⟨b, o, none⟩ = some c0 ∧ v1.cell? ⟨b, o + 1, none⟩ = some c1 ∧ v1.cell? ⟨b, o + 2, none⟩ = some c2 ∧ v1.cell? ⟨b, o + 3, none⟩ = some c3 ∧ v1.cell? ⟨b, o + 4, none⟩ = some c4) :
    v2.cell? ⟨b, o, none⟩ = some c0 ∧ v2.cell? ⟨b, o + 1, none⟩ = some c1 ∧ v2.cell? ⟨b, o + 2, none⟩ = some c2 ∧ v2.cell? ⟨b, o + 3, none⟩ = some c3 ∧ v2.cell? ⟨b, o + 4, none⟩ = some c4 := cells_keep (hb.block b hl) q

set_option maxRecDepth 100000 in
set_option maxHeartbeats 4000000 in
theorem walk (a0 : Option Addr) (len0 cap0 : Nat) (z0 : List Int) (a1 : Int) (a2 : Int) (w : World) (w0 : Row .i64 w a0 len0 cap0 z0) (w1 : (Lit.int .u64 a1).wf = true) (w2 : (Lit.int .i64 a2).wf = true) :
    Calls Try.prog 5 #[.slice a0 len0 cap0, .int .u64 a1, .int .i64 a2] w fun e w' => e = .returned (.bool true) ∧ Below w.heap.size w w' := by
  have hb1 := bounds_u64 w1
  have hb2 := bounds_i64 w2
  obtain ⟨hI0, hlc0, hcm0, hwf0⟩ := w0.ints
  unfold maxLen at hcm0
  have HV := Lib.hid (vals_any a0 len0 cap0 _ w hI0 (i64_of hwf0) (by omega))
  obtain ⟨i1, hi1, hy0, hy1, hy2⟩ := info_parts info_val
  have hg0 := Lib.hid (good0 (u := a1) ⟨by omega, by omega⟩)
  have hg1 := Lib.hid (good1 (n := a2) ⟨by omega, by omega⟩)
  clear w0 w1 w2 hI0 hlc0 hcm0 hwf0 hb1 hb2
  go_enter Try.func5, Try.ntmps5
  go_wp2_with fail
  refine HV.out.mono ?_
  rintro e u1 ⟨A1, n1, c1, xs, csx, rfl, hn8, hxl, hxg, hOx, hRx, hbw1⟩
  have hs1 := hbw1.size
  have HXL := Lib.hid hxl
  have HXG := Lib.hid hxg
  have HRx := Lib.hid hRx
  clear hxl hxg hRx
  go_wp2_with (at_builtin; refine wpList_append_own _ rfl _ _ 25 rfl w.heap.size 28 i1 _ 5 72 Try.underlying25 hi1 hy0 hy1 hy2 rfl (by decide) _ _ _ rfl (row_below hOx ((Below.refl _ _).alloc (Nat.le_refl _) _)) ⟨_, 0, none⟩ 2 2 [_, _, _, _, _, _, _, _, _, _] rfl rfl (cells10_new _ _ _ _ _ _ _ _ _ _ _ _ _ rfl) (by simp [Value.oneCell']) (by simp only [maxLen]; omega) (by omega) (by simp; omega) ?_; intro v' u2 hown' hgrow _; obtain ⟨A2, c2, rfl, _, _⟩ := own_sliceN hown')
  obtain ⟨hRy, B2⟩ := two_step (x := { kind := 0, u := a1, n := 0, b := [], l := [] }) (y := { kind := 1, u := 0, n := a2, b := [], l := [] }) hbw1 hs1 hOx HRx.out (fun W => ⟨_, _, _, _, _, _, rfl, Lst.none_ _ _ _ _, Lst.none_ _ _ _ _⟩) (fun W => ⟨_, _, _, _, _, _, rfl, Lst.none_ _ _ _ _, Lst.none_ _ _ _ _⟩) hgrow
  have hyg := (vs_good (vs_good HXG.out hg0.out).out hg1.out).out
  have hyl := (vs_len (vs_len HXL.out { kind := 0, u := a1, n := 0, b := [], l := [] }).out { kind := 1, u := 0, n := a2, b := [], l := [] }).out
  obtain ⟨ys, hys⟩ : ∃ ys, (xs ++ [{ kind := 0, u := a1, n := 0, b := [], l := [] }]) ++ [{ kind := 1, u := 0, n := a2, b := [], l := [] }] = ys := ⟨_, rfl⟩
  rw [hys] at hRy hyg hyl
  obtain ⟨N, hN⟩ : ∃ N, n1 + 2 = N := ⟨_, rfl⟩
  have hyl2 : ys.length = N := by omega
  have hN10 : N ≤ 10 := by omega
  rw [hN] at hown' ⊢
  have hV2 : Vls u2.heap.size u2 A2 N c2 ys := Vls.of_own hown' hRy
  have hs2 := B2.size
  have HE := Lib.hid (encode_any A2 N c2 ys u2 hV2 (fun x hx => (hyg x hx).1) (by omega))
  have hlen := encVs_good ys hyg
  have hl500 : (encVs ys).length ≤ 500 := by omega
  have H8 := Lib.hid (encVs_b8 ys hyg)
  have HYL := Lib.hid hyl2
  have HYG := Lib.hid hyg
  clear hgrow hown' hOx hRy hyl hyl2 hys hN hyg hlen HRx
  go_wp2_with fail
  refine HE.out.mono ?_
  rintro e u3 ⟨A3, n3, c3, rfl, hn3, hL3, -, hbw3⟩
  have hn500 : n3 ≤ 500 := by omega
  have hs3 := hbw3.size
  have B3 := B2.trans (hbw3.mono hs2)
  have HNW := Lib.hid (newin_any A3 n3 c3 _ u3 _ hL3 (by omega) H8.out)
  have hV3 := hV2.below hbw3
  clear hn3 hl500 hV2 hL3
  go_wp2_with fail
  refine HNW.out.mono ?_
  rintro e u4 ⟨g, rfl, hg, hin, hbw4⟩
  have hs4 := hbw4.size
  have B4 := B3.trans (hbw4.mono B3.size)
  have hV4 := hV3.below (hbw4.mono hs3)
  clear hV3
  go_wp2_with fail
  go_loopw [9] (fun i wr => ∃ k : Nat, k ≤ N ∧ i = .int .i64 k ∧ InAt u4.heap.size wr g (.ok (encVs (ys.drop k))) ∧ Below u3.heap.size u4 wr ∧ u4.heap.size ≤ wr.heap.size) (fun i _ => N - (intOf i).toNat)
  case atStart => exact ⟨0, Nat.zero_le _, rfl, hin, Below.refl _ _, Nat.le_refl _⟩
  case round =>
    obtain ⟨k, hk, rfl, hI, hBr, hsr⟩ := hrel
    clear hin
    have hVr := hV4.below (hBr.mono hs3)
    by_cases hlt : k < N
    · obtain ⟨b, off, x, c0, c1', c2', c3', c4, rfl, hbl, hxk, hvx, q0, q1, q2, q3, q4⟩ := hVr.at_ hlt
      have hgd := HYG.out x (List.mem_of_getElem? hxk)
      obtain ⟨hwf, hfl, hb9, hl4⟩ := hgd
      have hkd := hwf.2.2.2.2.2.2
      have eRd : rdV x.kind 10 (.ok (encVs (ys.drop k))) = (x, .ok (encVs (ys.drop (k + 1)))) := by
        rw [encVs_drop hxk]
        exact rdV_enc 10 x _ hwf hfl (by omega) (by omega)
      have hck : c0 = .int .i64 x.kind := by
        obtain ⟨_, _, _, _, _, _, ea, _⟩ := hvx
        injection ea with ea
        simp only [Array.mk.injEq, List.cons.injEq] at ea
        exact ea.1
      subst hck
      have hdr : Below wr.heap.size wr wr.drew := (Below.refl _ _).drew
      have hr0 := read_any g _ x.kind 10 wr.drew (hI.below hdr) (by show u4.heap.size ≤ wr.heap.size; omega) ⟨by decide, by decide⟩ hkd
      rw [eRd] at hr0
      have HR := Lib.hid hr0
      have HQ := Lib.hid (And.intro q0 (And.intro q1 (And.intro q2 (And.intro q3 q4))))
      have HVX := Lib.hid hvx
      have hbg : b < g := by omega
      have hbw : b < wr.heap.size := by omega
      clear eRd hr0 hVr hxk hvx hwf hfl hI hdr
      go_wp2_with fail
      go_region_held3 (fun W => W.cell? ⟨b, off + k * 5, none⟩ = some (Value.int .i64 x.kind) ∧ W.cell? ⟨b, off + k * 5 + 1, none⟩ = some c1' ∧ W.cell? ⟨b, off + k * 5 + 2, none⟩ = some c2' ∧ W.cell? ⟨b, off + k * 5 + 3, none⟩ = some c3' ∧ W.cell? ⟨b, off + k * 5 + 4, none⟩ = some c4)
        (first | exact HQ.out | exact F1.out | exact F2.out)
        (first
          | (go_at_call 22; refine HR.out.mono ?_; rintro e v1 ⟨va, rfl, hva, hI1, hbv⟩; have F1 := Lib.hid (cells_keep (w := wr) (o := off + k * 5) (hbv.block b (show b < wr.heap.size from hbw) (by simp; omega)) HQ.out); have HS := Lib.hid (same_ready hva HVX.out hbv (by omega) (by omega) hb9 hl4); have hz1 : wr.heap.size ≤ v1.heap.size := hbv.size)
          | (go_at_call 21; refine HS.out.mono ?_; rintro e v2 ⟨rfl, hbv2⟩; have F2 := Lib.hid (cells_two hbv2 (by omega) F1.out); have hI2 := hI1.below hbv2)
          | (go_at_call 24; refine (in_err g _ _ hI2).mono ?_; rintro e v3 ⟨rfl, rfl⟩; simp only [St.err]))
      have b1 : Below u3.heap.size u4 v1 := below_but hBr.drew hbv hg (show u3.heap.size ≤ wr.heap.size by omega)
      have b2 := b1.trans (hbv2.mono (by omega))
      have hz2 := hbv2.size
      go_wp2_with fail
      go_roundw
      case rel => exact ⟨k + 1, by omega, by go_num, hI2, b2, by omega⟩
      case measure => simp [intOf]; omega
    · obtain rfl : N = k := by omega
      have e0 : ys.drop N = [] := List.drop_of_length_le (by rw [HYL.out]; omega)
      have hI' : InAt u4.heap.size wr g (.ok []) := by rw [e0] at hI; exact hI
      have B5 := B4.trans (hBr.mono (by omega))
      clear e0 hI hVr hlt
      go_wp2_with fail
      refine (in_end g _ wr hI').mono ?_
      rintro e v1 ⟨rfl, rfl⟩
      simp only [St.endE]
      go_wp2_with fail
      refine (lives_any wr).mono ?_
      rintro e v1 ⟨rfl, hbv⟩
      go_wp2_with fail
      go_ret
      exact ⟨rfl, B5.trans (hbv.mono B5.size)⟩
end Go.Proofs.Ytpnahndgfnkinaa.LawWireRound
