/-
  The reference's Renamed. Condition: the value is a tree whose names stay short.
-/
import Derived.Test.YtofeidacffabdaaTyKs
import Derived.Test.YtofeidacffabdaaTyLv
import Derived.Test.YtofeidacffabdaaTyBk
import Derived.Test.YtofeidacffabdaaTyV
namespace Go.Proofs.Ytofeidacffabdaa
open Go Go.RowKit Go.Proofs Go.Shelf
attribute [local go_sem] Oper.semAt_some

/-- A name with a suffix. -/
def sfx (x : ByteArray) (s : ByteArray) : ByteArray := s ++ x
/-- What Renamed does at the tree t. -/
def RnAt (x : ByteArray) (t : TY.Nd) : Prop := (∀ s ∈ TY.occ t, s.size + x.size ≤ 1000) → ∀ (W : World) (hi : Nat) (v : Value), NdV W hi t v → hi ≤ W.heap.size →
  Calls Try.prog 23 #[v, .string x] W fun e w' => ∃ v', e = .returned v' ∧ Ny 0 W.heap.size none w' (TY.ren (sfx x) t) v' ∧ Below W.heap.size W w'
theorem map_snoc {l : List TY.Nd} {j : Nat} {t : TY.Nd} (f : TY.Nd → TY.Nd) (h : l[j]? = some t) : (l.take (j + 1)).map f = (l.take j).map f ++ [f t] := by
  rw [List.take_add_one, h, List.map_append]
  rfl
theorem fin1 {V : World} {lo g B : Nat} {x0 x1 x2 x3 : Value} (hb : V.heap[g]? = some (.cells #[x0, x1, x2, x3] 25 (0, 0))) (hB : g < B) (hlo : lo ≤ g) {t : TY.Nd} (k n : Int) (s : ByteArray) (K : Value) (ht : Ny lo B none V t (ndv k n s K)) {U : World} (hU : (((V.setCell ⟨g, 0, none⟩ (.int .i64 k)).setCell ⟨g, 1, none⟩ (.int .i64 n)).setCell ⟨g, 2, none⟩ (.string s)).setCell ⟨g, 3, none⟩ K = U) :
    U.heap[g]? = some (.cells #[.int .i64 k, .int .i64 n, .string s, K] 25 (0, 0)) ∧ Ny lo B none U t (ndv k n s K) ∧ Chg (· = g) V U := by
  subst hU
  have keep : ∀ j, j ≠ g → ((((V.setCell ⟨g, 0, none⟩ (.int .i64 k)).setCell ⟨g, 1, none⟩ (.int .i64 n)).setCell ⟨g, 2, none⟩ (.string s)).setCell ⟨g, 3, none⟩ K).heap[j]? = V.heap[j]? := fun j hg => (Below.heap_setCell _ _ _ _ hg).trans ((Below.heap_setCell _ _ _ _ hg).trans ((Below.heap_setCell _ _ _ _ hg).trans (Below.heap_setCell _ _ _ _ hg)))
  have hc : Chg (· = g) V ((((V.setCell ⟨g, 0, none⟩ (.int .i64 k)).setCell ⟨g, 1, none⟩ (.int .i64 n)).setCell ⟨g, 2, none⟩ (.string s)).setCell ⟨g, 3, none⟩ K) :=
    ((((Chg.refl (· = g) V).setCell (p := ⟨g, 0, none⟩) (fun _ => rfl) _).setCell (p := ⟨g, 1, none⟩) (fun _ => rfl) _).setCell (p := ⟨g, 2, none⟩) (fun _ => rfl) _).setCell (p := ⟨g, 3, none⟩) (fun _ => rfl) _
  refine ⟨?_, ht.keep (Nat.le_refl _) (fun c h1 _ => keep c (by omega)) hc.size, hc⟩
  simp only [World.setCell, Array.getElem?_modify]
  simp [hb]
set_option maxRecDepth 100000 in
set_option maxHeartbeats 8000000 in
theorem renamed_any (x : ByteArray) (hx1000 : x.size ≤ 1000) : ∀ t, RnAt x t := by
  intro t
  induction t using TY.Nd.ind with
  | h k n s l ih =>
  intro hocc W hi v hv hh
  have hvo := hv.open_
  obtain ⟨A0, c0, vs, hvA, hvl, hlc, hcm, hlm, hss, hkd, hkids⟩ := hvo
  subst hvA
  obtain ⟨m, hm⟩ : ∃ m, l.length = m := ⟨_, rfl⟩
  rw [hm] at hlc hlm hvl ⊢
  obtain ⟨s', hs'⟩ : ∃ s', (if k = 1 ∨ k = 14 then sfx x s else s) = s' := ⟨_, rfl⟩
  have hs1000 : s'.size ≤ 1000 := by
    rw [← hs']
    split
    · have := hocc s (by rw [TY.occ_eq, if_pos (by assumption)]; simp)
      unfold sfx
      rw [ByteArray.size_append]
      exact this
    · exact hss
  have hokids : ∀ t ∈ l, ∀ s ∈ TY.occ t, s.size + x.size ≤ 1000 := fun t ht s hs => hocc s (by
    rw [TY.occ_eq, List.mem_append]
    exact .inr (List.mem_flatten.2 ⟨_, List.mem_map.2 ⟨t, ht, rfl⟩, hs⟩))
  rw [TY.ren_eq, hs']
  obtain ⟨W3, hW3⟩ : ∃ U, ((W.alloc (.cells #[.int .i64 k, .int .i64 n, .string s, .slice A0 m c0] 25)).alloc (.cells #[.int .i64 0, .int .i64 0, .string ⟨#[]⟩, .slice none 0 0] 25)).alloc (.cells #[.int .i64 k, .int .i64 n, .string s', .slice none 0 0] 25) = U := ⟨_, rfl⟩
  have hl : lay W [.cells #[.int .i64 k, .int .i64 n, .string s, .slice A0 m c0] 25, .cells #[.int .i64 0, .int .i64 0, .string ⟨#[]⟩, .slice none 0 0] 25, .cells #[.int .i64 k, .int .i64 n, .string s', .slice none 0 0] 25] = W3 := hW3
  have z3 : W3.heap.size = W.heap.size + 3 := by rw [← hl, lay_size]; rfl
  have b3 : Below W.heap.size W W3 := hl ▸ lay_below _ _
  have e1 : W3.heap[W.heap.size]? = some (.cells #[.int .i64 k, .int .i64 n, .string s, .slice A0 m c0] 25 (0, 0)) := hl ▸ lay_at _ W 0 rfl
  have e2 : W3.heap[W.heap.size + 1]? = some (.cells #[.int .i64 0, .int .i64 0, .string ⟨#[]⟩, .slice none 0 0] 25 (0, 0)) := hl ▸ lay_at _ W 1 rfl
  have e3 : W3.heap[W.heap.size + 1 + 1]? = some (.cells #[.int .i64 k, .int .i64 n, .string s', .slice none 0 0] 25 (0, 0)) := hl ▸ lay_at _ W 2 rfl
  have d3 : W3.cell? ⟨W.heap.size, 3, none⟩ = some (.slice A0 m c0) := cell_of_row W3 _ 3 _ _ (0, 0) e1
  have HB3 := Lib.hid b3
  have HE2 := Lib.hid e2
  have HE3 := Lib.hid e3
  have HM := Lib.hid hm
  have HVL := Lib.hid hvl
  have HKD := Lib.hid hkd
  have HKI := Lib.hid hkids
  have HIH := Lib.hid ih
  have HOK := Lib.hid hokids
  have hltb : W.heap.size < W3.heap.size := by omega
  have hlt2 : W.heap.size + 1 + 1 < W3.heap.size := by omega
  have HW3 := Lib.hid hW3
  have HS := Lib.hid hs'
  obtain ⟨i0, hi0, hz0, hz1, hz2⟩ := info_parts info_node
  have HZ := Lib.hid (And.intro hi0 (And.intro hz0 (And.intro hz1 hz2)))
  clear hv hm hvl hkd hkids ih hocc hokids hW3 hl b3 e1 e2 e3 hs' hi0 hz0 hz1 hz2
  have hk : k = 1 ∨ k = 14 ∨ (¬ (k = 1 ∨ k = 14)) := by omega
  rcases hk with rfl | rfl | hk
  · have hse : s ++ x = s' := HS.out
    go_enter Try.func23, Try.ntmps23
    go_wp2_with fail
    rw [HW3.out]
    clear hse
    go_loopw [6] (fun i V => ∃ (j c : Nat) (A : Option Addr) (cs : List Value), j ≤ m ∧ i = .int .i64 (j : Int) ∧ Hid (V.heap[W.heap.size + 1 + 1]? = some (.cells #[.int .i64 1, .int .i64 n, .string s', .slice A j c] 25 (0, 0))) ∧ Hid (TS 0 (W.heap.size + 3) V A j c ((l.take j).map (TY.ren (sfx x))) cs) ∧ Hid (Below (W.heap.size + 1 + 1) W3 V)) (fun i _ => m - (intOf i).toNat)
    case atStart => exact ⟨0, 0, none, [], by omega, rfl, HE3.out, TS.nil _ _ _, Below.refl _ _⟩
    case round =>
      obtain ⟨j, c, A, cs, hj, rfl, hB, hR, hBl⟩ := hrel
      have hsz := hBl.out.size
      have d3w := (hBl.out.cell (p := ⟨W.heap.size, 3, none⟩) (show W.heap.size < W.heap.size + 1 + 1 by omega)).trans d3
      have HBW : Hid (Below W.heap.size W wr) := HB3.out.trans (hBl.out.mono (by omega))
      by_cases hjm : j < m
      · obtain ⟨t, ht⟩ : ∃ t, l[j]? = some t := ⟨l[j]'(by rw [HM.out]; exact hjm), List.getElem?_eq_getElem (by rw [HM.out]; exact hjm)⟩
        obtain ⟨vj, hvj⟩ : ∃ x, vs[j]? = some x := ⟨vs[j]'(by rw [HVL.out]; exact hjm), List.getElem?_eq_getElem (by rw [HVL.out]; exact hjm)⟩
        have hnv := HKI.out j t vj ht hvj
        obtain ⟨b, off, kj, nj, sj, Aj, lj, cj, rfl, hbh, rfl, c0', c1, c2', c3⟩ := HKD.out.tree hvj hnv
        have hbW : b < W.heap.size := by omega
        have g0 := (HBW.out.cell (p := ⟨b, off + j * 4, none⟩) hbW).trans c0'
        have g1 := (HBW.out.cell (p := ⟨b, off + j * 4 + 1, none⟩) hbW).trans c1
        have g2 := (HBW.out.cell (p := ⟨b, off + j * 4 + 2, none⟩) hbW).trans c2'
        have g3 := (HBW.out.cell (p := ⟨b, off + j * 4 + 3, none⟩) hbW).trans c3
        have hmem := List.mem_of_getElem? ht
        have RC := Lib.hid (HIH.out t hmem (HOK.out t hmem) wr.drew hi _ (hnv.under (HBW.out.drew.mono hh) (Nat.le_refl _)) (Nat.le_trans hh HBW.out.size))
        have HSN := Lib.hid (map_snoc (TY.ren (sfx x)) ht)
        have r3 : wr.cell? ⟨W.heap.size + 1 + 1, 3, none⟩ = some (.slice A j c) := cell_of_row wr _ 3 _ _ (0, 0) hB.out
        have hjb : j ≤ 1000000 := by omega
        obtain ⟨T5, hT5⟩ : ∃ T, TY.ren (sfx x) t = T := ⟨_, rfl⟩
        rw [hT5] at RC HSN
        clear hnv c0' c1 c2' c3 ht hvj hmem hT5
        go_wp2_with fail
        go_region_law
          (first
            | (refine step_append_lies _ rfl (.tmp 35) (.tmp 43) 23 rfl (W.heap.size + 3) 25 i0 _ 4 56 Try.underlying23 HZ.out.1 HZ.out.2.1 HZ.out.2.2.1 HZ.out.2.2.2 rfl (by decide) (.slice A j c) j _ (by simp [Act.eval]) HO5.out ⟨w5.heap.size, 0, none⟩ 1 1 [.int .i64 k5, .int .i64 n5, .string s5, .slice A5 m5 c5] (by simp [Act.eval]) rfl (news_alloc _ _ _ _ rfl) (by simp [Value.oneCell']) (by decide) (by simp only [maxLen]; omega) (by omega) (by simp; omega) _ rfl ?_; intro g4 c4 w6 hown4 hgrow4 hat4 _; have hb6 := grown_kept hgrow4 HB5.out HO5.out (by omega); have d6 : w6.cell? ⟨W.heap.size + 1 + 1, 3, none⟩ = some (.slice A j c) := cell_of_row w6 _ 3 _ _ (0, 0) hb6; have f6 : w6.frozen? ⟨W.heap.size + 1 + 1, 3, none⟩ = false := by simp [World.frozen?, hb6])
            | (go_simp; go_at_call 23; refine RC.out.mono ?_; clear RC; rintro e5 w5 ⟨v5, rfl, V5, B5⟩; obtain ⟨k5, n5, s5, A5, m5, c5, rfl⟩ := V5.shape; replace V5 := Lib.hid V5; replace B5 := Lib.hid (show Below wr.heap.size wr w5 from ((Below.refl wr.heap.size wr).drew.trans B5)); have hs5 := B5.out.size; have HB5 := Lib.hid ((B5.out.block _ (by omega)).trans hB.out); have d5 : (w5.alloc (.cells #[.int .i64 k5, .int .i64 n5, .string s5, .slice A5 m5 c5] 25)).cell? ⟨W.heap.size + 1 + 1, 3, none⟩ = some (.slice A j c) := (((Below.refl w5.heap.size w5).alloc (Nat.le_refl _) _).cell (p := ⟨W.heap.size + 1 + 1, 3, none⟩) (heap_lt HB5.out)).trans (cell_of_row w5 _ 3 _ _ (0, 0) HB5.out); have h5 : w5.cell? ⟨W.heap.size + 1 + 1, 3, none⟩ = some (.slice A j c) := cell_of_row w5 _ 3 _ _ (0, 0) HB5.out; have HO5 := Lib.hid (TS.own hR.out B5.out (.cells #[.int .i64 k5, .int .i64 n5, .string s5, .slice A5 m5 c5] 25))))
        all_goals
          obtain ⟨U, hU⟩ : ∃ U, w6.setCell ⟨W.heap.size + 1 + 1, 3, none⟩ (.slice (some ⟨g4, 0, none⟩) (j + 1) c4) = U := ⟨_, rfl⟩
          have hUk : ∀ q, q ≠ W.heap.size + 1 + 1 → U.heap[q]? = w6.heap[q]? := fun q hq => by rw [← hU]; exact Below.heap_setCell _ _ _ _ hq
          have hUs : U.heap.size = w6.heap.size := by rw [← hU]; simp [World.setCell]
          have hUb : U.heap[W.heap.size + 1 + 1]? = some (.cells #[.int .i64 1, .int .i64 n, .string s', .slice (some ⟨g4, 0, none⟩) (j + 1) c4] 25 (0, 0)) := by
            rw [← hU]
            simp only [World.setCell, Array.getElem?_modify]
            simp [hb6]
          have hTS := TS.step (U := U) hR.out B5.out (by omega) (by omega) V5.out hgrow4 (hat4.imp id fun h => by rw [h, World.size_alloc]; omega) hown4 (fun q hq => hUk q (by omega)) hUs
          have hBU : Below (W.heap.size + 1 + 1) W3 U := by
            rw [← hU]
            exact ((hBl.out.trans (B5.out.mono (by omega))).trans ((grown_chg hgrow4 HO5.out).below (fun q _ h => by omega) (by omega))).setCell (p := ⟨W.heap.size + 1 + 1, 3, none⟩) (Nat.le_refl _) _
          have G1 := Lib.hid hTS
          have G2 := Lib.hid hBU
          have G3 := Lib.hid hUb
          have HU := Lib.hid hU
          clear hTS hBU hUb hUk hU
          go_wp2_with fail
          rw [HU.out]
          go_roundw
          case rel => exact ⟨j + 1, c4, some ⟨g4, 0, none⟩, _, by omega, by go_num, G3.out, by rw [HSN.out]; exact G1.out, G2.out⟩
          case measure => simp [intOf]; omega
      · obtain rfl : j = m := by omega
        have HT := Lib.hid (show (l.take j).map (TY.ren (sfx x)) = l.map (TY.ren (sfx x)) by rw [List.take_of_length_le (by rw [HM.out]; exact Nat.le_refl _)])
        have hnw := TS.node hR.out (by omega) 1 n s' hs1000
        rw [HT.out] at hnw
        have rb := (hBl.out.block (W.heap.size + 1) (by omega)).trans HE2.out
        have u0 : wr.cell? ⟨W.heap.size + 1 + 1, 0, none⟩ = some (.int .i64 1) := cell_of_row wr _ 0 _ _ (0, 0) hB.out
        have u1 : wr.cell? ⟨W.heap.size + 1 + 1, 1, none⟩ = some (.int .i64 n) := cell_of_row wr _ 1 _ _ (0, 0) hB.out
        have u2 : wr.cell? ⟨W.heap.size + 1 + 1, 2, none⟩ = some (.string s') := cell_of_row wr _ 2 _ _ (0, 0) hB.out
        have u3 : wr.cell? ⟨W.heap.size + 1 + 1, 3, none⟩ = some (.slice A j c) := cell_of_row wr _ 3 _ _ (0, 0) hB.out
        have q0 := cell_of_row wr _ 0 _ _ (0, 0) rb
        have q1 := cell_of_row wr _ 1 _ _ (0, 0) rb
        have q2 := cell_of_row wr _ 2 _ _ (0, 0) rb
        have q3 := cell_of_row wr _ 3 _ _ (0, 0) rb
        have p0 : wr.frozen? ⟨W.heap.size + 1, 0, none⟩ = false := by simp [World.frozen?, rb]
        have p1 : wr.frozen? ⟨W.heap.size + 1, 1, none⟩ = false := by simp [World.frozen?, rb]
        have p2 : wr.frozen? ⟨W.heap.size + 1, 2, none⟩ = false := by simp [World.frozen?, rb]
        have p3 : wr.frozen? ⟨W.heap.size + 1, 3, none⟩ = false := by simp [World.frozen?, rb]
        have HRB := Lib.hid rb
        clear rb
        go_wp2_with fail
        obtain ⟨U, hU⟩ : ∃ U, (((wr.setCell ⟨W.heap.size + 1, 0, none⟩ (.int .i64 1)).setCell ⟨W.heap.size + 1, 1, none⟩ (.int .i64 n)).setCell ⟨W.heap.size + 1, 2, none⟩ (.string s')).setCell ⟨W.heap.size + 1, 3, none⟩ (.slice A j c) = U := ⟨_, rfl⟩
        rw [hU]
        obtain ⟨f1, f2, f3⟩ := fin1 HRB.out (show W.heap.size + 1 < W.heap.size + 3 by omega) (Nat.zero_le _) 1 n s' (.slice A j c) hnw hU
        refine bodyPost_ret (ret_N rfl _ rfl f1) rfl ?_
        exact ⟨_, rfl, f2.lower (by omega), HBW.out.trans (f3.below (fun g _ e => by omega) HBW.out.size)⟩
  · have hse : s ++ x = s' := HS.out
    go_enter Try.func23, Try.ntmps23
    go_wp2_with fail
    rw [HW3.out]
    clear hse
    go_loopw [6] (fun i V => ∃ (j c : Nat) (A : Option Addr) (cs : List Value), j ≤ m ∧ i = .int .i64 (j : Int) ∧ Hid (V.heap[W.heap.size + 1 + 1]? = some (.cells #[.int .i64 14, .int .i64 n, .string s', .slice A j c] 25 (0, 0))) ∧ Hid (TS 0 (W.heap.size + 3) V A j c ((l.take j).map (TY.ren (sfx x))) cs) ∧ Hid (Below (W.heap.size + 1 + 1) W3 V)) (fun i _ => m - (intOf i).toNat)
    case atStart => exact ⟨0, 0, none, [], by omega, rfl, HE3.out, TS.nil _ _ _, Below.refl _ _⟩
    case round =>
      obtain ⟨j, c, A, cs, hj, rfl, hB, hR, hBl⟩ := hrel
      have hsz := hBl.out.size
      have d3w := (hBl.out.cell (p := ⟨W.heap.size, 3, none⟩) (show W.heap.size < W.heap.size + 1 + 1 by omega)).trans d3
      have HBW : Hid (Below W.heap.size W wr) := HB3.out.trans (hBl.out.mono (by omega))
      by_cases hjm : j < m
      · obtain ⟨t, ht⟩ : ∃ t, l[j]? = some t := ⟨l[j]'(by rw [HM.out]; exact hjm), List.getElem?_eq_getElem (by rw [HM.out]; exact hjm)⟩
        obtain ⟨vj, hvj⟩ : ∃ x, vs[j]? = some x := ⟨vs[j]'(by rw [HVL.out]; exact hjm), List.getElem?_eq_getElem (by rw [HVL.out]; exact hjm)⟩
        have hnv := HKI.out j t vj ht hvj
        obtain ⟨b, off, kj, nj, sj, Aj, lj, cj, rfl, hbh, rfl, c0', c1, c2', c3⟩ := HKD.out.tree hvj hnv
        have hbW : b < W.heap.size := by omega
        have g0 := (HBW.out.cell (p := ⟨b, off + j * 4, none⟩) hbW).trans c0'
        have g1 := (HBW.out.cell (p := ⟨b, off + j * 4 + 1, none⟩) hbW).trans c1
        have g2 := (HBW.out.cell (p := ⟨b, off + j * 4 + 2, none⟩) hbW).trans c2'
        have g3 := (HBW.out.cell (p := ⟨b, off + j * 4 + 3, none⟩) hbW).trans c3
        have hmem := List.mem_of_getElem? ht
        have RC := Lib.hid (HIH.out t hmem (HOK.out t hmem) wr.drew hi _ (hnv.under (HBW.out.drew.mono hh) (Nat.le_refl _)) (Nat.le_trans hh HBW.out.size))
        have HSN := Lib.hid (map_snoc (TY.ren (sfx x)) ht)
        have r3 : wr.cell? ⟨W.heap.size + 1 + 1, 3, none⟩ = some (.slice A j c) := cell_of_row wr _ 3 _ _ (0, 0) hB.out
        have hjb : j ≤ 1000000 := by omega
        obtain ⟨T5, hT5⟩ : ∃ T, TY.ren (sfx x) t = T := ⟨_, rfl⟩
        rw [hT5] at RC HSN
        clear hnv c0' c1 c2' c3 ht hvj hmem hT5
        go_wp2_with fail
        go_region_law
          (first
            | (refine step_append_lies _ rfl (.tmp 35) (.tmp 43) 23 rfl (W.heap.size + 3) 25 i0 _ 4 56 Try.underlying23 HZ.out.1 HZ.out.2.1 HZ.out.2.2.1 HZ.out.2.2.2 rfl (by decide) (.slice A j c) j _ (by simp [Act.eval]) HO5.out ⟨w5.heap.size, 0, none⟩ 1 1 [.int .i64 k5, .int .i64 n5, .string s5, .slice A5 m5 c5] (by simp [Act.eval]) rfl (news_alloc _ _ _ _ rfl) (by simp [Value.oneCell']) (by decide) (by simp only [maxLen]; omega) (by omega) (by simp; omega) _ rfl ?_; intro g4 c4 w6 hown4 hgrow4 hat4 _; have hb6 := grown_kept hgrow4 HB5.out HO5.out (by omega); have d6 : w6.cell? ⟨W.heap.size + 1 + 1, 3, none⟩ = some (.slice A j c) := cell_of_row w6 _ 3 _ _ (0, 0) hb6; have f6 : w6.frozen? ⟨W.heap.size + 1 + 1, 3, none⟩ = false := by simp [World.frozen?, hb6])
            | (go_simp; go_at_call 23; refine RC.out.mono ?_; clear RC; rintro e5 w5 ⟨v5, rfl, V5, B5⟩; obtain ⟨k5, n5, s5, A5, m5, c5, rfl⟩ := V5.shape; replace V5 := Lib.hid V5; replace B5 := Lib.hid (show Below wr.heap.size wr w5 from ((Below.refl wr.heap.size wr).drew.trans B5)); have hs5 := B5.out.size; have HB5 := Lib.hid ((B5.out.block _ (by omega)).trans hB.out); have d5 : (w5.alloc (.cells #[.int .i64 k5, .int .i64 n5, .string s5, .slice A5 m5 c5] 25)).cell? ⟨W.heap.size + 1 + 1, 3, none⟩ = some (.slice A j c) := (((Below.refl w5.heap.size w5).alloc (Nat.le_refl _) _).cell (p := ⟨W.heap.size + 1 + 1, 3, none⟩) (heap_lt HB5.out)).trans (cell_of_row w5 _ 3 _ _ (0, 0) HB5.out); have h5 : w5.cell? ⟨W.heap.size + 1 + 1, 3, none⟩ = some (.slice A j c) := cell_of_row w5 _ 3 _ _ (0, 0) HB5.out; have HO5 := Lib.hid (TS.own hR.out B5.out (.cells #[.int .i64 k5, .int .i64 n5, .string s5, .slice A5 m5 c5] 25))))
        all_goals
          obtain ⟨U, hU⟩ : ∃ U, w6.setCell ⟨W.heap.size + 1 + 1, 3, none⟩ (.slice (some ⟨g4, 0, none⟩) (j + 1) c4) = U := ⟨_, rfl⟩
          have hUk : ∀ q, q ≠ W.heap.size + 1 + 1 → U.heap[q]? = w6.heap[q]? := fun q hq => by rw [← hU]; exact Below.heap_setCell _ _ _ _ hq
          have hUs : U.heap.size = w6.heap.size := by rw [← hU]; simp [World.setCell]
          have hUb : U.heap[W.heap.size + 1 + 1]? = some (.cells #[.int .i64 14, .int .i64 n, .string s', .slice (some ⟨g4, 0, none⟩) (j + 1) c4] 25 (0, 0)) := by
            rw [← hU]
            simp only [World.setCell, Array.getElem?_modify]
            simp [hb6]
          have hTS := TS.step (U := U) hR.out B5.out (by omega) (by omega) V5.out hgrow4 (hat4.imp id fun h => by rw [h, World.size_alloc]; omega) hown4 (fun q hq => hUk q (by omega)) hUs
          have hBU : Below (W.heap.size + 1 + 1) W3 U := by
            rw [← hU]
            exact ((hBl.out.trans (B5.out.mono (by omega))).trans ((grown_chg hgrow4 HO5.out).below (fun q _ h => by omega) (by omega))).setCell (p := ⟨W.heap.size + 1 + 1, 3, none⟩) (Nat.le_refl _) _
          have G1 := Lib.hid hTS
          have G2 := Lib.hid hBU
          have G3 := Lib.hid hUb
          have HU := Lib.hid hU
          clear hTS hBU hUb hUk hU
          go_wp2_with fail
          rw [HU.out]
          go_roundw
          case rel => exact ⟨j + 1, c4, some ⟨g4, 0, none⟩, _, by omega, by go_num, G3.out, by rw [HSN.out]; exact G1.out, G2.out⟩
          case measure => simp [intOf]; omega
      · obtain rfl : j = m := by omega
        have HT := Lib.hid (show (l.take j).map (TY.ren (sfx x)) = l.map (TY.ren (sfx x)) by rw [List.take_of_length_le (by rw [HM.out]; exact Nat.le_refl _)])
        have hnw := TS.node hR.out (by omega) 14 n s' hs1000
        rw [HT.out] at hnw
        have rb := (hBl.out.block (W.heap.size + 1) (by omega)).trans HE2.out
        have u0 : wr.cell? ⟨W.heap.size + 1 + 1, 0, none⟩ = some (.int .i64 14) := cell_of_row wr _ 0 _ _ (0, 0) hB.out
        have u1 : wr.cell? ⟨W.heap.size + 1 + 1, 1, none⟩ = some (.int .i64 n) := cell_of_row wr _ 1 _ _ (0, 0) hB.out
        have u2 : wr.cell? ⟨W.heap.size + 1 + 1, 2, none⟩ = some (.string s') := cell_of_row wr _ 2 _ _ (0, 0) hB.out
        have u3 : wr.cell? ⟨W.heap.size + 1 + 1, 3, none⟩ = some (.slice A j c) := cell_of_row wr _ 3 _ _ (0, 0) hB.out
        have q0 := cell_of_row wr _ 0 _ _ (0, 0) rb
        have q1 := cell_of_row wr _ 1 _ _ (0, 0) rb
        have q2 := cell_of_row wr _ 2 _ _ (0, 0) rb
        have q3 := cell_of_row wr _ 3 _ _ (0, 0) rb
        have p0 : wr.frozen? ⟨W.heap.size + 1, 0, none⟩ = false := by simp [World.frozen?, rb]
        have p1 : wr.frozen? ⟨W.heap.size + 1, 1, none⟩ = false := by simp [World.frozen?, rb]
        have p2 : wr.frozen? ⟨W.heap.size + 1, 2, none⟩ = false := by simp [World.frozen?, rb]
        have p3 : wr.frozen? ⟨W.heap.size + 1, 3, none⟩ = false := by simp [World.frozen?, rb]
        have HRB := Lib.hid rb
        clear rb
        go_wp2_with fail
        obtain ⟨U, hU⟩ : ∃ U, (((wr.setCell ⟨W.heap.size + 1, 0, none⟩ (.int .i64 14)).setCell ⟨W.heap.size + 1, 1, none⟩ (.int .i64 n)).setCell ⟨W.heap.size + 1, 2, none⟩ (.string s')).setCell ⟨W.heap.size + 1, 3, none⟩ (.slice A j c) = U := ⟨_, rfl⟩
        rw [hU]
        obtain ⟨f1, f2, f3⟩ := fin1 HRB.out (show W.heap.size + 1 < W.heap.size + 3 by omega) (Nat.zero_le _) 14 n s' (.slice A j c) hnw hU
        refine bodyPost_ret (ret_N rfl _ rfl f1) rfl ?_
        exact ⟨_, rfl, f2.lower (by omega), HBW.out.trans (f3.below (fun g _ e => by omega) HBW.out.size)⟩
  · have e1 : (k == 1) = false := by simp; omega
    have e14 : (k == 14) = false := by simp; omega
    have hse : s = s' := by have := HS.out; rwa [if_neg hk] at this
    subst hse
    go_enter Try.func23, Try.ntmps23
    go_wp2_with fail
    rw [HW3.out]
    go_loopw [6] (fun i V => ∃ (j c : Nat) (A : Option Addr) (cs : List Value), j ≤ m ∧ i = .int .i64 (j : Int) ∧ Hid (V.heap[W.heap.size + 1 + 1]? = some (.cells #[.int .i64 k, .int .i64 n, .string s, .slice A j c] 25 (0, 0))) ∧ Hid (TS 0 (W.heap.size + 3) V A j c ((l.take j).map (TY.ren (sfx x))) cs) ∧ Hid (Below (W.heap.size + 1 + 1) W3 V)) (fun i _ => m - (intOf i).toNat)
    case atStart => exact ⟨0, 0, none, [], by omega, rfl, HE3.out, TS.nil _ _ _, Below.refl _ _⟩
    case round =>
      obtain ⟨j, c, A, cs, hj, rfl, hB, hR, hBl⟩ := hrel
      have hsz := hBl.out.size
      have d3w := (hBl.out.cell (p := ⟨W.heap.size, 3, none⟩) (show W.heap.size < W.heap.size + 1 + 1 by omega)).trans d3
      have HBW : Hid (Below W.heap.size W wr) := HB3.out.trans (hBl.out.mono (by omega))
      by_cases hjm : j < m
      · obtain ⟨t, ht⟩ : ∃ t, l[j]? = some t := ⟨l[j]'(by rw [HM.out]; exact hjm), List.getElem?_eq_getElem (by rw [HM.out]; exact hjm)⟩
        obtain ⟨vj, hvj⟩ : ∃ x, vs[j]? = some x := ⟨vs[j]'(by rw [HVL.out]; exact hjm), List.getElem?_eq_getElem (by rw [HVL.out]; exact hjm)⟩
        have hnv := HKI.out j t vj ht hvj
        obtain ⟨b, off, kj, nj, sj, Aj, lj, cj, rfl, hbh, rfl, c0', c1, c2', c3⟩ := HKD.out.tree hvj hnv
        have hbW : b < W.heap.size := by omega
        have g0 := (HBW.out.cell (p := ⟨b, off + j * 4, none⟩) hbW).trans c0'
        have g1 := (HBW.out.cell (p := ⟨b, off + j * 4 + 1, none⟩) hbW).trans c1
        have g2 := (HBW.out.cell (p := ⟨b, off + j * 4 + 2, none⟩) hbW).trans c2'
        have g3 := (HBW.out.cell (p := ⟨b, off + j * 4 + 3, none⟩) hbW).trans c3
        have hmem := List.mem_of_getElem? ht
        have RC := Lib.hid (HIH.out t hmem (HOK.out t hmem) wr.drew hi _ (hnv.under (HBW.out.drew.mono hh) (Nat.le_refl _)) (Nat.le_trans hh HBW.out.size))
        have HSN := Lib.hid (map_snoc (TY.ren (sfx x)) ht)
        have r3 : wr.cell? ⟨W.heap.size + 1 + 1, 3, none⟩ = some (.slice A j c) := cell_of_row wr _ 3 _ _ (0, 0) hB.out
        have hjb : j ≤ 1000000 := by omega
        obtain ⟨T5, hT5⟩ : ∃ T, TY.ren (sfx x) t = T := ⟨_, rfl⟩
        rw [hT5] at RC HSN
        clear hnv c0' c1 c2' c3 ht hvj hmem hT5
        go_wp2_with fail
        go_region_law
          (first
            | (refine step_append_lies _ rfl (.tmp 35) (.tmp 43) 23 rfl (W.heap.size + 3) 25 i0 _ 4 56 Try.underlying23 HZ.out.1 HZ.out.2.1 HZ.out.2.2.1 HZ.out.2.2.2 rfl (by decide) (.slice A j c) j _ (by simp [Act.eval]) HO5.out ⟨w5.heap.size, 0, none⟩ 1 1 [.int .i64 k5, .int .i64 n5, .string s5, .slice A5 m5 c5] (by simp [Act.eval]) rfl (news_alloc _ _ _ _ rfl) (by simp [Value.oneCell']) (by decide) (by simp only [maxLen]; omega) (by omega) (by simp; omega) _ rfl ?_; intro g4 c4 w6 hown4 hgrow4 hat4 _; have hb6 := grown_kept hgrow4 HB5.out HO5.out (by omega); have d6 : w6.cell? ⟨W.heap.size + 1 + 1, 3, none⟩ = some (.slice A j c) := cell_of_row w6 _ 3 _ _ (0, 0) hb6; have f6 : w6.frozen? ⟨W.heap.size + 1 + 1, 3, none⟩ = false := by simp [World.frozen?, hb6])
            | (go_simp; go_at_call 23; refine RC.out.mono ?_; clear RC; rintro e5 w5 ⟨v5, rfl, V5, B5⟩; obtain ⟨k5, n5, s5, A5, m5, c5, rfl⟩ := V5.shape; replace V5 := Lib.hid V5; replace B5 := Lib.hid (show Below wr.heap.size wr w5 from ((Below.refl wr.heap.size wr).drew.trans B5)); have hs5 := B5.out.size; have HB5 := Lib.hid ((B5.out.block _ (by omega)).trans hB.out); have d5 : (w5.alloc (.cells #[.int .i64 k5, .int .i64 n5, .string s5, .slice A5 m5 c5] 25)).cell? ⟨W.heap.size + 1 + 1, 3, none⟩ = some (.slice A j c) := (((Below.refl w5.heap.size w5).alloc (Nat.le_refl _) _).cell (p := ⟨W.heap.size + 1 + 1, 3, none⟩) (heap_lt HB5.out)).trans (cell_of_row w5 _ 3 _ _ (0, 0) HB5.out); have h5 : w5.cell? ⟨W.heap.size + 1 + 1, 3, none⟩ = some (.slice A j c) := cell_of_row w5 _ 3 _ _ (0, 0) HB5.out; have HO5 := Lib.hid (TS.own hR.out B5.out (.cells #[.int .i64 k5, .int .i64 n5, .string s5, .slice A5 m5 c5] 25))))
        all_goals
          obtain ⟨U, hU⟩ : ∃ U, w6.setCell ⟨W.heap.size + 1 + 1, 3, none⟩ (.slice (some ⟨g4, 0, none⟩) (j + 1) c4) = U := ⟨_, rfl⟩
          have hUk : ∀ q, q ≠ W.heap.size + 1 + 1 → U.heap[q]? = w6.heap[q]? := fun q hq => by rw [← hU]; exact Below.heap_setCell _ _ _ _ hq
          have hUs : U.heap.size = w6.heap.size := by rw [← hU]; simp [World.setCell]
          have hUb : U.heap[W.heap.size + 1 + 1]? = some (.cells #[.int .i64 k, .int .i64 n, .string s, .slice (some ⟨g4, 0, none⟩) (j + 1) c4] 25 (0, 0)) := by
            rw [← hU]
            simp only [World.setCell, Array.getElem?_modify]
            simp [hb6]
          have hTS := TS.step (U := U) hR.out B5.out (by omega) (by omega) V5.out hgrow4 (hat4.imp id fun h => by rw [h, World.size_alloc]; omega) hown4 (fun q hq => hUk q (by omega)) hUs
          have hBU : Below (W.heap.size + 1 + 1) W3 U := by
            rw [← hU]
            exact ((hBl.out.trans (B5.out.mono (by omega))).trans ((grown_chg hgrow4 HO5.out).below (fun q _ h => by omega) (by omega))).setCell (p := ⟨W.heap.size + 1 + 1, 3, none⟩) (Nat.le_refl _) _
          have G1 := Lib.hid hTS
          have G2 := Lib.hid hBU
          have G3 := Lib.hid hUb
          have HU := Lib.hid hU
          clear hTS hBU hUb hUk hU
          go_wp2_with fail
          rw [HU.out]
          go_roundw
          case rel => exact ⟨j + 1, c4, some ⟨g4, 0, none⟩, _, by omega, by go_num, G3.out, by rw [HSN.out]; exact G1.out, G2.out⟩
          case measure => simp [intOf]; omega
      · obtain rfl : j = m := by omega
        have HT := Lib.hid (show (l.take j).map (TY.ren (sfx x)) = l.map (TY.ren (sfx x)) by rw [List.take_of_length_le (by rw [HM.out]; exact Nat.le_refl _)])
        have hnw := TS.node hR.out (by omega) k n s hs1000
        rw [HT.out] at hnw
        have rb := (hBl.out.block (W.heap.size + 1) (by omega)).trans HE2.out
        have u0 : wr.cell? ⟨W.heap.size + 1 + 1, 0, none⟩ = some (.int .i64 k) := cell_of_row wr _ 0 _ _ (0, 0) hB.out
        have u1 : wr.cell? ⟨W.heap.size + 1 + 1, 1, none⟩ = some (.int .i64 n) := cell_of_row wr _ 1 _ _ (0, 0) hB.out
        have u2 : wr.cell? ⟨W.heap.size + 1 + 1, 2, none⟩ = some (.string s) := cell_of_row wr _ 2 _ _ (0, 0) hB.out
        have u3 : wr.cell? ⟨W.heap.size + 1 + 1, 3, none⟩ = some (.slice A j c) := cell_of_row wr _ 3 _ _ (0, 0) hB.out
        have q0 := cell_of_row wr _ 0 _ _ (0, 0) rb
        have q1 := cell_of_row wr _ 1 _ _ (0, 0) rb
        have q2 := cell_of_row wr _ 2 _ _ (0, 0) rb
        have q3 := cell_of_row wr _ 3 _ _ (0, 0) rb
        have p0 : wr.frozen? ⟨W.heap.size + 1, 0, none⟩ = false := by simp [World.frozen?, rb]
        have p1 : wr.frozen? ⟨W.heap.size + 1, 1, none⟩ = false := by simp [World.frozen?, rb]
        have p2 : wr.frozen? ⟨W.heap.size + 1, 2, none⟩ = false := by simp [World.frozen?, rb]
        have p3 : wr.frozen? ⟨W.heap.size + 1, 3, none⟩ = false := by simp [World.frozen?, rb]
        have HRB := Lib.hid rb
        clear rb
        go_wp2_with fail
        obtain ⟨U, hU⟩ : ∃ U, (((wr.setCell ⟨W.heap.size + 1, 0, none⟩ (.int .i64 k)).setCell ⟨W.heap.size + 1, 1, none⟩ (.int .i64 n)).setCell ⟨W.heap.size + 1, 2, none⟩ (.string s)).setCell ⟨W.heap.size + 1, 3, none⟩ (.slice A j c) = U := ⟨_, rfl⟩
        rw [hU]
        obtain ⟨f1, f2, f3⟩ := fin1 HRB.out (show W.heap.size + 1 < W.heap.size + 3 by omega) (Nat.zero_le _) k n s (.slice A j c) hnw hU
        refine bodyPost_ret (ret_N rfl _ rfl f1) rfl ?_
        exact ⟨_, rfl, f2.lower (by omega), HBW.out.trans (f3.below (fun g _ e => by omega) HBW.out.size)⟩
end Go.Proofs.Ytofeidacffabdaa
