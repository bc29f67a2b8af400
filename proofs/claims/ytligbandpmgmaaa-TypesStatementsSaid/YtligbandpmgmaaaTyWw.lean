/-
  The contract of wellTyped. Condition: the value is a tree, the maps hold the rules.
-/
import Derived.Test.YtligbandpmgmaaaTyWt
namespace Go.Proofs.Ytligbandpmgmaaa
open Go Go.RowKit Go.Proofs Go.Shelf
attribute [local go_sem] Oper.semAt_some

theorem well_block (n : Int) (s : ByteArray) (l : List TY.Nd) : TY.wellP (.mk 11 n s l) = l.all TY.wellP := by
  rw [TY.wellP_eq, if_neg (by omega), if_pos rfl, List.all_map]
  rfl
theorem well_plain (k n : Int) (s : ByteArray) (l : List TY.Nd) (h : k = 1 ∨ k = 4 ∨ k = 8 ∨ k = 9) : TY.wellP (.mk k n s l) = l.all fun t => decide (TY.tyOf t = 1) := by
  rw [TY.wellP_eq, if_neg (by omega), if_neg (by omega), if_pos h, List.all_map]
  rfl
theorem well_bare (k n : Int) (s : ByteArray) (l : List TY.Nd) (h : k = 5 ∨ k = 6 ∨ k = 7 ∨ k = 10) : TY.wellP (.mk k n s l) = true := by
  rw [TY.wellP_eq, if_neg (by omega), if_neg (by omega), if_neg (by omega), decide_eq_true h]
theorem well_out (k n : Int) (s : ByteArray) (l : List TY.Nd) (h : ¬ (k = 2 ∨ k = 3)) (h2 : k ≠ 11) (h3 : ¬ (k = 1 ∨ k = 4 ∨ k = 8 ∨ k = 9)) (h4 : ¬ (k = 5 ∨ k = 6 ∨ k = 7 ∨ k = 10)) : TY.wellP (.mk k n s l) = false := by
  rw [TY.wellP_eq, if_neg h, if_neg h2, if_neg h3, decide_eq_false h4]
theorem well_nil (k n : Int) (s : ByteArray) (h : k = 2 ∨ k = 3) : TY.wellP (.mk k n s []) = false := by
  rw [TY.wellP_eq, if_pos h]
  rfl
theorem well_cond (k n : Int) (s : ByteArray) (x : TY.Nd) (l : List TY.Nd) (h : k = 2 ∨ k = 3) : TY.wellP (.mk k n s (x :: l)) = (decide (TY.tyOf x = 2) && l.all TY.wellP) := by
  rw [TY.wellP_eq, if_pos h, List.map_cons, List.map_cons, List.head?_cons, List.drop_succ_cons, List.drop_zero, List.all_map]
  congr 1
  simp
/-- The kids behind the first one. -/
theorem NdV.rest {W : World} {hi : Nat} {k n : Int} {s : ByteArray} {x : TY.Nd} {l : List TY.Nd} {b off c : Nat} (h : NdV W hi (.mk k n s (x :: l)) (ndv k n s (.slice (some ⟨b, off, none⟩) (l.length + 1) c))) : NdV W hi (.mk k n s l) (ndv k n s (.slice (if c = 1 then some ⟨b, off, none⟩ else some ⟨b, off + 4, none⟩) l.length (c - 1))) := by
  obtain ⟨A, c', vs, e, hvl, hlc, hcm, hlm, hs, hkd, hkids⟩ := h.open_
  injection e with e
  injection e with e
  injection e with _ e
  injection e with _ e
  injection e with _ e
  injection e with e _
  injection e with eA _ ec
  subst eA ec
  rw [List.length_cons] at hvl hlc hlm
  refine .mk k n s l _ (c - 1) (vs.drop 1) (by rw [List.length_drop]; omega) (by omega) (by omega) (by omega) hs ?_ fun i t v ht hv => ?_
  · rcases hkd with rfl | ⟨b', o', C, e, hb, hc, hx⟩
    · exact .inl rfl
    · injection e with e
      injection e with e1 e2 _
      subst e1 e2
      by_cases h1 : c = 1
      · refine .inl ?_
        apply List.eq_nil_of_length_eq_zero
        rw [List.length_drop]
        omega
      · rw [if_neg h1]
        refine .inr ⟨b, off + 4, C, rfl, hb, hc, fun i v hv => ?_⟩
        rw [List.getElem?_drop] at hv
        obtain ⟨k', n', s', K, rfl, c0, c1, c2, c3⟩ := hx (1 + i) v hv
        have e0 : off + (1 + i) * 4 = off + 4 + i * 4 := by omega
        rw [e0] at c0 c1 c2 c3
        exact ⟨k', n', s', K, rfl, c0, c1, c2, c3⟩
  · rw [List.getElem?_drop] at hv
    exact hkids (1 + i) t v (by rw [Nat.add_comm, List.getElem?_cons_succ]; exact ht) hv
set_option maxHeartbeats 4000000 in
theorem wellTyped_any {mu mb : Nat} : ∀ t, WAt mu mb t := by
  intro t
  induction t using TY.Nd.ind with
  | h k n s l ih =>
  intro W hi v hv hr hh
  have hvo := hv.open_
  obtain ⟨A, c, vs, hvA, hvl, hlc, hcm, hlm, hss, hkd, hkids⟩ := hvo
  subst hvA
  obtain ⟨W1, hW1⟩ : ∃ V, W.alloc (.cells #[.map (some mu), .map (some mb)] 48) = V := ⟨_, rfl⟩
  obtain ⟨W2, hW2⟩ : ∃ V, W1.alloc (.cells #[.int .i64 k, .int .i64 n, .string s, .slice A l.length c] 25) = V := ⟨_, rfl⟩
  have z1 : W1.heap.size = W.heap.size + 1 := by rw [← hW1, World.size_alloc]
  have z2 : W2.heap.size = W.heap.size + 1 + 1 := by rw [← hW2, World.size_alloc, z1]
  have hb1 : Below W.heap.size W W1 := by rw [← hW1]; exact (Below.refl _ _).alloc (Nat.le_refl _) _
  have hb2 : Below W.heap.size W W2 := by rw [← hW2]; exact hb1.alloc (by omega) _
  have hbx : RBox W2 W.heap.size mu mb := by
    unfold RBox
    rw [← hW2, Below.heap_alloc W1 _ _ (by omega), ← hW1]
    exact World.alloc_heap_new W _
  have hv2 := hv.under (hb2.mono hh) (Nat.le_refl _)
  have hr2 := hr.below (hb2.mono hh)
  have HW1 := Lib.hid hW1
  have HW2 := Lib.hid hW2
  have HB2 := Lib.hid hb2
  by_cases h11 : k = 11
  · subst h11
    rw [well_block]
    have HC := Lib.hid (all_any (enters_of Try.func15 (by kernel_rfl) rfl) W2 hi _ hv2 (by omega) (fun t ht => (ih t ht).dec hr2 (by omega)) A c rfl)
    obtain ⟨y, hy⟩ : ∃ y, l.all TY.wellP = y := ⟨_, rfl⟩
    rw [hy] at HC ⊢
    clear hv2 hr2 hbx hb1 hb2 hW1 hW2 hy hv hr ih hkids hkd
    go_enter Try.func15, Try.ntmps15
    go_wp2_with (first
      | (rw [HW1.out, HW2.out]; go_at_call 21; refine HC.out.mono ?_; clear HC; rintro e w4 ⟨rfl, hb4⟩))
    go_ret
    exact ⟨rfl, HB2.out.trans (hb4.mono HB2.out.size)⟩
  by_cases hp : k = 1 ∨ k = 4 ∨ k = 8 ∨ k = 9
  · rw [well_plain _ _ _ _ hp]
    have HC := Lib.hid (all_any (enters_of Try.func22 (by kernel_rfl) rfl) W2 hi _ hv2 (by omega) (fun t ht => wellC_any (mu := mu) (mb := mb) t W2 hi W.heap.size hr2 (by omega) hbx (by omega)) A c rfl)
    obtain ⟨y, hy⟩ : ∃ y, (l.all fun t => decide (TY.tyOf t = 1)) = y := ⟨_, rfl⟩
    rw [hy] at HC ⊢
    clear hv2 hr2 hbx hb1 hb2 hW1 hW2 hy hv hr ih hkids hkd
    rcases hp with rfl | rfl | rfl | rfl
    all_goals
      go_enter Try.func15, Try.ntmps15
      go_wp2_with (first
        | (rw [HW1.out, HW2.out]; go_at_call 21; refine HC.out.mono ?_; clear HC; rintro e w4 ⟨rfl, hb4⟩))
      go_ret
      exact ⟨rfl, HB2.out.trans (hb4.mono HB2.out.size)⟩
  by_cases hq : k = 5 ∨ k = 6 ∨ k = 7 ∨ k = 10
  · rw [well_bare _ _ _ _ hq]
    clear hv2 hr2 hbx hb1 hb2 hW1 hW2 hv hr ih hkids hkd
    rcases hq with rfl | rfl | rfl | rfl
    all_goals
      go_enter Try.func15, Try.ntmps15
      go_wp2_with fail
      go_ret
      rw [HW1.out, HW2.out]
      exact ⟨rfl, HB2.out⟩
  by_cases hc : k = 2 ∨ k = 3
  · cases l with
    | nil =>
      rw [well_nil _ _ _ hc]
      clear hv2 hr2 hbx hb1 hb2 hW1 hW2 hv hr ih hkids hkd
      rw [List.length_nil] at HW2
      rcases hc with rfl | rfl
      all_goals
        go_enter Try.func15, Try.ntmps15
        go_wp2_with fail
        rw [HW1.out, HW2.out]
        go_quiet (fail)
        go_wp2_with fail
        go_ret
        exact ⟨rfl, below_drewN' HB2.out _⟩
    | cons x l =>
      rw [well_cond _ _ _ _ _ hc]
      rw [List.length_cons] at hvl hlc hlm
      obtain ⟨v0, hv0⟩ : ∃ x, vs[0]? = some x := ⟨vs[0]'(by omega), List.getElem?_eq_getElem (by omega)⟩
      have hnv := hkids 0 x v0 rfl hv0
      obtain ⟨b, off, kj, nj, sj, Aj, lj, cj, rfl, hbh, rfl, c0, c1, c2', c3⟩ := hkd.tree hv0 hnv
      rw [Nat.zero_mul, Nat.add_zero] at c0 c1 c2' c3
      have hbW : b < W.heap.size := by omega
      have e0 := (hb2.cell (p := ⟨b, off, none⟩) hbW).trans c0
      have e1 := (hb2.cell (p := ⟨b, off + 1, none⟩) hbW).trans c1
      have e2 := (hb2.cell (p := ⟨b, off + 2, none⟩) hbW).trans c2'
      have e3 := (hb2.cell (p := ⟨b, off + 3, none⟩) hbW).trans c3
      have hb2W : b < W2.heap.size := by omega
      have hBW : W.heap.size < W2.heap.size := by omega
      obtain ⟨r0, r1⟩ := hbx.cells
      have hh2 : hi ≤ W2.heap.size := by omega
      have hn2 := hnv.under (hb2.mono hh) (Nat.le_refl _)
      have HT := Lib.hid (fun (V : World) (hV : Below W2.heap.size W2 V) => typeOf_any (mu := mu) (mb := mb) x V hi _ (hn2.under (hV.mono hh2) (Nat.le_refl _)) (hr2.below (hV.mono hh2)) (Nat.le_trans hh2 hV.size))
      rw [List.length_cons] at hv2
      have hvr := hv2.rest
      obtain ⟨gA, hgA⟩ : ∃ g, (if c = 1 then some (⟨b, off, none⟩ : Addr) else some ⟨b, off + 4, none⟩) = g := ⟨_, rfl⟩
      rw [hgA] at hvr
      have HA := Lib.hid (fun (V : World) (hV : Below W2.heap.size W2 V) => all_any (enters_of Try.func15 (by kernel_rfl) rfl) V hi _ (hvr.under (hV.mono hh2) (Nat.le_refl _)) (Nat.le_trans hh2 hV.size) (fun t ht => (ih t (List.mem_cons_of_mem _ ht)).dec (hr2.below (hV.mono hh2)) (Nat.le_trans hh2 hV.size)) _ _ rfl)
      obtain ⟨y, hy⟩ : ∃ y, TY.tyOf x = y := ⟨_, rfl⟩
      obtain ⟨z, hz⟩ : ∃ z, l.all TY.wellP = z := ⟨_, rfl⟩
      rw [hy] at HT ⊢
      rw [hz] at HA ⊢
      obtain ⟨m, hm⟩ : ∃ m, l.length = m := ⟨_, rfl⟩
      rw [List.length_cons] at HW2
      rw [hm] at HA HW2 hlc hlm
      have B2 : Below W2.heap.size W2 W2 := Below.refl _ _
      have hm0 : (((m + 1 : Nat) : Int) == 0) = false := by simp; omega
      clear hv2 hr2 hbx hb1 hb2 hW1 hW2 hv hr ih hkids hkd hvr hnv hn2 c0 c1 c2' c3 hz hy hv0 hvl z1 z2 h11 hp hq
      by_cases hy2 : y = 2
      · subst hy2
        rw [show (decide (2 = 2) && z) = z by simp]
        rw [List.length_cons, hm]
        rcases hc with rfl | rfl
        all_goals
          go_enter Try.func15, Try.ntmps15
          go_wp2_with fail
          rw [HW1.out, HW2.out]
          go_wp2_with fail
          go_region_held3 (fun V => V.cell? ⟨W.heap.size, 0, none⟩ = some (.map (some mu)) ∧ V.cell? ⟨W.heap.size, 1, none⟩ = some (.map (some mb)) ∧ V.cell? ⟨b, off, none⟩ = some (.int .i64 kj) ∧ V.cell? ⟨b, off + 1, none⟩ = some (.int .i64 nj) ∧ V.cell? ⟨b, off + 2, none⟩ = some (.string sj) ∧ V.cell? ⟨b, off + 3, none⟩ = some (.slice Aj lj cj))
            (first | exact ⟨r0, r1, e0, e1, e2, e3⟩ | exact ⟨(B3.cell (p := ⟨W.heap.size, 0, none⟩) hBW).trans r0, (B3.cell (p := ⟨W.heap.size, 1, none⟩) hBW).trans r1, (B3.cell (p := ⟨b, off, none⟩) hb2W).trans e0, (B3.cell (p := ⟨b, off + 1, none⟩) hb2W).trans e1, (B3.cell (p := ⟨b, off + 2, none⟩) hb2W).trans e2, (B3.cell (p := ⟨b, off + 3, none⟩) hb2W).trans e3⟩)
            (first
              | (go_at_call 14; ((with_reducible refine (HT.out _ ?_).mono ?_); focus (first | exact B2.drew | exact B2)); rintro e w3 ⟨rfl, hb3⟩; have B3 := B2.drew.trans (hb3.mono B2.size); clear hb3))
          all_goals
            have r0' := (B3.cell (p := ⟨W.heap.size, 0, none⟩) hBW).trans r0
            have r1' := (B3.cell (p := ⟨W.heap.size, 1, none⟩) hBW).trans r1
            have HA3 := Lib.hid (HA.out _ B3)
            go_wp2_with (first
              | (go_at_call 21; refine HA3.out.mono ?_; clear HA3; rintro e w4 ⟨rfl, hb4⟩))
            go_ret
            exact ⟨rfl, HB2.out.trans ((B3.trans (hb4.mono B3.size)).mono HB2.out.size)⟩
      · rw [show (decide (y = 2) && z) = false by rw [decide_eq_false hy2]; rfl]
        have hne : ((y : Int) != 2) = true := by rw [bne_iff_ne]; omega
        rw [List.length_cons, hm]
        rcases hc with rfl | rfl
        all_goals
          go_enter Try.func15, Try.ntmps15
          go_wp2_with fail
          rw [HW1.out, HW2.out]
          go_wp2_with fail
          go_region_held3 (fun V => V.cell? ⟨W.heap.size, 0, none⟩ = some (.map (some mu)) ∧ V.cell? ⟨W.heap.size, 1, none⟩ = some (.map (some mb)) ∧ V.cell? ⟨b, off, none⟩ = some (.int .i64 kj) ∧ V.cell? ⟨b, off + 1, none⟩ = some (.int .i64 nj) ∧ V.cell? ⟨b, off + 2, none⟩ = some (.string sj) ∧ V.cell? ⟨b, off + 3, none⟩ = some (.slice Aj lj cj))
            (first | exact ⟨r0, r1, e0, e1, e2, e3⟩ | exact ⟨(B3.cell (p := ⟨W.heap.size, 0, none⟩) hBW).trans r0, (B3.cell (p := ⟨W.heap.size, 1, none⟩) hBW).trans r1, (B3.cell (p := ⟨b, off, none⟩) hb2W).trans e0, (B3.cell (p := ⟨b, off + 1, none⟩) hb2W).trans e1, (B3.cell (p := ⟨b, off + 2, none⟩) hb2W).trans e2, (B3.cell (p := ⟨b, off + 3, none⟩) hb2W).trans e3⟩)
            (first
              | (go_at_call 14; ((with_reducible refine (HT.out _ ?_).mono ?_); focus (first | exact B2.drew | exact B2)); rintro e w3 ⟨rfl, hb3⟩; have B3 := B2.drew.trans (hb3.mono B2.size); clear hb3))
          all_goals
            go_wp2_with fail
            go_ret
            exact ⟨rfl, HB2.out.trans (B3.mono HB2.out.size)⟩
  · rw [well_out _ _ _ _ hc h11 hp hq]
    have e1 : (k == 1) = false := by simp; omega
    have e2 : (k == 2) = false := by simp; omega
    have e3 : (k == 3) = false := by simp; omega
    have e4 : (k == 4) = false := by simp; omega
    have e5 : (k == 5) = false := by simp; omega
    have e6 : (k == 6) = false := by simp; omega
    have e7 : (k == 7) = false := by simp; omega
    have e8 : (k == 8) = false := by simp; omega
    have e9 : (k == 9) = false := by simp; omega
    have e10 : (k == 10) = false := by simp; omega
    have e11 : (k == 11) = false := by simp; omega
    clear hv2 hr2 hbx hb1 hb2 hW1 hW2 hv hr ih hkids hkd h11 hp hq hc
    go_enter Try.func15, Try.ntmps15
    go_wp2_with fail
    go_ret
    rw [HW1.out, HW2.out]
    exact ⟨rfl, HB2.out⟩
end Go.Proofs.Ytligbandpmgmaaa
