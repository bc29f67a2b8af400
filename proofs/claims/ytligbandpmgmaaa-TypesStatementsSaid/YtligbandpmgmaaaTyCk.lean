/-
  Check, given what Index answers. Condition: the unit's handlers are trees.
-/
import Derived.Test.YtligbandpmgmaaaTyHu
import Derived.Test.YtligbandpmgmaaaTyWw
namespace Go.Proofs.Ytligbandpmgmaaa
open Go Go.RowKit Go.Proofs Go.Shelf
attribute [local go_sem] Oper.semAt_some

/-- The handlers in memory. -/
def Hs (W : World) (hi : Nat) (A : Option Addr) (on : List (Int × TY.Nd)) : Prop := ∀ (i : Nat) (x : Int × TY.Nd), on[i]? = some x → ∃ (b off : Nat) (k n : Int) (s : ByteArray) (A' : Option Addr) (m c : Nat), A = some ⟨b, off, none⟩ ∧ b < hi ∧
  W.cell? ⟨b, off + i * 5, none⟩ = some (.int .i64 x.1) ∧ W.cell? ⟨b, off + i * 5 + 1, none⟩ = some (.int .i64 k) ∧ W.cell? ⟨b, off + i * 5 + 1 + 1, none⟩ = some (.int .i64 n) ∧ W.cell? ⟨b, off + i * 5 + 1 + 2, none⟩ = some (.string s) ∧ W.cell? ⟨b, off + i * 5 + 1 + 3, none⟩ = some (.slice A' m c) ∧
  NdV W hi x.2 (ndv k n s (.slice A' m c))
theorem Hs.below {W W' : World} {hi : Nat} {A : Option Addr} {on : List (Int × TY.Nd)} (h : Hs W hi A on) (hb : Below hi W W') : Hs W' hi A on := fun i x hx => by
  obtain ⟨b, off, k, n, s, A', m, c, e, hlt, c0, c1, c2, c3, c4, hv⟩ := h i x hx
  exact ⟨b, off, k, n, s, A', m, c, e, hlt, (hb.cell (p := ⟨b, _, none⟩) hlt).trans c0, (hb.cell (p := ⟨b, _, none⟩) hlt).trans c1, (hb.cell (p := ⟨b, _, none⟩) hlt).trans c2, (hb.cell (p := ⟨b, _, none⟩) hlt).trans c3, (hb.cell (p := ⟨b, _, none⟩) hlt).trans c4, hv.under hb (Nat.le_refl _)⟩
theorem all_snoc {α : Type} {l : List α} {P : α → Bool} {j : Nat} {t : α} (ht : l[j]? = some t) (h : (l.take j).all P = true) (e : P t = true) : (l.take (j + 1)).all P = true := by
  rw [List.take_add_one, ht, List.all_append, h]
  simp [e]
set_option maxHeartbeats 8000000 in
theorem Check_any (l : List ByteArray) (Ax Ay Az : Option Addr) (mx cx my cy m cz : Nat) (on : List (Int × TY.Nd)) (hm : on.length = m) (hmz : m ≤ cz) (hmx : m ≤ 100000) (W : World) (hi : Nat) (hH : Hs W hi Az on) (hI : IdxC W hi (.agg #[.slice Ax mx cx, .slice Ay my cy, .slice Az m cz]) l) (hh : hi ≤ W.heap.size) :
    Calls Try.prog 7 #[.agg #[.slice Ax mx cx, .slice Ay my cy, .slice Az m cz]] W fun e w' => e = .returned (.int .i64 (if on.all fun h => TY.wellP h.2 && !TY.undec l h.2 then 0 else 11)) ∧ Below W.heap.size W w' := by
  obtain ⟨W0, hW0⟩ : ∃ U, W.alloc (.cells #[.slice Ax mx cx, .slice Ay my cy, .slice Az m cz] 36) = U := ⟨_, rfl⟩
  have b0 : Below W.heap.size W W0 := by rw [← hW0]; exact (Below.refl _ _).alloc (Nat.le_refl _) _
  have z0 : W0.heap.size = W.heap.size + 1 := by rw [← hW0, World.size_alloc]
  have hU : UBox W0 W.heap.size (.slice Ax mx cx) (.slice Ay my cy) (.slice Az m cz) := by unfold UBox; rw [← hW0]; exact World.alloc_heap_new W _
  have hNR := newRules_any W0
  obtain ⟨q, hq⟩ : ∃ q : Int, (if on.all fun h => TY.wellP h.2 && !TY.undec l h.2 then 0 else 11) = q := ⟨_, rfl⟩
  rw [hq]
  have HQ := Lib.hid hq
  have HNR := Lib.hid hNR
  have HW0 := Lib.hid hW0
  have HB0 := Lib.hid b0
  have HU := Lib.hid hU
  have HI := Lib.hid hI
  have HH := Lib.hid hH
  have HM := Lib.hid hm
  clear hq hNR hW0 b0 hU hI hH hm
  go_enter Try.func7, Try.ntmps7
  go_wp2_with (first
    | (rw [HW0.out]; go_at_call 13; refine HNR.out.mono ?_; clear HNR; rintro e w1 ⟨mu, mb, rfl, hr1, hb1⟩
       have u0 : w1.cell? ⟨W.heap.size, 0, none⟩ = some (.slice Ax mx cx) := cell_of_row w1 _ 0 _ _ (0, 0) ((hb1.block _ (by omega)).trans HU.out)
       have u1 : w1.cell? ⟨W.heap.size, 1, none⟩ = some (.slice Ay my cy) := cell_of_row w1 _ 1 _ _ (0, 0) ((hb1.block _ (by omega)).trans HU.out)
       have u2 : w1.cell? ⟨W.heap.size, 2, none⟩ = some (.slice Az m cz) := cell_of_row w1 _ 2 _ _ (0, 0) ((hb1.block _ (by omega)).trans HU.out)
       have hs1 := hb1.size
       have hlt1 : W.heap.size < w1.heap.size := by omega
       have HR1 := Lib.hid hr1
       have HB1 := Lib.hid hb1
       clear hr1 hb1))
  obtain ⟨W2, hW2⟩ : ∃ U, w1.alloc (.cells #[.map (some mu), .map (some mb)] 48) = U := ⟨_, rfl⟩
  rw [hW2]
  have b12 : Below w1.heap.size w1 W2 := by rw [← hW2]; exact (Below.refl _ _).alloc (Nat.le_refl _) _
  have z2 : W2.heap.size = w1.heap.size + 1 := by rw [← hW2, World.size_alloc]
  have hbx : RBox W2 w1.heap.size mu mb := by unfold RBox; rw [← hW2]; exact World.alloc_heap_new w1 _
  have bW2 : Below W.heap.size W W2 := HB0.out.trans ((HB1.out.mono (by omega)).trans (b12.mono (by omega)))
  have hr2 : Rul W2 w1.heap.size mu mb := HR1.out.below b12
  have v0 := (b12.cell (p := ⟨W.heap.size, 0, none⟩) hlt1).trans u0
  have v1 := (b12.cell (p := ⟨W.heap.size, 1, none⟩) hlt1).trans u1
  have v2 := (b12.cell (p := ⟨W.heap.size, 2, none⟩) hlt1).trans u2
  obtain ⟨r0, r1⟩ := hbx.cells
  have H2 := Lib.hid (HH.out.below (bW2.mono hh))
  have HBW := Lib.hid bW2
  have HR := Lib.hid hr2
  have hlt2 : W.heap.size < W2.heap.size := by omega
  have hltB : w1.heap.size < W2.heap.size := by omega
  have HWT := Lib.hid (fun (t : TY.Nd) (v : Value) (hv : NdV W2 hi t v) (V : World) (hV : Below W2.heap.size W2 V) => wellTyped_any (mu := mu) (mb := mb) t V V.heap.size v (hv.under (hV.mono (by omega)) (Nat.le_trans (by omega) hV.size)) (hr2.up (hV.mono (by omega)) (Nat.le_trans (by omega) hV.size)) (Nat.le_refl _))
  have HHU := Lib.hid (fun (t : TY.Nd) (v : Value) (hv : NdV W2 hi t v) (V : World) (hV : Below W2.heap.size W2 V) => hasUnd_any l Ax Ay Az mx cx my cy m cz t V hi v (hv.under (hV.mono (by omega)) (Nat.le_refl _)) (fun U s hU h1 h2 => HI.out U s (((bW2.trans (hV.mono bW2.size)).mono hh).trans hU) h1 h2) (Nat.le_trans (by omega) hV.size))
  clear hW2 b12 hbx bW2 hr2 u0 u1 u2 HR1 HB1 HU HB0 HW0 HI HH
  go_loopw [10] (fun i V => ∃ j : Nat, j ≤ m ∧ i = .int .i64 (j : Int) ∧ Hid ((on.take j).all (fun h => TY.wellP h.2 && !TY.undec l h.2) = true) ∧ Hid (Below W2.heap.size W2 V)) (fun i _ => m - (intOf i).toNat)
  case atStart => exact ⟨0, by omega, rfl, (show (on.take 0).all (fun h => TY.wellP h.2 && !TY.undec l h.2) = true from rfl), Below.refl _ _⟩
  case round =>
    obtain ⟨j, hj, rfl, hT, hBl⟩ := hrel
    by_cases hjm : j < m
    · obtain ⟨x, hx⟩ : ∃ x, on[j]? = some x := ⟨on[j]'(by rw [HM.out]; exact hjm), List.getElem?_eq_getElem (by rw [HM.out]; exact hjm)⟩
      obtain ⟨b, off, k, n, s, A', mk, ck, rfl, hlt, c0, c1, c2, c3, c4, hv⟩ := H2.out j x hx
      have hb2 : b < W2.heap.size := by omega
      have e0 := (hBl.out.cell (p := ⟨b, off + j * 5, none⟩) hb2).trans c0
      have e1 := (hBl.out.cell (p := ⟨b, off + j * 5 + 1, none⟩) hb2).trans c1
      have e2 := (hBl.out.cell (p := ⟨b, off + j * 5 + 1 + 1, none⟩) hb2).trans c2
      have e3 := (hBl.out.cell (p := ⟨b, off + j * 5 + 1 + 2, none⟩) hb2).trans c3
      have e4 := (hBl.out.cell (p := ⟨b, off + j * 5 + 1 + 3, none⟩) hb2).trans c4
      obtain ⟨W5, hW5⟩ : ∃ U, wr.alloc (.cells #[.int .i64 x.1, .int .i64 k, .int .i64 n, .string s, .slice A' mk ck] 51) = U := ⟨_, rfl⟩
      have b5 : Below W2.heap.size W2 W5 := by rw [← hW5]; exact hBl.out.alloc hBl.out.size _
      have z5 : W5.heap.size = wr.heap.size + 1 := by rw [← hW5, World.size_alloc]
      have hlt5 : wr.heap.size < W5.heap.size := by omega
      have r0' := (b5.cell (p := ⟨w1.heap.size, 0, none⟩) hltB).trans r0
      have r1' := (b5.cell (p := ⟨w1.heap.size, 1, none⟩) hltB).trans r1
      have ho := World.alloc_heap_new wr (.cells #[.int .i64 x.1, .int .i64 k, .int .i64 n, .string s, .slice A' mk ck] 51)
      rw [hW5] at ho
      have G : Hid (W5.cell? ⟨wr.heap.size, 1, none⟩ = some (.int .i64 k) ∧ W5.cell? ⟨wr.heap.size, 2, none⟩ = some (.int .i64 n) ∧ W5.cell? ⟨wr.heap.size, 3, none⟩ = some (.string s) ∧ W5.cell? ⟨wr.heap.size, 4, none⟩ = some (.slice A' mk ck)) := ⟨cell_of_row W5 _ 1 _ _ (0, 0) ho, cell_of_row W5 _ 2 _ _ (0, 0) ho, cell_of_row W5 _ 3 _ _ (0, 0) ho, cell_of_row W5 _ 4 _ _ (0, 0) ho⟩
      have HW := Lib.hid (HWT.out x.2 _ hv W5 b5)
      have HH2 := Lib.hid (fun V hV => HHU.out x.2 _ hv V hV)
      have hPx : (TY.wellP x.2 && !TY.undec l x.2) = false → (on.all fun h => TY.wellP h.2 && !TY.undec l h.2) = false := fun hf => by
        rw [Bool.eq_false_iff]
        intro ha
        have := List.all_eq_true.1 ha x (List.mem_of_getElem? hx)
        rw [hf] at this
        cases this
      have hNx := fun hf => all_snoc (P := fun h : Int × TY.Nd => TY.wellP h.2 && !TY.undec l h.2) hx hT.out hf
      obtain ⟨p, hp⟩ : ∃ p, TY.wellP x.2 = p := ⟨_, rfl⟩
      obtain ⟨u, hu⟩ : ∃ p, TY.undec l x.2 = p := ⟨_, rfl⟩
      simp only [hp, hu] at HW HH2 hPx hNx
      have HNX := Lib.hid hNx
      have HPX := Lib.hid hPx
      have HW5 := Lib.hid hW5
      have B5 := Lib.hid b5
      rw [← hW5] at r0' r1'
      clear hW5 b5 ho hp hu hPx hNx c0 c1 c2 c3 c4 hx z5 HWT HHU HR
      cases p
      · have HN := Lib.hid (HPX.out rfl)
        go_wp2_with (first
          | (rw [HW5.out]; go_at_call 15; refine HW.out.mono ?_; clear HW; rintro e w6 ⟨rfl, hb6⟩; have hs6 := hb6.size; have b26 := B5.out.trans (hb6.mono B5.out.size); have v0' := (b26.cell (p := ⟨W.heap.size, 0, none⟩) hlt2).trans v0; have v1' := (b26.cell (p := ⟨W.heap.size, 1, none⟩) hlt2).trans v1; have v2' := (b26.cell (p := ⟨W.heap.size, 2, none⟩) hlt2).trans v2; have g1' := (hb6.cell (p := ⟨wr.heap.size, 1, none⟩) hlt5).trans G.out.1; have g2' := (hb6.cell (p := ⟨wr.heap.size, 2, none⟩) hlt5).trans G.out.2.1; have g3' := (hb6.cell (p := ⟨wr.heap.size, 3, none⟩) hlt5).trans G.out.2.2.1; have g4' := (hb6.cell (p := ⟨wr.heap.size, 4, none⟩) hlt5).trans G.out.2.2.2; have B6 := Lib.hid b26; clear hb6 b26))
        go_ret
        rw [← HQ.out, HN.out]
        exact ⟨rfl, HBW.out.trans (B6.out.mono HBW.out.size)⟩
      · cases u
        · have HN := Lib.hid (HNX.out rfl)
          go_wp2_with (first
            | (rw [HW5.out]; go_at_call 15; refine HW.out.mono ?_; clear HW; rintro e w6 ⟨rfl, hb6⟩; have hs6 := hb6.size; have b26 := B5.out.trans (hb6.mono B5.out.size); have v0' := (b26.cell (p := ⟨W.heap.size, 0, none⟩) hlt2).trans v0; have v1' := (b26.cell (p := ⟨W.heap.size, 1, none⟩) hlt2).trans v1; have v2' := (b26.cell (p := ⟨W.heap.size, 2, none⟩) hlt2).trans v2; have g1' := (hb6.cell (p := ⟨wr.heap.size, 1, none⟩) hlt5).trans G.out.1; have g2' := (hb6.cell (p := ⟨wr.heap.size, 2, none⟩) hlt5).trans G.out.2.1; have g3' := (hb6.cell (p := ⟨wr.heap.size, 3, none⟩) hlt5).trans G.out.2.2.1; have g4' := (hb6.cell (p := ⟨wr.heap.size, 4, none⟩) hlt5).trans G.out.2.2.2; have B6 := Lib.hid b26; clear hb6 b26)
            | (go_at_call 16; refine (HH2.out _ B6.out).mono ?_; clear HH2; rintro e w7 ⟨rfl, hb7⟩; have B7 := Lib.hid (B6.out.trans (hb7.mono B6.out.size)); clear hb7))
          go_roundw
          case rel => exact ⟨j + 1, by omega, by go_num, HN.out, B7.out⟩
          case measure => simp [intOf]; omega
        · have HN := Lib.hid (HPX.out rfl)
          go_wp2_with (first
            | (rw [HW5.out]; go_at_call 15; refine HW.out.mono ?_; clear HW; rintro e w6 ⟨rfl, hb6⟩; have hs6 := hb6.size; have b26 := B5.out.trans (hb6.mono B5.out.size); have v0' := (b26.cell (p := ⟨W.heap.size, 0, none⟩) hlt2).trans v0; have v1' := (b26.cell (p := ⟨W.heap.size, 1, none⟩) hlt2).trans v1; have v2' := (b26.cell (p := ⟨W.heap.size, 2, none⟩) hlt2).trans v2; have g1' := (hb6.cell (p := ⟨wr.heap.size, 1, none⟩) hlt5).trans G.out.1; have g2' := (hb6.cell (p := ⟨wr.heap.size, 2, none⟩) hlt5).trans G.out.2.1; have g3' := (hb6.cell (p := ⟨wr.heap.size, 3, none⟩) hlt5).trans G.out.2.2.1; have g4' := (hb6.cell (p := ⟨wr.heap.size, 4, none⟩) hlt5).trans G.out.2.2.2; have B6 := Lib.hid b26; clear hb6 b26)
            | (go_at_call 16; refine (HH2.out _ B6.out).mono ?_; clear HH2; rintro e w7 ⟨rfl, hb7⟩; have B7 := Lib.hid (B6.out.trans (hb7.mono B6.out.size)); clear hb7))
          go_ret
          rw [← HQ.out, HN.out]
          exact ⟨rfl, HBW.out.trans (B7.out.mono HBW.out.size)⟩
    · obtain rfl : j = m := by omega
      have HY := Lib.hid (show (on.all fun h => TY.wellP h.2 && !TY.undec l h.2) = true by
        have := hT.out
        rwa [List.take_of_length_le (by rw [HM.out]; exact Nat.le_refl _)] at this)
      go_wp2_with fail
      go_ret
      rw [← HQ.out, HY.out]
      exact ⟨rfl, HBW.out.trans (hBl.out.mono HBW.out.size)⟩
end Go.Proofs.Ytligbandpmgmaaa
