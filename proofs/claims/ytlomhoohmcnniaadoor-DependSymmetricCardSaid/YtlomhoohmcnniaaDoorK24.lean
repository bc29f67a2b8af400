/-
  The comparisons of names: cmp.Compare, cmp.Or, compareNumbers. Conditions: none but where the slices lie.
  The comparisons of causes and messages. No condition.
-/
import Derived.Test.YtlomhoohmcnniaaDoorK2
import Derived.Test.YtlomhoohmcnniaaDoorK23
import Derived.Deep.RegionHeld3
import Derived.Deep.QuietTactic
import Derived.BigQuiet

namespace Go.Proofs.YtlomhoohmcnniaaDoor
open Go Go.RowKit Go.Proofs
attribute [local go_sem] Oper.semAt_some

set_option maxHeartbeats 1000000 in
theorem cmp_any (a b : Int) (w : World) : Calls Tryd.prog 55 #[.int .i64 a, .int .i64 b] w fun e w' => e = .returned (.int .i64 (NM.cmpI a b)) ∧ w = w' := by
  by_cases h1 : a < b
  · have e : NM.cmpI a b = -1 := by unfold NM.cmpI; rw [if_pos h1]
    have h2 : decide (a < b) = true := decide_eq_true h1
    rw [e]
    clear e
    go_enter Tryd.func55, Tryd.ntmps55
    go_wp2
    go_ret
    exact ⟨rfl, rfl⟩
  · have h2 : decide (a < b) = false := decide_eq_false h1
    by_cases h3 : b < a
    · have e : NM.cmpI a b = 1 := by unfold NM.cmpI; rw [if_neg h1, if_pos h3]
      have h4 : decide (b < a) = true := decide_eq_true h3
      rw [e]
      clear e
      go_enter Tryd.func55, Tryd.ntmps55
      go_wp2
      go_ret
      exact ⟨rfl, rfl⟩
    · have e : NM.cmpI a b = 0 := by unfold NM.cmpI; rw [if_neg h1, if_neg h3]
      have h4 : decide (b < a) = false := decide_eq_false h3
      rw [e]
      clear e
      go_enter Tryd.func55, Tryd.ntmps55
      go_wp2
      go_ret
      exact ⟨rfl, rfl⟩

set_option maxHeartbeats 2000000 in
/-- cmp.Or of two numbers. -/
theorem or_any (g : Nat) (x y : Int) (w : World) (h0 : w.cell? ⟨g, 0, none⟩ = some (.int .i64 x)) (h1 : w.cell? ⟨g, 1, none⟩ = some (.int .i64 y)) :
    Calls Tryd.prog 36 #[.slice (some ⟨g, 0, none⟩) 2 2] w fun e w' => e = .returned (.int .i64 (NM.orI x y)) ∧ w = w' := by
  have H0 := Lib.hid h0
  have H1 := Lib.hid h1
  clear h0 h1
  go_enter Tryd.func36, Tryd.ntmps36
  go_wp2
  go_loop [8] (fun i => ∃ k : Nat, k ≤ 2 ∧ i = .int .i64 k ∧ (0 < k → x = 0) ∧ (1 < k → y = 0)) (fun i => 2 - (intOf i).toNat)
  case atStart => exact ⟨0, by omega, rfl, fun h => absurd h (by omega), fun h => absurd h (by omega)⟩
  case round =>
    obtain ⟨k, hk, rfl, hx, hy⟩ := hrel
    have hc : k = 0 ∨ k = 1 ∨ k = 2 := by omega
    rcases hc with rfl | rfl | rfl
    · have c0 := H0.out
      clear hx hy
      by_cases hz : x = 0
      · subst hz
        go_wp2
        go_round
        case rel => exact ⟨1, by omega, rfl, by simp, by simp⟩
        case measure => simp [intOf]
      · have hn : (x != 0) = true := by simp [hz]
        have e := Lib.hid (show NM.orI x y = x by unfold NM.orI; rw [if_neg hz])
        clear hz
        go_wp2
        go_ret
        exact ⟨by rw [e.out]; rfl, rfl⟩
    · obtain rfl := hx (by omega)
      have c1 := H1.out
      clear hx hy
      by_cases hz : y = 0
      · subst hz
        go_wp2
        go_round
        case rel => exact ⟨2, by omega, rfl, by simp, by simp⟩
        case measure => simp [intOf]
      · have hn : (y != 0) = true := by simp [hz]
        have e := Lib.hid (show NM.orI 0 y = y by unfold NM.orI; rw [if_pos rfl])
        clear hz
        go_wp2
        go_ret
        exact ⟨by rw [e.out]; rfl, rfl⟩
    · obtain rfl := hx (by omega)
      obtain rfl := hy (by omega)
      clear hx hy
      have e := Lib.hid (show NM.orI 0 0 = 0 from rfl)
      go_wp2
      go_ret
      exact ⟨by rw [e.out]; rfl, rfl⟩

/-- The order of two lists of the same length, whose elements are paired. -/
def prL (l : List (Int × Int)) : Int := NM.lexL (l.map (·.1)) (l.map (·.2))
theorem prL_cons (x : Int × Int) (l : List (Int × Int)) : prL (x :: l) = NM.orI (NM.cmpI x.1 x.2) (prL l) := rfl
theorem prL_drop {l : List (Int × Int)} {k : Nat} {x : Int × Int} (h : l[k]? = some x) : prL (l.drop k) = NM.orI (NM.cmpI x.1 x.2) (prL (l.drop (k + 1))) := by
  obtain ⟨hk, e⟩ := List.getElem?_eq_some_iff.1 h
  rw [List.drop_eq_getElem_cons hk, e, prL_cons]
def PairsAt (w : World) (g : Nat) (l : List (Int × Int)) : Prop := ∀ j x, l[j]? = some x → w.cell? ⟨g, j * 2, none⟩ = some (.int .i64 x.1) ∧ w.cell? ⟨g, j * 2 + 1, none⟩ = some (.int .i64 x.2)
set_option maxRecDepth 100000 in
set_option maxHeartbeats 4000000 in
theorem numbers_any (g n : Nat) (l : List (Int × Int)) (w : World) (hl : l.length = n) (hn : n ≤ 1000) (hg : g < w.heap.size) (h : PairsAt w g l) :
    Calls Tryd.prog 38 #[.slice (some ⟨g, 0, none⟩) n n] w fun e w' => e = .returned (.int .i64 (prL l)) ∧ Below w.heap.size w w' := by
  have HL := Lib.hid hl
  have HP := Lib.hid h
  clear hl h
  go_enter Tryd.func38, Tryd.ntmps38
  go_wp2_with fail
  go_loopw [8] (fun i V => ∃ k : Nat, k ≤ n ∧ i = .int .i64 (k : Int) ∧ Hid (prL l = prL (l.drop k)) ∧ Below w.heap.size w V) (fun i _ => n - (intOf i).toNat)
  case atStart => exact ⟨0, by omega, rfl, rfl, Below.refl _ _⟩
  case round =>
    obtain ⟨k, hk, rfl, hpr, hB⟩ := hrel
    by_cases hlt : k < n
    · obtain ⟨x, hx⟩ : ∃ x, l[k]? = some x := ⟨_, List.getElem?_eq_getElem (by rw [HL.out]; exact hlt)⟩
      obtain ⟨c0, c1⟩ := HP.out k x hx
      have d0 := (hB.cell (p := ⟨g, k * 2, none⟩) hg).trans c0
      have d1 := (hB.cell (p := ⟨g, k * 2 + 1, none⟩) hg).trans c1
      have hstep := prL_drop hx
      obtain ⟨xa, xb⟩ := x
      have d0 : wr.cell? ⟨g, k * 2, none⟩ = some (.int .i64 xa) := d0
      have d1 : wr.cell? ⟨g, k * 2 + 1, none⟩ = some (.int .i64 xb) := d1
      have hstep : prL (l.drop k) = NM.orI (NM.cmpI xa xb) (prL (l.drop (k + 1))) := hstep
      have HC := Lib.hid (fun V => cmp_any xa xb V)
      obtain ⟨c, hc⟩ : ∃ c, NM.cmpI xa xb = c := ⟨_, rfl⟩
      rw [hc] at HC hstep
      have HS := Lib.hid hstep
      have HB2 := Lib.hid (hB.alloc hB.size (.cells #[.int .i64 xa, .int .i64 xb] 76))
      clear hx c0 c1 hstep hc
      by_cases hz : c = 0
      · subst hz
        have HE : Hid (prL l = prL (l.drop (k + 1))) := by
          have := HS.out
          unfold NM.orI at this
          rw [if_pos rfl] at this
          exact hpr.out.trans this
        go_wp2_with (go_at_call 55; refine (HC.out _).mono ?_; rintro e wc ⟨rfl, hwc⟩; have hwc := hwc.symm; subst hwc)
        go_roundw
        case rel => exact ⟨k + 1, by omega, by go_num, HE.out, HB2.out⟩
        case measure => simp [intOf]; omega
      · have hn1 : (c != 0) = true := by simp [hz]
        have HE : Hid (prL l = c) := by
          have := HS.out
          unfold NM.orI at this
          rw [if_neg hz] at this
          exact hpr.out.trans this
        clear hz
        go_wp2_with (go_at_call 55; refine (HC.out _).mono ?_; rintro e wc ⟨rfl, hwc⟩; have hwc := hwc.symm; subst hwc)
        go_ret
        exact ⟨by rw [HE.out]; rfl, HB2.out⟩
    · have HE : Hid (prL l = 0) := by
        have := hpr.out
        rw [List.drop_of_length_le (by rw [HL.out]; omega)] at this
        exact this
      go_wp2_with fail
      go_ret
      exact ⟨by rw [HE.out]; rfl, hB⟩
end Go.Proofs.YtlomhoohmcnniaaDoor

namespace Go.Proofs.YtlomhoohmcnniaaDoor
open Go Go.RowKit Go.Proofs
attribute [local go_sem] Oper.semAt_some

theorem pairsAt_two {V : World} {g : Nat} {t : TypeId} {a b c d : Int} (h : V.heap[g]? = some (.cells #[.int .i64 a, .int .i64 b, .int .i64 c, .int .i64 d] t (0, 0))) : PairsAt V g [(a, b), (c, d)] := by
  intro j x hx
  match j, hx with
  | 0, hx =>
    obtain rfl := Option.some.inj hx
    exact ⟨cell_of_row _ _ 0 _ _ (0, 0) h, cell_of_row _ _ 1 _ _ (0, 0) h⟩
  | 1, hx =>
    obtain rfl := Option.some.inj hx
    exact ⟨cell_of_row _ _ 2 _ _ (0, 0) h, cell_of_row _ _ 3 _ _ (0, 0) h⟩
  | j + 2, hx => simp at hx
theorem pairsAt_three {V : World} {g : Nat} {t : TypeId} {a b c d e f : Int} (h : V.heap[g]? = some (.cells #[.int .i64 a, .int .i64 b, .int .i64 c, .int .i64 d, .int .i64 e, .int .i64 f] t (0, 0))) : PairsAt V g [(a, b), (c, d), (e, f)] := by
  intro j x hx
  match j, hx with
  | 0, hx =>
    obtain rfl := Option.some.inj hx
    exact ⟨cell_of_row _ _ 0 _ _ (0, 0) h, cell_of_row _ _ 1 _ _ (0, 0) h⟩
  | 1, hx =>
    obtain rfl := Option.some.inj hx
    exact ⟨cell_of_row _ _ 2 _ _ (0, 0) h, cell_of_row _ _ 3 _ _ (0, 0) h⟩
  | 2, hx =>
    obtain rfl := Option.some.inj hx
    exact ⟨cell_of_row _ _ 4 _ _ (0, 0) h, cell_of_row _ _ 5 _ _ (0, 0) h⟩
  | j + 3, hx => simp at hx
theorem numbers_two {V : World} {g : Nat} {t : TypeId} {a b c d : Int} (h : V.heap[g]? = some (.cells #[.int .i64 a, .int .i64 b, .int .i64 c, .int .i64 d] t (0, 0))) :
    Calls Tryd.prog 38 #[.slice (some ⟨g, 0, none⟩) 2 2] V fun e w' => e = .returned (.int .i64 (NM.lexL [a, c] [b, d])) ∧ Below V.heap.size V w' :=
  numbers_any g 2 [(a, b), (c, d)] V rfl (by omega) (heap_lt h) (pairsAt_two h)
theorem numbers_three {V : World} {g : Nat} {t : TypeId} {a b c d e f : Int} (h : V.heap[g]? = some (.cells #[.int .i64 a, .int .i64 b, .int .i64 c, .int .i64 d, .int .i64 e, .int .i64 f] t (0, 0))) :
    Calls Tryd.prog 38 #[.slice (some ⟨g, 0, none⟩) 3 3] V fun x w' => x = .returned (.int .i64 (NM.lexL [a, c, e] [b, d, f])) ∧ Below V.heap.size V w' :=
  numbers_any g 3 [(a, b), (c, d), (e, f)] V rfl (by omega) (heap_lt h) (pairsAt_three h)
theorem or_two {V : World} {g : Nat} {t : TypeId} {x y : Int} (h : V.heap[g]? = some (.cells #[.int .i64 x, .int .i64 y] t (0, 0))) :
    Calls Tryd.prog 36 #[.slice (some ⟨g, 0, none⟩) 2 2] V fun e w' => e = .returned (.int .i64 (NM.orI x y)) ∧ V = w' :=
  or_any g x y V (cell_of_row _ _ 0 _ _ (0, 0) h) (cell_of_row _ _ 1 _ _ (0, 0) h)

theorem or_below {V : World} {g : Nat} {t : TypeId} {x y : Int} (h : V.heap[g]? = some (.cells #[.int .i64 x, .int .i64 y] t (0, 0))) :
    Calls Tryd.prog 36 #[.slice (some ⟨g, 0, none⟩) 2 2] V fun e w' => e = .returned (.int .i64 (NM.orI x y)) ∧ Below V.heap.size V w' :=
  (or_two h).mono fun _ _ ⟨he, hw⟩ => ⟨he, hw ▸ Below.refl _ _⟩
set_option maxHeartbeats 1000000 in
set_option maxRecDepth 100000 in
theorem cause_any (c h t c' h' t' : Int) (w : World) : Calls Tryd.prog 37 #[cV c h t, cV c' h' t'] w fun e w' => e = .returned (.int .i64 (NM.lexL [c, h, t] [c', h', t'])) ∧ Below w.heap.size w w' := by
  go_enter Tryd.func37, Tryd.ntmps37
  go_wp2_with fail
  refine (numbers_three (new_at (by simp))).mono ?_
  rintro e w1 ⟨rfl, hb⟩
  have HB := Lib.hid hb
  clear hb
  go_wp2_with fail
  go_ret
  exact ⟨rfl, ((((Below.refl _ _).alloc (Nat.le_refl _) _).alloc (by simp) _).alloc (by simp; omega) _).trans (HB.out.mono (by simp; omega))⟩
theorem row8 {V : World} {g : Nat} {t : TypeId} {x0 x1 x2 x3 x4 x5 x6 x7 : Value} (h : V.heap[g]? = some (.cells #[x0, x1, x2, x3, x4, x5, x6, x7] t (0, 0))) : V.cell? ⟨g, 0, none⟩ = some x0 ∧ V.cell? ⟨g, 1, none⟩ = some x1 ∧ V.cell? ⟨g, 2, none⟩ = some x2 ∧ V.cell? ⟨g, 3, none⟩ = some x3 ∧ V.cell? ⟨g, 4, none⟩ = some x4 ∧ V.cell? ⟨g, 5, none⟩ = some x5 ∧ V.cell? ⟨g, 6, none⟩ = some x6 ∧ V.cell? ⟨g, 7, none⟩ = some x7 :=
  ⟨cell_of_row _ _ 0 _ _ (0, 0) h, cell_of_row _ _ 1 _ _ (0, 0) h, cell_of_row _ _ 2 _ _ (0, 0) h, cell_of_row _ _ 3 _ _ (0, 0) h, cell_of_row _ _ 4 _ _ (0, 0) h, cell_of_row _ _ 5 _ _ (0, 0) h, cell_of_row _ _ 6 _ _ (0, 0) h, cell_of_row _ _ 7 _ _ (0, 0) h⟩
set_option maxHeartbeats 4000000 in
set_option maxRecDepth 100000 in
theorem cmpMsg_any (a b : NM.Ms) (w : World) : Calls Tryd.prog 23 #[msV a, msV b] w fun e w' => e = .returned (.int .i64 (NM.lexL (NM.msL a) (NM.msL b))) ∧ Below w.heap.size w w' := by
  obtain ⟨c, h, t, i, p⟩ := a
  obtain ⟨c', h', t', i', p'⟩ := b
  have e : NM.lexL (NM.msL ⟨c, h, t, i, p⟩) (NM.msL ⟨c', h', t', i', p'⟩) = NM.orI (NM.lexL [c, h, t] [c', h', t']) (NM.lexL [i, p] [i', p']) := NM.lexL_append [c, h, t] [c', h', t'] [i, p] [i', p'] rfl
  have HC := Lib.hid (fun V => cause_any c h t c' h' t' V)
  obtain ⟨x, hx⟩ : ∃ x, NM.lexL [c, h, t] [c', h', t'] = x := ⟨_, rfl⟩
  obtain ⟨y, hy⟩ : ∃ y, NM.lexL [i, p] [i', p'] = y := ⟨_, rfl⟩
  rw [hx] at HC e
  rw [hy] at e
  have HY := Lib.hid hy
  have HR := Lib.hid e
  clear hx hy e
  obtain ⟨U, hU, hb, k1, k2, hlt⟩ := two_boxes w (.cells #[.int .i64 c, .int .i64 h, .int .i64 t, .int .i64 i, .int .i64 p] 46) (.cells #[.int .i64 c', .int .i64 h', .int .i64 t', .int .i64 i', .int .i64 p'] 46)
  have hl0 : w.heap.size < U.heap.size := by omega
  have HK := Lib.hid (show ∀ V, Below U.heap.size U V → V.cell? ⟨w.heap.size, 0, none⟩ = some (.int .i64 c) ∧ V.cell? ⟨w.heap.size, 1, none⟩ = some (.int .i64 h) ∧ V.cell? ⟨w.heap.size, 2, none⟩ = some (.int .i64 t) ∧ V.cell? ⟨w.heap.size, 3, none⟩ = some (.int .i64 i) ∧ V.cell? ⟨w.heap.size, 4, none⟩ = some (.int .i64 p) ∧ V.cell? ⟨w.heap.size + 1, 0, none⟩ = some (.int .i64 c') ∧ V.cell? ⟨w.heap.size + 1, 1, none⟩ = some (.int .i64 h') ∧ V.cell? ⟨w.heap.size + 1, 2, none⟩ = some (.int .i64 t') ∧ V.cell? ⟨w.heap.size + 1, 3, none⟩ = some (.int .i64 i') ∧ V.cell? ⟨w.heap.size + 1, 4, none⟩ = some (.int .i64 p') from by
    intro V B
    obtain ⟨a0, a1, a2, a3, a4⟩ := row5 k1
    obtain ⟨b0, b1, b2, b3, b4⟩ := row5 k2
    exact ⟨(B.cell (p := ⟨w.heap.size, 0, none⟩) hl0).trans a0, (B.cell (p := ⟨w.heap.size, 1, none⟩) hl0).trans a1, (B.cell (p := ⟨w.heap.size, 2, none⟩) hl0).trans a2, (B.cell (p := ⟨w.heap.size, 3, none⟩) hl0).trans a3, (B.cell (p := ⟨w.heap.size, 4, none⟩) hl0).trans a4, (B.cell (p := ⟨w.heap.size + 1, 0, none⟩) hlt).trans b0, (B.cell (p := ⟨w.heap.size + 1, 1, none⟩) hlt).trans b1, (B.cell (p := ⟨w.heap.size + 1, 2, none⟩) hlt).trans b2, (B.cell (p := ⟨w.heap.size + 1, 3, none⟩) hlt).trans b3, (B.cell (p := ⟨w.heap.size + 1, 4, none⟩) hlt).trans b4⟩)
  have HU := Lib.hid hU
  have HB := Lib.hid hb
  clear hU hb k1 k2
  have B : Below U.heap.size U U := Below.refl _ _
  go_enter Tryd.func23, Tryd.ntmps23
  go_wp2_with fail
  rw [HU.out]
  clear HU
  go_region_held3 (fun V => V.cell? ⟨w.heap.size, 0, none⟩ = some (.int .i64 c) ∧ V.cell? ⟨w.heap.size, 1, none⟩ = some (.int .i64 h) ∧ V.cell? ⟨w.heap.size, 2, none⟩ = some (.int .i64 t) ∧ V.cell? ⟨w.heap.size, 3, none⟩ = some (.int .i64 i) ∧ V.cell? ⟨w.heap.size, 4, none⟩ = some (.int .i64 p) ∧ V.cell? ⟨w.heap.size + 1, 0, none⟩ = some (.int .i64 c') ∧ V.cell? ⟨w.heap.size + 1, 1, none⟩ = some (.int .i64 h') ∧ V.cell? ⟨w.heap.size + 1, 2, none⟩ = some (.int .i64 t') ∧ V.cell? ⟨w.heap.size + 1, 3, none⟩ = some (.int .i64 i') ∧ V.cell? ⟨w.heap.size + 1, 4, none⟩ = some (.int .i64 p'))
    (first | exact HK.out _ B | exact HK.out _ (B.alloc B.size _) | exact HK.out _ B.drew | exact HK.out _ (B.drew.alloc B.size _))
    (first
      | (go_at_call 37; ((with_reducible refine (HC.out _).mono ?_); rintro e w5 ⟨rfl, hb⟩); (first | (have B := B.trans (hb.mono B.size)) | (have B := B.drew.trans (hb.mono B.size)) | (have K1 : Hid (w5.heap[U.heap.size]? = some (.cells #[.int .i64 i, .int .i64 i', .int .i64 p, .int .i64 p'] 76 (0, 0))) := (hb.block U.heap.size (by simp)).trans (new_at (by simp)); (first | (have B := (B.alloc B.size _).trans (hb.mono (by simp))) | (have B := (B.drew.alloc B.size _).trans (hb.mono (by simp)))))); clear hb)
      | (go_at_call 38; (first | (refine (numbers_two (new_at (by simp))).mono ?_; rintro e w5 ⟨rfl, hb⟩; rw [HY.out]; (first | (have B := (B.alloc B.size _).trans (hb.mono (by have := B.size; simp; try omega))) | (have B := (B.drew.alloc B.size _).trans (hb.mono (by have := B.size; simp; try omega))) | (have B := (B.alloc B.size _).drew.trans (hb.mono (by have := B.size; simp; try omega)))); clear hb) | (refine (numbers_two K1.out).mono ?_; rintro e w5 ⟨rfl, hb⟩; rw [HY.out]; have B := B.trans (hb.mono B.size); clear hb)))
      | (go_at_call 36; (refine (or_below (new_at (by simp))).mono ?_; rintro e w5 ⟨rfl, hb⟩); (first | (have B := (B.alloc B.size _).trans (hb.mono (by have := B.size; simp; try omega))) | (have B := (B.drew.alloc B.size _).trans (hb.mono (by have := B.size; simp; try omega))) | (have B := (B.alloc B.size _).drew.trans (hb.mono (by have := B.size; simp; try omega)))); clear hb))
  all_goals
    go_wp2_with fail
    go_ret
    exact ⟨by rw [HR.out]; rfl, HB.out.trans (B.mono HB.out.size)⟩
end Go.Proofs.YtlomhoohmcnniaaDoor
