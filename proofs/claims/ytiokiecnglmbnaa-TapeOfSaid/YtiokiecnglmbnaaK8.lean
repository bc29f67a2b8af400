/-
  The comparisons of names: cmp.Compare, cmp.Or, compareNumbers. Conditions: none but where the slices lie.
  The reference's generators of events and questions. Condition: the numbers are Go's.
-/
import Derived.Test.YtiokiecnglmbnaaK3
import Derived.Test.YtiokiecnglmbnaaK6
import Derived.Deep.RegionHeld3
import Derived.Deep.QuietTactic
import Derived.BigQuiet
import Derived.Test.YtiokiecnglmbnaaK4

namespace Go.Proofs.Ytiokiecnglmbnaa
open Go Go.RowKit Go.Proofs
attribute [local go_sem] Oper.semAt_some

set_option maxHeartbeats 1000000 in
theorem cmp_any (a b : Int) (w : World) : Calls Try.prog 87 #[.int .i64 a, .int .i64 b] w fun e w' => e = .returned (.int .i64 (NM.cmpI a b)) ∧ w = w' := by
  by_cases h1 : a < b
  · have e : NM.cmpI a b = -1 := by unfold NM.cmpI; rw [if_pos h1]
    have h2 : decide (a < b) = true := decide_eq_true h1
    rw [e]
    clear e
    go_enter Try.func87, Try.ntmps87
    go_wp2
    go_ret
    exact ⟨rfl, rfl⟩
  · have h2 : decide (a < b) = false := decide_eq_false h1
    by_cases h3 : b < a
    · have e : NM.cmpI a b = 1 := by unfold NM.cmpI; rw [if_neg h1, if_pos h3]
      have h4 : decide (b < a) = true := decide_eq_true h3
      rw [e]
      clear e
      go_enter Try.func87, Try.ntmps87
      go_wp2
      go_ret
      exact ⟨rfl, rfl⟩
    · have e : NM.cmpI a b = 0 := by unfold NM.cmpI; rw [if_neg h1, if_neg h3]
      have h4 : decide (b < a) = false := decide_eq_false h3
      rw [e]
      clear e
      go_enter Try.func87, Try.ntmps87
      go_wp2
      go_ret
      exact ⟨rfl, rfl⟩

set_option maxHeartbeats 2000000 in
/-- cmp.Or of two numbers. -/
theorem or_any (g : Nat) (x y : Int) (w : World) (h0 : w.cell? ⟨g, 0, none⟩ = some (.int .i64 x)) (h1 : w.cell? ⟨g, 1, none⟩ = some (.int .i64 y)) :
    Calls Try.prog 63 #[.slice (some ⟨g, 0, none⟩) 2 2] w fun e w' => e = .returned (.int .i64 (NM.orI x y)) ∧ w = w' := by
  have H0 := Lib.hid h0
  have H1 := Lib.hid h1
  clear h0 h1
  go_enter Try.func63, Try.ntmps63
  go_wp2
  go_loop [8] (fun i => ∃ k : Nat, k ≤ 2 ∧ i = .int .i64 k ∧ (0 < k → x = 0) ∧ (1 < k → y = 0)) (fun i => 2 - (intOf i).toNat)
  case atStart => exact ⟨0, by omega, rfl, fun h => absurd h (by omega), fun h => absurd h (by omega)⟩
  case round =>
    obtain ⟨k, hk, rfl, hx, hy⟩ := hrel
    have hc : k = 0 ∨ k = 1 ∨ k = 2 := by omega
    rcases hc with rfl | rfl | rfl
    · have c0 := H0.out
      clear hx hy
      by_cases hz : x = 0
      · subst hz
        go_wp2
        go_round
        case rel => exact ⟨1, by omega, rfl, by simp, by simp⟩
        case measure => simp [intOf]
      · have hn : (x != 0) = true := by simp [hz]
        have e := Lib.hid (show NM.orI x y = x by unfold NM.orI; rw [if_neg hz])
        clear hz
        go_wp2
        go_ret
        exact ⟨by rw [e.out]; rfl, rfl⟩
    · obtain rfl := hx (by omega)
      have c1 := H1.out
      clear hx hy
      by_cases hz : y = 0
      · subst hz
        go_wp2
        go_round
        case rel => exact ⟨2, by omega, rfl, by simp, by simp⟩
        case measure => simp [intOf]
      · have hn : (y != 0) = true := by simp [hz]
        have e := Lib.hid (show NM.orI 0 y = y by unfold NM.orI; rw [if_pos rfl])
        clear hz
        go_wp2
        go_ret
        exact ⟨by rw [e.out]; rfl, rfl⟩
    · obtain rfl := hx (by omega)
      obtain rfl := hy (by omega)
      clear hx hy
      have e := Lib.hid (show NM.orI 0 0 = 0 from rfl)
      go_wp2
      go_ret
      exact ⟨by rw [e.out]; rfl, rfl⟩

/-- The order of two lists of the same length, whose elements are paired. -/
def prL (l : List (Int × Int)) : Int := NM.lexL (l.map (·.1)) (l.map (·.2))
theorem prL_cons (x : Int × Int) (l : List (Int × Int)) : prL (x :: l) = NM.orI (NM.cmpI x.1 x.2) (prL l) := rfl
theorem prL_drop {l : List (Int × Int)} {k : Nat} {x : Int × Int} (h : l[k]? = some x) : prL (l.drop k) = NM.orI (NM.cmpI x.1 x.2) (prL (l.drop (k + 1))) := by
  obtain ⟨hk, e⟩ := List.getElem?_eq_some_iff.1 h
  rw [List.drop_eq_getElem_cons hk, e, prL_cons]
def PairsAt (w : World) (g : Nat) (l : List (Int × Int)) : Prop := ∀ j x, l[j]? = some x → w.cell? ⟨g, j * 2, none⟩ = some (.int .i64 x.1) ∧ w.cell? ⟨g, j * 2 + 1, none⟩ = some (.int .i64 x.2)
set_option maxRecDepth 100000 in
set_option maxHeartbeats 4000000 in
theorem numbers_any (g n : Nat) (l : List (Int × Int)) (w : World) (hl : l.length = n) (hn : n ≤ 1000) (hg : g < w.heap.size) (h : PairsAt w g l) :
    Calls Try.prog 65 #[.slice (some ⟨g, 0, none⟩) n n] w fun e w' => e = .returned (.int .i64 (prL l)) ∧ Below w.heap.size w w' := by
  have HL := Lib.hid hl
  have HP := Lib.hid h
  clear hl h
  go_enter Try.func65, Try.ntmps65
  go_wp2_with fail
  go_loopw [8] (fun i V => ∃ k : Nat, k ≤ n ∧ i = .int .i64 (k : Int) ∧ Hid (prL l = prL (l.drop k)) ∧ Below w.heap.size w V) (fun i _ => n - (intOf i).toNat)
  case atStart => exact ⟨0, by omega, rfl, rfl, Below.refl _ _⟩
  case round =>
    obtain ⟨k, hk, rfl, hpr, hB⟩ := hrel
    by_cases hlt : k < n
    · obtain ⟨x, hx⟩ : ∃ x, l[k]? = some x := ⟨_, List.getElem?_eq_getElem (by rw [HL.out]; exact hlt)⟩
      obtain ⟨c0, c1⟩ := HP.out k x hx
      have d0 := (hB.cell (p := ⟨g, k * 2, none⟩) hg).trans c0
      have d1 := (hB.cell (p := ⟨g, k * 2 + 1, none⟩) hg).trans c1
      have hstep := prL_drop hx
      obtain ⟨xa, xb⟩ := x
      have d0 : wr.cell? ⟨g, k * 2, none⟩ = some (.int .i64 xa) := d0
      have d1 : wr.cell? ⟨g, k * 2 + 1, none⟩ = some (.int .i64 xb) := d1
      have hstep : prL (l.drop k) = NM.orI (NM.cmpI xa xb) (prL (l.drop (k + 1))) := hstep
      have HC := Lib.hid (fun V => cmp_any xa xb V)
      obtain ⟨c, hc⟩ : ∃ c, NM.cmpI xa xb = c := ⟨_, rfl⟩
      rw [hc] at HC hstep
      have HS := Lib.hid hstep
      have HB2 := Lib.hid (hB.alloc hB.size (.cells #[.int .i64 xa, .int .i64 xb] 113))
      clear hx c0 c1 hstep hc
      by_cases hz : c = 0
      · subst hz
        have HE : Hid (prL l = prL (l.drop (k + 1))) := by
          have := HS.out
          unfold NM.orI at this
          rw [if_pos rfl] at this
          exact hpr.out.trans this
        go_wp2_with (go_at_call 87; refine (HC.out _).mono ?_; rintro e wc ⟨rfl, hwc⟩; have hwc := hwc.symm; subst hwc)
        go_roundw
        case rel => exact ⟨k + 1, by omega, by go_num, HE.out, HB2.out⟩
        case measure => simp [intOf]; omega
      · have hn1 : (c != 0) = true := by simp [hz]
        have HE : Hid (prL l = c) := by
          have := HS.out
          unfold NM.orI at this
          rw [if_neg hz] at this
          exact hpr.out.trans this
        clear hz
        go_wp2_with (go_at_call 87; refine (HC.out _).mono ?_; rintro e wc ⟨rfl, hwc⟩; have hwc := hwc.symm; subst hwc)
        go_ret
        exact ⟨by rw [HE.out]; rfl, HB2.out⟩
    · have HE : Hid (prL l = 0) := by
        have := hpr.out
        rw [List.drop_of_length_le (by rw [HL.out]; omega)] at this
        exact this
      go_wp2_with fail
      go_ret
      exact ⟨by rw [HE.out]; rfl, hB⟩
end Go.Proofs.Ytiokiecnglmbnaa

namespace Go.Proofs.Ytiokiecnglmbnaa
open Go Go.RowKit Go.Proofs
attribute [local go_sem] Oper.semAt_some

theorem row8K {V : World} {g : Nat} {t : TypeId} {x0 x1 x2 x3 x4 x5 x6 x7 : Value} (h : V.heap[g]? = some (.cells #[x0, x1, x2, x3, x4, x5, x6, x7] t (0, 0))) : V.cell? ⟨g, 0, none⟩ = some x0 ∧ V.cell? ⟨g, 1, none⟩ = some x1 ∧ V.cell? ⟨g, 2, none⟩ = some x2 ∧ V.cell? ⟨g, 3, none⟩ = some x3 ∧ V.cell? ⟨g, 4, none⟩ = some x4 ∧ V.cell? ⟨g, 5, none⟩ = some x5 ∧ V.cell? ⟨g, 6, none⟩ = some x6 ∧ V.cell? ⟨g, 7, none⟩ = some x7 :=
  ⟨cell_of_row _ _ 0 _ _ (0, 0) h, cell_of_row _ _ 1 _ _ (0, 0) h, cell_of_row _ _ 2 _ _ (0, 0) h, cell_of_row _ _ 3 _ _ (0, 0) h, cell_of_row _ _ 4 _ _ (0, 0) h, cell_of_row _ _ 5 _ _ (0, 0) h, cell_of_row _ _ 6 _ _ (0, 0) h, cell_of_row _ _ 7 _ _ (0, 0) h⟩
theorem frozK {V : World} {g : Nat} {C : Array Value} {t : TypeId} (h : V.heap[g]? = some (.cells C t (0, 0))) (j : Nat) : V.frozen? ⟨g, j, none⟩ = false := by simp [World.frozen?, h]
theorem set8K {V : World} {g : Nat} {t : TypeId} {x0 x1 x2 x3 x4 x5 x6 x7 : Value} (h : V.heap[g]? = some (.cells #[x0, x1, x2, x3, x4, x5, x6, x7] t (0, 0))) (n0 n1 n2 n3 n4 n5 n6 n7 : Int) :
    ((((((((V.setCell ⟨g, 0, none⟩ (.int .i64 n0)).setCell ⟨g, 1, none⟩ (.int .i64 n1)).setCell ⟨g, 2, none⟩ (.int .i64 n2)).setCell ⟨g, 3, none⟩ (.int .i64 n3)).setCell ⟨g, 4, none⟩ (.int .i64 n4)).setCell ⟨g, 5, none⟩ (.int .i64 n5)).setCell ⟨g, 6, none⟩ (.int .i64 n6)).setCell ⟨g, 7, none⟩ (.int .i64 n7)).heap[g]? = some (.cells #[.int .i64 n0, .int .i64 n1, .int .i64 n2, .int .i64 n3, .int .i64 n4, .int .i64 n5, .int .i64 n6, .int .i64 n7] t (0, 0)) ∧ Below g V ((((((((V.setCell ⟨g, 0, none⟩ (.int .i64 n0)).setCell ⟨g, 1, none⟩ (.int .i64 n1)).setCell ⟨g, 2, none⟩ (.int .i64 n2)).setCell ⟨g, 3, none⟩ (.int .i64 n3)).setCell ⟨g, 4, none⟩ (.int .i64 n4)).setCell ⟨g, 5, none⟩ (.int .i64 n5)).setCell ⟨g, 6, none⟩ (.int .i64 n6)).setCell ⟨g, 7, none⟩ (.int .i64 n7)) := by
  refine ⟨?_, (((((((Below.refl g V).setCell (Nat.le_refl _) _).setCell (Nat.le_refl _) _).setCell (Nat.le_refl _) _).setCell (Nat.le_refl _) _).setCell (Nat.le_refl _) _).setCell (Nat.le_refl _) _).setCell (Nat.le_refl _) _ |>.setCell (Nat.le_refl _) _⟩
  simp only [World.setCell, Array.getElem?_modify]
  simp [h]
theorem arI_i64 {n m : Int} (hm : 0 < m) (hm2 : m ≤ 1099511627776) : I64 (NM.arI n m) := by
  have := NM.arI_in n m hm
  unfold I64
  omega
set_option maxHeartbeats 2000000 in
theorem small_any (n : Int) (hn : I64 n) (w : World) : Calls Try.prog 68 #[.int .i64 n] w fun e w' => e = .returned (.int .i64 (NM.smallN n)) ∧ w = w' := by
  have HA := Lib.hid (around_any n 1000000 hn (by omega) (by omega) w)
  have hk := NM.arI_in n 1000000 (by omega)
  obtain ⟨k, hkk⟩ : ∃ k, NM.arI n 1000000 = k := ⟨_, rfl⟩
  have hkk' : around n 1000000 = k := hkk
  have hs : NM.smallN n = NM.smallK k := by unfold NM.smallN; rw [hkk]
  rw [hs]
  rw [hkk'] at HA
  rw [hkk] at hk
  obtain ⟨k0, k1⟩ := hk
  clear hs hkk hkk' hn
  by_cases h : k % 40 = 39
  · have HS := Lib.hid (show NM.smallK k = 2147483647 - k / 40 % 2 by unfold NM.smallK; rw [if_pos h])
    have hb : (k % 40 == 39) = true := by simp [h]
    clear h
    go_enter Try.func68, Try.ntmps68
    go_wp2_with (go_at_call 35; refine HA.out.mono ?_; rintro e w1 ⟨rfl, rfl⟩)
    go_ret
    exact ⟨by rw [HS.out]; rfl, rfl⟩
  · have HS := Lib.hid (show NM.smallK k = k / 40 % 4 by unfold NM.smallK; rw [if_neg h])
    have hb : (k % 40 == 39) = false := by simp [h]
    clear h
    go_enter Try.func68, Try.ntmps68
    go_wp2_with (go_at_call 35; refine HA.out.mono ?_; rintro e w1 ⟨rfl, rfl⟩)
    go_ret
    exact ⟨by rw [HS.out]; rfl, rfl⟩
set_option maxHeartbeats 4000000 in
set_option maxRecDepth 100000 in
theorem causeOf_any (n : Int) (hn : I64 n) (w : World) : Calls Try.prog 69 #[.int .i64 n] w fun e w' => e = .returned (.agg #[.int .i64 (NM.arI n 1000000000 % 12), .int .i64 (NM.arI n 1000000000 / 12 % 40), .int .i64 (NM.smallN (NM.arI n 1000000000 / 480))]) ∧ Below w.heap.size w w' := by
  have HA := Lib.hid (fun V => around_any n 1000000000 hn (by omega) (by omega) V)
  have hk := NM.arI_in n 1000000000 (by omega)
  obtain ⟨k, hkk⟩ : ∃ k, NM.arI n 1000000000 = k := ⟨_, rfl⟩
  have hkk' : around n 1000000000 = k := hkk
  rw [hkk]
  rw [hkk'] at HA
  rw [hkk] at hk
  obtain ⟨k0, k1⟩ := hk
  have HS := Lib.hid (fun V => small_any (k / 480) (by unfold I64; omega) V)
  clear hkk hkk' hn
  obtain ⟨s, hs⟩ : ∃ s, NM.smallN (k / 480) = s := ⟨_, rfl⟩
  rw [hs] at HS ⊢
  clear hs
  go_enter Try.func69, Try.ntmps69
  go_wp2_with (first
    | (go_at_call 35; (with_reducible refine (HA.out _).mono ?_); rintro e w1 ⟨rfl, rfl⟩)
    | (go_at_call 68; (with_reducible refine (HS.out _).mono ?_); rintro e w2 ⟨rfl, rfl⟩))
  exact bodyPost_ret (v := .agg #[.int .i64 (k % 12), .int .i64 (k / 12 % 40), .int .i64 s]) (by simp [results, Try.results69, go_sem]) rfl ⟨rfl, one_box _ _⟩
theorem cell_set {V : World} {g j : Nat} {C : Array Value} {t : TypeId} {u : Value} (h : V.heap[g]? = some (.cells C t (0, 0))) : (V.setCell ⟨g, j, none⟩ u).heap[g]? = some (.cells (C.setIfInBounds j u) t (0, 0)) := by
  simp only [World.setCell, Array.getElem?_modify]
  simp [h]
theorem other_set {V : World} {g b j : Nat} {u : Value} (h : ¬ g = b) : (V.setCell ⟨g, j, none⟩ u).heap[b]? = V.heap[b]? := by
  simp only [World.setCell, Array.getElem?_modify]
  rw [if_neg h]
theorem setMsg {V : World} {g : Nat} {t : TypeId} {x0 x1 x2 x3 x4 x5 x6 x7 : Value} (h : V.heap[g]? = some (.cells #[x0, x1, x2, x3, x4, x5, x6, x7] t (0, 0))) (n3 n4 n5 n6 n7 : Int) :
    (((((V.setCell ⟨g, 3, none⟩ (.int .i64 n3)).setCell ⟨g, 4, none⟩ (.int .i64 n4)).setCell ⟨g, 5, none⟩ (.int .i64 n5)).setCell ⟨g, 6, none⟩ (.int .i64 n6)).setCell ⟨g, 7, none⟩ (.int .i64 n7)).heap[g]? = some (.cells #[x0, x1, x2, .int .i64 n3, .int .i64 n4, .int .i64 n5, .int .i64 n6, .int .i64 n7] t (0, 0)) ∧ Below g V (((((V.setCell ⟨g, 3, none⟩ (.int .i64 n3)).setCell ⟨g, 4, none⟩ (.int .i64 n4)).setCell ⟨g, 5, none⟩ (.int .i64 n5)).setCell ⟨g, 6, none⟩ (.int .i64 n6)).setCell ⟨g, 7, none⟩ (.int .i64 n7)) ∧ ∀ b, b ≠ g → (((((V.setCell ⟨g, 3, none⟩ (.int .i64 n3)).setCell ⟨g, 4, none⟩ (.int .i64 n4)).setCell ⟨g, 5, none⟩ (.int .i64 n5)).setCell ⟨g, 6, none⟩ (.int .i64 n6)).setCell ⟨g, 7, none⟩ (.int .i64 n7)).heap[b]? = V.heap[b]? := by
  refine ⟨cell_set (cell_set (cell_set (cell_set (cell_set h)))), (((((Below.refl g V).setCell (Nat.le_refl _) _).setCell (Nat.le_refl _) _).setCell (Nat.le_refl _) _).setCell (Nat.le_refl _) _).setCell (Nat.le_refl _) _, fun b hb => ?_⟩
  have hgb : ¬ g = b := fun e => hb e.symm
  rw [other_set hgb, other_set hgb, other_set hgb, other_set hgb, other_set hgb]
end Go.Proofs.Ytiokiecnglmbnaa
