/-
  The comparisons of names: cmp.Compare, cmp.Or, compareNumbers. Conditions: none but where the slices lie.
-/
import Derived.Test.YtepbppckhfiplaaBase
import Derived.Test.YtepbppckhfiplaaNmO
import Derived.Deep.RegionHeld3
import Derived.Deep.QuietTactic
import Derived.BigQuiet
namespace Go.Proofs.Ytepbppckhfiplaa
open Go Go.RowKit Go.Proofs
attribute [local go_sem] Oper.semAt_some

set_option maxHeartbeats 1000000 in
theorem cmp_any (a b : Int) (w : World) : Calls Try.prog 38 #[.int .i64 a, .int .i64 b] w fun e w' => e = .returned (.int .i64 (NM.cmpI a b)) ∧ w = w' := by
  by_cases h1 : a < b
  · have e : NM.cmpI a b = -1 := by unfold NM.cmpI; rw [if_pos h1]
    have h2 : decide (a < b) = true := decide_eq_true h1
    rw [e]
    clear e
    go_enter Try.func38, Try.ntmps38
    go_wp2
    go_ret
    exact ⟨rfl, rfl⟩
  · have h2 : decide (a < b) = false := decide_eq_false h1
    by_cases h3 : b < a
    · have e : NM.cmpI a b = 1 := by unfold NM.cmpI; rw [if_neg h1, if_pos h3]
      have h4 : decide (b < a) = true := decide_eq_true h3
      rw [e]
      clear e
      go_enter Try.func38, Try.ntmps38
      go_wp2
      go_ret
      exact ⟨rfl, rfl⟩
    · have e : NM.cmpI a b = 0 := by unfold NM.cmpI; rw [if_neg h1, if_neg h3]
      have h4 : decide (b < a) = false := decide_eq_false h3
      rw [e]
      clear e
      go_enter Try.func38, Try.ntmps38
      go_wp2
      go_ret
      exact ⟨rfl, rfl⟩

set_option maxHeartbeats 2000000 in
/-- cmp.Or of two numbers. -/
theorem or_any (g : Nat) (x y : Int) (w : World) (h0 : w.cell? ⟨g, 0, none⟩ = some (.int .i64 x)) (h1 : w.cell? ⟨g, 1, none⟩ = some (.int .i64 y)) :
    Calls Try.prog 31 #[.slice (some ⟨g, 0, none⟩) 2 2] w fun e w' => e = .returned (.int .i64 (NM.orI x y)) ∧ w = w' := by
  have H0 := Lib.hid h0
  have H1 := Lib.hid h1
  clear h0 h1
  go_enter Try.func31, Try.ntmps31
  go_wp2
  go_loop [8] (fun i => ∃ k : Nat, k ≤ 2 ∧ i = .int .i64 k ∧ (0 < k → x = 0) ∧ (1 < k → y = 0)) (fun i => 2 - (intOf i).toNat)
  case atStart => exact ⟨0, by omega, rfl, fun h => absurd h (by omega), fun h => absurd h (by omega)⟩
  case round =>
    obtain ⟨k, hk, rfl, hx, hy⟩ := hrel
    have hc : k = 0 ∨ k = 1 ∨ k = 2 := by omega
    rcases hc with rfl | rfl | rfl
    · have c0 := H0.out
      clear hx hy
      by_cases hz : x = 0
      · subst hz
        go_wp2
        go_round
        case rel => exact ⟨1, by omega, rfl, by simp, by simp⟩
        case measure => simp [intOf]
      · have hn : (x != 0) = true := by simp [hz]
        have e := Lib.hid (show NM.orI x y = x by unfold NM.orI; rw [if_neg hz])
        clear hz
        go_wp2
        go_ret
        exact ⟨by rw [e.out]; rfl, rfl⟩
    · obtain rfl := hx (by omega)
      have c1 := H1.out
      clear hx hy
      by_cases hz : y = 0
      · subst hz
        go_wp2
        go_round
        case rel => exact ⟨2, by omega, rfl, by simp, by simp⟩
        case measure => simp [intOf]
      · have hn : (y != 0) = true := by simp [hz]
        have e := Lib.hid (show NM.orI 0 y = y by unfold NM.orI; rw [if_pos rfl])
        clear hz
        go_wp2
        go_ret
        exact ⟨by rw [e.out]; rfl, rfl⟩
    · obtain rfl := hx (by omega)
      obtain rfl := hy (by omega)
      clear hx hy
      have e := Lib.hid (show NM.orI 0 0 = 0 from rfl)
      go_wp2
      go_ret
      exact ⟨by rw [e.out]; rfl, rfl⟩

/-- The order of two lists of the same length, whose elements are paired. -/
def prL (l : List (Int × Int)) : Int := NM.lexL (l.map (·.1)) (l.map (·.2))
theorem prL_cons (x : Int × Int) (l : List (Int × Int)) : prL (x :: l) = NM.orI (NM.cmpI x.1 x.2) (prL l) := rfl
theorem prL_drop {l : List (Int × Int)} {k : Nat} {x : Int × Int} (h : l[k]? = some x) : prL (l.drop k) = NM.orI (NM.cmpI x.1 x.2) (prL (l.drop (k + 1))) := by
  obtain ⟨hk, e⟩ := List.getElem?_eq_some_iff.1 h
  rw [List.drop_eq_getElem_cons hk, e, prL_cons]
def PairsAt (w : World) (g : Nat) (l : List (Int × Int)) : Prop := ∀ j x, l[j]? = some x → w.cell? ⟨g, j * 2, none⟩ = some (.int .i64 x.1) ∧ w.cell? ⟨g, j * 2 + 1, none⟩ = some (.int .i64 x.2)
set_option maxRecDepth 100000 in
set_option maxHeartbeats 4000000 in
theorem numbers_any (g n : Nat) (l : List (Int × Int)) (w : World) (hl : l.length = n) (hn : n ≤ 1000) (hg : g < w.heap.size) (h : PairsAt w g l) :
    Calls Try.prog 33 #[.slice (some ⟨g, 0, none⟩) n n] w fun e w' => e = .returned (.int .i64 (prL l)) ∧ Below w.heap.size w w' := by
  have HL := Lib.hid hl
  have HP := Lib.hid h
  clear hl h
  go_enter Try.func33, Try.ntmps33
  go_wp2_with fail
  go_loopw [8] (fun i V => ∃ k : Nat, k ≤ n ∧ i = .int .i64 (k : Int) ∧ Hid (prL l = prL (l.drop k)) ∧ Below w.heap.size w V) (fun i _ => n - (intOf i).toNat)
  case atStart => exact ⟨0, by omega, rfl, rfl, Below.refl _ _⟩
  case round =>
    obtain ⟨k, hk, rfl, hpr, hB⟩ := hrel
    by_cases hlt : k < n
    · obtain ⟨x, hx⟩ : ∃ x, l[k]? = some x := ⟨_, List.getElem?_eq_getElem (by rw [HL.out]; exact hlt)⟩
      obtain ⟨c0, c1⟩ := HP.out k x hx
      have d0 := (hB.cell (p := ⟨g, k * 2, none⟩) hg).trans c0
      have d1 := (hB.cell (p := ⟨g, k * 2 + 1, none⟩) hg).trans c1
      have hstep := prL_drop hx
      obtain ⟨xa, xb⟩ := x
      have d0 : wr.cell? ⟨g, k * 2, none⟩ = some (.int .i64 xa) := d0
      have d1 : wr.cell? ⟨g, k * 2 + 1, none⟩ = some (.int .i64 xb) := d1
      have hstep : prL (l.drop k) = NM.orI (NM.cmpI xa xb) (prL (l.drop (k + 1))) := hstep
      have HC := Lib.hid (fun V => cmp_any xa xb V)
      obtain ⟨c, hc⟩ : ∃ c, NM.cmpI xa xb = c := ⟨_, rfl⟩
      rw [hc] at HC hstep
      have HS := Lib.hid hstep
      have HB2 := Lib.hid (hB.alloc hB.size (.cells #[.int .i64 xa, .int .i64 xb] 62))
      clear hx c0 c1 hstep hc
      by_cases hz : c = 0
      · subst hz
        have HE : Hid (prL l = prL (l.drop (k + 1))) := by
          have := HS.out
          unfold NM.orI at this
          rw [if_pos rfl] at this
          exact hpr.out.trans this
        go_wp2_with (go_at_call 38; refine (HC.out _).mono ?_; rintro e wc ⟨rfl, hwc⟩; have hwc := hwc.symm; subst hwc)
        go_roundw
        case rel => exact ⟨k + 1, by omega, by go_num, HE.out, HB2.out⟩
        case measure => simp [intOf]; omega
      · have hn1 : (c != 0) = true := by simp [hz]
        have HE : Hid (prL l = c) := by
          have := HS.out
          unfold NM.orI at this
          rw [if_neg hz] at this
          exact hpr.out.trans this
        clear hz
        go_wp2_with (go_at_call 38; refine (HC.out _).mono ?_; rintro e wc ⟨rfl, hwc⟩; have hwc := hwc.symm; subst hwc)
        go_ret
        exact ⟨by rw [HE.out]; rfl, HB2.out⟩
    · have HE : Hid (prL l = 0) := by
        have := hpr.out
        rw [List.drop_of_length_le (by rw [HL.out]; omega)] at this
        exact this
      go_wp2_with fail
      go_ret
      exact ⟨by rw [HE.out]; rfl, hB⟩
end Go.Proofs.Ytepbppckhfiplaa
