/-
  The reference's order of two lists of the same length, whose slices may have spare room; the reference's key of a question.
-/
import Derived.Test.YtggallpnbbidfaaGreatDoorNmRl
import Derived.BigQuiet
namespace Go.Proofs.YtggallpnbbidfaaGreatDoor
open Go Go.RowKit Go.Proofs
attribute [local go_sem] Oper.semAt_some

set_option maxRecDepth 100000 in
set_option maxHeartbeats 4000000 in
theorem lists_spare {g1 g2 n m1 m2 : Nat} (l r : List Int) (w : World) (hl : g1 < w.heap.size ∧ ∀ j x, l[j]? = some x → w.cell? ⟨g1, j, none⟩ = some (.int .i64 x)) (hr : g2 < w.heap.size ∧ ∀ j x, r[j]? = some x → w.cell? ⟨g2, j, none⟩ = some (.int .i64 x)) (nl : l.length = n) (nr : r.length = n) (hn : n ≤ 100) :
    Calls Tryz.prog 25 #[.slice (some ⟨g1, 0, none⟩) n m1, .slice (some ⟨g2, 0, none⟩) n m2] w fun e w' => e = .returned (.int .i64 (NM.lexL l r)) ∧ Below w.heap.size w w' := by
  have H1 := Lib.hid hl
  have H2 := Lib.hid hr
  have N1 := Lib.hid nl
  have N2 := Lib.hid nr
  clear hl hr nl nr
  go_enter Tryz.func25, Tryz.ntmps25
  go_wp2_with fail
  go_loopw [5] (fun i V => ∃ k : Nat, k ≤ n ∧ i = .int .i64 (k : Int) ∧ Hid (NM.lexL l r = NM.lexL (l.drop k) (r.drop k)) ∧ Below w.heap.size w V) (fun i _ => n - (intOf i).toNat)
  case atStart => exact ⟨0, by omega, rfl, by show NM.lexL l r = NM.lexL (l.drop 0) (r.drop 0); rfl, Below.refl _ _⟩
  case round =>
    obtain ⟨k, hk, rfl, HE, hB⟩ := hrel
    have HB := Lib.hid hB
    clear hB
    by_cases hlt : k < n
    · obtain ⟨x, hx⟩ : ∃ x, l[k]? = some x := ⟨_, List.getElem?_eq_getElem (by rw [N1.out]; exact hlt)⟩
      obtain ⟨y, hy⟩ : ∃ y, r[k]? = some y := ⟨_, List.getElem?_eq_getElem (by rw [N2.out]; exact hlt)⟩
      have c1 : wr.cell? ⟨g1, k, none⟩ = some (.int .i64 x) := (HB.out.cell (p := ⟨g1, k, none⟩) H1.out.1).trans (H1.out.2 k x hx)
      have c2 : wr.cell? ⟨g2, k, none⟩ = some (.int .i64 y) := (HB.out.cell (p := ⟨g2, k, none⟩) H2.out.1).trans (H2.out.2 k y hy)
      have HD := Lib.hid (HE.out.trans (lexL_drop hx hy))
      clear hx hy HE
      by_cases hxy : x < y
      · have HR := Lib.hid (show NM.lexL l r = -1 by rw [HD.out]; unfold NM.cmpI NM.orI; rw [if_pos hxy, if_neg (by decide)])
        have d1 : decide (x < y) = true := decide_eq_true hxy
        clear HD
        go_wp2_with (go_quiet (fail))
        go_ret
        exact ⟨by rw [HR.out]; rfl, HB.out.trans ((drewN_below wr _).mono HB.out.size)⟩
      · have d1 : decide (x < y) = false := decide_eq_false hxy
        by_cases hyx : y < x
        · have HR := Lib.hid (show NM.lexL l r = 1 by rw [HD.out]; unfold NM.cmpI NM.orI; rw [if_neg hxy, if_pos hyx, if_neg (by decide)])
          have d2 : decide (x > y) = true := decide_eq_true hyx
          clear HD
          go_wp2_with (go_quiet (fail))
          go_ret
          exact ⟨by rw [HR.out]; rfl, HB.out.trans ((drewN_below wr _).mono HB.out.size)⟩
        · have HR := Lib.hid (show NM.lexL l r = NM.lexL (l.drop (k + 1)) (r.drop (k + 1)) by rw [HD.out]; unfold NM.cmpI NM.orI; rw [if_neg hxy, if_neg hyx, if_pos rfl])
          have d2 : decide (x > y) = false := decide_eq_false hyx
          clear HD
          go_wp2_with (go_quiet (fail))
          go_roundw
          case rel => exact ⟨k + 1, by omega, by go_num, HR, HB.out.trans ((drewN_below wr _).mono HB.out.size)⟩
          case measure => simp [intOf]; omega
    · obtain rfl : k = n := by omega
      have HR := Lib.hid (show NM.lexL l r = 0 by rw [HE.out, List.drop_eq_nil_of_le (by rw [N1.out]; exact Nat.le_refl _), List.drop_eq_nil_of_le (by rw [N2.out]; exact Nat.le_refl _)]; rfl)
      clear HE
      go_wp2_with fail
      go_ret
      exact ⟨by rw [HR.out]; rfl, HB.out⟩
theorem queKey_any (c h t k i : Int) (w : World) : Calls Tryz.prog 52 #[.agg #[.int .i64 c, .int .i64 h, .int .i64 t, .int .i64 k, .int .i64 i]] w fun e w' => (∃ g, e = .returned (.slice (some ⟨g, 0, none⟩) 5 5) ∧ w'.heap[g]? = some (.cells #[.int .i64 c, .int .i64 h, .int .i64 t, .int .i64 k, .int .i64 i] 3 (0, 0))) ∧ Below w.heap.size w w' := by
  obtain ⟨U, hU⟩ : ∃ U, w.alloc (.cells #[.int .i64 c, .int .i64 h, .int .i64 t, .int .i64 k, .int .i64 i] 36) = U := ⟨_, rfl⟩
  have hb : Below w.heap.size w U := hU ▸ one_box w _
  have k1 : U.heap[w.heap.size]? = some (.cells #[.int .i64 c, .int .i64 h, .int .i64 t, .int .i64 k, .int .i64 i] 36 (0, 0)) := by rw [← hU]; exact new_at rfl
  obtain ⟨a0, a1, a2, a3, a4⟩ := row5 k1
  have HB := Lib.hid hb
  clear k1 hb
  go_enter Tryz.func52, Tryz.ntmps52
  go_wp2_with fail
  go_ret
  exact ⟨⟨U.heap.size, rfl, new_at rfl⟩, HB.out.trans ((one_box U _).mono HB.out.size)⟩
end Go.Proofs.YtggallpnbbidfaaGreatDoor
