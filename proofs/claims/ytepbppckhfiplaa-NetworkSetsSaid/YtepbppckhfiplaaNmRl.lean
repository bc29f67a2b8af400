/-
  The reference's order of two lists of the same length.
-/
import Derived.Test.YtepbppckhfiplaaNmDa
import Derived.BigQuiet
namespace Go.Proofs.Ytepbppckhfiplaa
open Go Go.RowKit Go.Proofs
attribute [local go_sem] Oper.semAt_some

theorem lexL_drop {l r : List Int} {k : Nat} {x y : Int} (hx : l[k]? = some x) (hy : r[k]? = some y) : NM.lexL (l.drop k) (r.drop k) = NM.orI (NM.cmpI x y) (NM.lexL (l.drop (k + 1)) (r.drop (k + 1))) := by
  obtain ⟨h1, e1⟩ := List.getElem?_eq_some_iff.1 hx
  obtain ⟨h2, e2⟩ := List.getElem?_eq_some_iff.1 hy
  rw [List.drop_eq_getElem_cons h1, List.drop_eq_getElem_cons h2, e1, e2]
  rfl
set_option maxRecDepth 100000 in
set_option maxHeartbeats 4000000 in
theorem lists_any {g1 g2 n : Nat} {t1 t2 : TypeId} (l r : List Int) (w : World) (hl : w.heap[g1]? = some (.cells (l.map (Value.int .i64)).toArray t1 (0, 0))) (hr : w.heap[g2]? = some (.cells (r.map (Value.int .i64)).toArray t2 (0, 0))) (nl : l.length = n) (nr : r.length = n) (hn : n ≤ 100) :
    Calls Try.prog 39 #[.slice (some ⟨g1, 0, none⟩) n n, .slice (some ⟨g2, 0, none⟩) n n] w fun e w' => e = .returned (.int .i64 (NM.lexL l r)) ∧ Below w.heap.size w w' := by
  have H1 := Lib.hid hl
  have H2 := Lib.hid hr
  have N1 := Lib.hid nl
  have N2 := Lib.hid nr
  clear hl hr nl nr
  go_enter Try.func39, Try.ntmps39
  go_wp2_with fail
  go_loopw [5] (fun i V => ∃ k : Nat, k ≤ n ∧ i = .int .i64 (k : Int) ∧ Hid (NM.lexL l r = NM.lexL (l.drop k) (r.drop k)) ∧ Below w.heap.size w V) (fun i _ => n - (intOf i).toNat)
  case atStart => exact ⟨0, by omega, rfl, by show NM.lexL l r = NM.lexL (l.drop 0) (r.drop 0); rfl, Below.refl _ _⟩
  case round =>
    obtain ⟨k, hk, rfl, HE, hB⟩ := hrel
    have HB := Lib.hid hB
    clear hB
    by_cases hlt : k < n
    · obtain ⟨x, hx⟩ : ∃ x, l[k]? = some x := ⟨_, List.getElem?_eq_getElem (by rw [N1.out]; exact hlt)⟩
      obtain ⟨y, hy⟩ : ∃ y, r[k]? = some y := ⟨_, List.getElem?_eq_getElem (by rw [N2.out]; exact hlt)⟩
      have c1 : wr.cell? ⟨g1, k, none⟩ = some (.int .i64 x) := by
        have h := (HB.out.cell (p := ⟨g1, k, none⟩) (heap_lt H1.out)).trans (cell_of_row w g1 k _ _ (0, 0) H1.out)
        rw [List.getElem?_toArray, List.getElem?_map, hx] at h
        exact h
      have c2 : wr.cell? ⟨g2, k, none⟩ = some (.int .i64 y) := by
        have h := (HB.out.cell (p := ⟨g2, k, none⟩) (heap_lt H2.out)).trans (cell_of_row w g2 k _ _ (0, 0) H2.out)
        rw [List.getElem?_toArray, List.getElem?_map, hy] at h
        exact h
      have HD := Lib.hid (HE.out.trans (lexL_drop hx hy))
      clear hx hy HE
      by_cases hxy : x < y
      · have HR := Lib.hid (show NM.lexL l r = -1 by rw [HD.out]; unfold NM.cmpI NM.orI; rw [if_pos hxy, if_neg (by decide)])
        have d1 : decide (x < y) = true := decide_eq_true hxy
        clear HD
        go_wp2_with (go_quiet (fail))
        go_ret
        exact ⟨by rw [HR.out]; rfl, HB.out.trans ((drewN_below wr _).mono HB.out.size)⟩
      · have d1 : decide (x < y) = false := decide_eq_false hxy
        by_cases hyx : y < x
        · have HR := Lib.hid (show NM.lexL l r = 1 by rw [HD.out]; unfold NM.cmpI NM.orI; rw [if_neg hxy, if_pos hyx, if_neg (by decide)])
          have d2 : decide (x > y) = true := decide_eq_true hyx
          clear HD
          go_wp2_with (go_quiet (fail))
          go_ret
          exact ⟨by rw [HR.out]; rfl, HB.out.trans ((drewN_below wr _).mono HB.out.size)⟩
        · have HR := Lib.hid (show NM.lexL l r = NM.lexL (l.drop (k + 1)) (r.drop (k + 1)) by rw [HD.out]; unfold NM.cmpI NM.orI; rw [if_neg hxy, if_neg hyx, if_pos rfl])
          have d2 : decide (x > y) = false := decide_eq_false hyx
          clear HD
          go_wp2_with (go_quiet (fail))
          go_roundw
          case rel => exact ⟨k + 1, by omega, by go_num, HR, HB.out.trans ((drewN_below wr _).mono HB.out.size)⟩
          case measure => simp [intOf]; omega
    · obtain rfl : k = n := by omega
      have HR := Lib.hid (show NM.lexL l r = 0 by rw [HE.out, List.drop_eq_nil_of_le (by rw [N1.out]; exact Nat.le_refl _), List.drop_eq_nil_of_le (by rw [N2.out]; exact Nat.le_refl _)]; rfl)
      clear HE
      go_wp2_with fail
      go_ret
      exact ⟨by rw [HR.out]; rfl, HB.out⟩
end Go.Proofs.Ytepbppckhfiplaa
