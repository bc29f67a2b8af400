/-
  Which instructions were run: marked. No condition but the length.
-/
import Derived.Test.YtgdefhlcgmibcaaVmZ
namespace Go.Proofs.Ytgdefhlcgmibcaa
open Go Go.RowKit Go.Proofs
attribute [local go_sem] Oper.semAt_some

set_option maxHeartbeats 1000000 in
set_option maxRecDepth 100000 in
theorem marked_c {w : World} (b n : Nat) (bs : List Bool) (hn : n ≤ 1000) (hl : bs.length = n) (hb : w.heap[b]? = some (.cells (bs.map Value.bool).toArray 4 (0, 0))) :
    Calls Try.prog 71 #[.slice (some ⟨b, 0, none⟩) n n] w fun e w' => (∃ V m c, e = .returned (.slice V m c)) ∧ Below w.heap.size w w' := by
  obtain ⟨i0, hi, hy0, hy1, hy2⟩ := dk_info dk_int
  have HI := Lib.hid (And.intro hi (And.intro hy0 (And.intro hy1 hy2)))
  have HB := Lib.hid hb
  have hlt := blk_lt hb
  clear hi hy0 hy1 hy2 hb
  go_enter Try.func71, Try.ntmps71
  go_wp2_with fail
  go_loopw [3, 8] (fun x i V => ∃ (j m c : Nat) (A : Option Addr) (r : List Int), j ≤ n ∧ i = .int .i64 (j : Int) ∧ x = .slice A m c ∧ m ≤ j ∧ Hid (V.ownsRow w.heap.size 3 1 (.slice A m c) m (DK.intsC r)) ∧ Hid (Below w.heap.size w V)) (fun _ i _ => n - (intOf i).toNat)
  case atStart => exact ⟨0, 0, 0, none, [], by omega, rfl, rfl, by omega, ⟨rfl, .inl ⟨rfl, rfl⟩⟩, Below.refl _ _⟩
  case round =>
    obtain ⟨j, m, c, A, r, hj, rfl, rfl, hm, HO, HW⟩ := hrel
    by_cases hin : j < n
    · have dj : decide (j < n) = true := decide_eq_true hin
      obtain ⟨t, ht⟩ : ∃ t, bs[j]? = some t := ⟨_, List.getElem?_eq_getElem (by omega)⟩
      have hc : wr.cell? ⟨b, j, none⟩ = some (.bool t) := (cell_of_row _ _ j _ _ (0, 0) ((HW.out.block b hlt).trans HB.out)).trans (by simp [ht])
      clear ht
      cases t with
      | true =>
        obtain ⟨Y, hY⟩ : ∃ Y, wr.alloc (.cells #[.int .i64 (j : Int)] 3) = Y := ⟨_, rfl⟩
        have hbY : Below wr.heap.size wr Y := hY ▸ dk_box wr _
        have HS := Lib.hid (show ∀ (i : Nat) (u : Value), [Value.int .i64 (j : Int)][i]? = some u → Y.cell? ((⟨wr.heap.size, 0, none⟩ : Addr).add i) = some u from fun i u hu => by
          match i, hu with
          | 0, hu => injection hu with hu; subst hu; rw [← hY]; exact cell_of_row _ _ 0 _ _ (0, 0) (dk_new_at rfl))
        have H1 := Lib.hid (show ∀ u ∈ [Value.int .i64 (j : Int)], u.oneCell' = true by intro u hu; simp at hu; rw [hu]; rfl)
        have HM := Lib.hid (And.intro (show m + 1 ≤ maxLen by simp only [maxLen]; omega) (show (m + 1) * 8 ≤ 140737488355328 by omega))
        have HA := Lib.hid (And.intro (dk_own_keep HO.out hbY) (And.intro (show w.heap.size ≤ Y.heap.size by have := hbY.size; have := HW.out.size; omega) (HW.out.trans (hbY.mono HW.out.size))))
        clear hbY
        go_wp2_with (at_builtin; refine wpList_append_own_at _ rfl _ _ 22 rfl w.heap.size 3 i0 _ 1 8 Try.underlying22 HI.out.1 HI.out.2.1 HI.out.2.2.1 HI.out.2.2.2 rfl (by decide) _ m (DK.intsC r) rfl HA.out.1 ⟨wr.heap.size, 0, none⟩ 1 1 [.int .i64 (j : Int)] rfl rfl HS.out H1.out HM.out.1 HM.out.2 HA.out.2.1 ?_; intro vv u2 ho2 hg2 _ _; obtain ⟨K2, kc2, rfl⟩ := dk_own_slice ho2; replace hg2 : Y.grownBy u2 (Value.slice A m c).ownBlock := hg2; have HG2 := Lib.hid (And.intro ho2 hg2); clear hg2 ho2)
        have H2 := Lib.hid (And.intro (show u2.ownsRow w.heap.size 3 1 (.slice K2 (m + 1) kc2) (m + 1) (DK.intsC (r ++ [(j : Int)])) by have := HG2.out.1; rw [show DK.intsC (r ++ [(j : Int)]) = DK.intsC r ++ [.int .i64 (j : Int)] by unfold DK.intsC; simp]; exact this) (dk_grown HA.out.1 HA.out.2.2 HG2.out.2 HA.out.2.1))
        go_roundw
        case rel => exact ⟨j + 1, m + 1, kc2, K2, r ++ [(j : Int)], by omega, by go_num, rfl, by omega, H2.out.1, H2.out.2⟩
        case measure => simp [intOf]; omega
      | false =>
        go_wp2_with fail
        go_roundw
        case rel => exact ⟨j + 1, m, c, A, r, by omega, by go_num, rfl, by omega, HO.out, HW.out⟩
        case measure => simp [intOf]; omega
    · have dj : decide (j < n) = false := decide_eq_false hin
      go_wp2_with fail
      go_ret
      exact ⟨⟨_, _, _, rfl⟩, HW.out⟩
end Go.Proofs.Ytgdefhlcgmibcaa
