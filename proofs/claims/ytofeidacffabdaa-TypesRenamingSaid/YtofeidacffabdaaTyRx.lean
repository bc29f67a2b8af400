/-
  The reference's Index. Condition: the unit's names lie in memory.
-/
import Derived.Test.YtofeidacffabdaaTyId
import Derived.Test.YtofeidacffabdaaTyV
namespace Go.Proofs.Ytofeidacffabdaa
open Go Go.RowKit Go.Proofs Go.Shelf
attribute [local go_sem] Oper.semAt_some

set_option maxHeartbeats 4000000 in
theorem refIndex_any (W : World) (hi : Nat) (Ax Ay Az : Option Addr) (mx cx my cy mz cz : Nat) (dur vol : List ByteArray) (s : ByteArray) (h1 : Sts hi W Ax mx dur) (h2 : Sts hi W Ay my vol) (hl : mx + my ≤ 100000) (hh : hi ≤ W.heap.size) :
    Calls Try.prog 26 #[.agg #[.slice Ax mx cx, .slice Ay my cy, .slice Az mz cz], .string s] W fun e w' => e = .returned (.int .i64 (TY.idx (dur ++ vol) s)) ∧ Below W.heap.size W w' := by
  obtain ⟨W1, hW1⟩ : ∃ U, W.alloc (.cells #[.slice Ax mx cx, .slice Ay my cy, .slice Az mz cz] 35) = U := ⟨_, rfl⟩
  have b1 : Below W.heap.size W W1 := by rw [← hW1]; exact (Below.refl _ _).alloc (Nat.le_refl _) _
  have hU : W1.heap[W.heap.size]? = some (.cells #[.slice Ax mx cx, .slice Ay my cy, .slice Az mz cz] 35 (0, 0)) := by rw [← hW1]; exact World.alloc_heap_new W _
  have q0 : W1.cell? ⟨W.heap.size, 0, none⟩ = some (.slice Ax mx cx) := cell_of_row W1 _ 0 _ _ (0, 0) hU
  have q1 : W1.cell? ⟨W.heap.size, 1, none⟩ = some (.slice Ay my cy) := cell_of_row W1 _ 1 _ _ (0, 0) hU
  have S1 := Lib.hid (h1.below (b1.mono hh))
  have S2 := Lib.hid (h2.below (b1.mono hh))
  have HW1 := Lib.hid hW1
  have HB1 := Lib.hid b1
  clear hW1 b1 hU h1 h2
  go_enter Try.func26, Try.ntmps26
  go_wp2_with fail
  rw [HW1.out]
  go_loopw [5] (fun i V => ∃ j : Nat, j ≤ mx ∧ i = .int .i64 (j : Int) ∧ Hid (TY.inL (dur.take j) s = false) ∧ V = W1) (fun i _ => mx - (intOf i).toNat)
  case atStart => exact ⟨0, by omega, rfl, (show TY.inL (dur.take 0) s = false from rfl), rfl⟩
  case round =>
    obtain ⟨j, hj, rfl, hT, rfl⟩ := hrel
    by_cases hjm : j < mx
    · obtain ⟨x, hx⟩ : ∃ t, dur[j]? = some t := ⟨dur[j]'(by rw [S1.out.1]; exact hjm), List.getElem?_eq_getElem (by rw [S1.out.1]; exact hjm)⟩
      obtain ⟨b, off, rfl, hb, hcx⟩ := S1.out.2 (by omega)
      have ex := hcx j hjm
      rw [hx] at ex
      simp only [Option.getD_some] at ex
      by_cases hxs : x = s
      · subst hxs
        have HY := Lib.hid (idx_at (l := dur ++ vol) (j := j) (s := x) (by rw [List.getElem?_append_left (by rw [S1.out.1]; exact hjm)]; exact hx) (by rw [List.take_append_of_le_length (by rw [S1.out.1]; omega)]; exact hT.out))
        clear hcx hx
        go_wp2_with fail
        go_ret
        rw [HY.out]
        exact ⟨rfl, HB1.out⟩
      · have HSN := Lib.hid (inL_snoc hx hT.out hxs)
        have e1 : (x.toList == s.toList) = false := by rw [str_eq, decide_eq_false hxs]
        clear hcx hx
        go_wp2_with fail
        go_roundw
        case rel => exact ⟨j + 1, by omega, by go_num, HSN.out, trivial⟩
        case measure => simp [intOf]; omega
    · obtain rfl : j = mx := by omega
      have HD := Lib.hid (show TY.inL dur s = false by
        have := hT.out
        rwa [List.take_of_length_le (by rw [S1.out.1]; exact Nat.le_refl _)] at this)
      obtain ⟨wo, hwo⟩ : ∃ Z, Z = wr := ⟨_, rfl⟩
      subst hwo
      obtain ⟨m, rfl⟩ : ∃ m, m = j := ⟨_, rfl⟩
      clear hT hjm hj
      go_wp2_with fail
      go_loopw [6] (fun i V => ∃ j : Nat, j ≤ my ∧ i = .int .i64 (j : Int) ∧ Hid (TY.inL (vol.take j) s = false) ∧ V = wo) (fun i _ => my - (intOf i).toNat)
      case atStart => exact ⟨0, by omega, rfl, (show TY.inL (vol.take 0) s = false from rfl), rfl⟩
      case round =>
        obtain ⟨j, hj, rfl, hT, rfl⟩ := hrel
        by_cases hjm : j < my
        · obtain ⟨x, hx⟩ : ∃ t, vol[j]? = some t := ⟨vol[j]'(by rw [S2.out.1]; exact hjm), List.getElem?_eq_getElem (by rw [S2.out.1]; exact hjm)⟩
          obtain ⟨b, off, rfl, hb, hcx⟩ := S2.out.2 (by omega)
          have ex := hcx j hjm
          rw [hx] at ex
          simp only [Option.getD_some] at ex
          by_cases hxs : x = s
          · subst hxs
            have HY := Lib.hid (idx_at (l := dur ++ vol) (j := m + j) (s := x) (by rw [List.getElem?_append_right (by rw [S1.out.1]; omega), S1.out.1, Nat.add_sub_cancel_left]; exact hx) (by
              rw [List.take_append, S1.out.1, Nat.add_sub_cancel_left, List.take_of_length_le (by rw [S1.out.1]; omega), TY.inL_append, HD.out, hT.out]
              rfl))
            clear hcx hx
            go_wp2_with fail
            go_ret
            rw [HY.out]
            exact ⟨by simp, HB1.out⟩
          · have HSN := Lib.hid (inL_snoc hx hT.out hxs)
            have e1 : (x.toList == s.toList) = false := by rw [str_eq, decide_eq_false hxs]
            clear hcx hx
            go_wp2_with fail
            go_roundw
            case rel => exact ⟨j + 1, by omega, by go_num, HSN.out, trivial⟩
            case measure => simp [intOf]; omega
        · obtain rfl : j = my := by omega
          have HY := Lib.hid (idx_no (l := dur ++ vol) (s := s) (by
            have := hT.out
            rw [List.take_of_length_le (by rw [S2.out.1]; exact Nat.le_refl _)] at this
            rw [TY.inL_append, HD.out, this]
            rfl))
          go_wp2_with fail
          go_ret
          rw [HY.out]
          exact ⟨rfl, HB1.out⟩
end Go.Proofs.Ytofeidacffabdaa
