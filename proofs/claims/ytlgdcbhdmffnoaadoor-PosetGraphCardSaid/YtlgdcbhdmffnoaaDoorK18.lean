/-
  The contract of the reference model's Has: whether a list holds a number. Condition: the slice holds integers.
-/
import Derived.Test.YtlgdcbhdmffnoaaDoorK2

namespace Go.Proofs.YtlgdcbhdmffnoaaDoor
open Go Go.RowKit

set_option maxHeartbeats 1000000 in
theorem refHas_any (A : Option Addr) (n c : Nat) (xs : List Int) (z : Int) (w : World) (hx : Ints .i64 w.heap.size w A n xs) (hn : n ≤ 1000000) :
    Calls Tryd.prog 38 #[.slice A n c, .int .i64 z] w fun e w' => e = .returned (.bool (decide (z ∈ xs))) ∧ w' = w := by
  have hlx := Lib.hid hx.len
  go_enter Tryd.func38, Tryd.ntmps38
  go_wp2
  go_loopw [5] (fun i wr => ∃ k : Nat, k ≤ n ∧ i = .int .i64 k ∧ Hid (z ∉ xs.take k) ∧ wr = w) (fun i _ => n - (intOf i).toNat)
  case atStart => exact ⟨0, Nat.zero_le _, rfl, (show z ∉ xs.take 0 by simp), rfl⟩
  case round =>
    obtain ⟨k, hk, rfl, hT, rfl⟩ := hrel
    by_cases hlt : k < n
    · obtain ⟨b, off, rfl, hb, hc⟩ := hx.at_ (by omega)
      have hck := hc k hlt
      obtain ⟨x, ex⟩ : ∃ x, xs[k]?.getD 0 = x := ⟨_, rfl⟩
      rw [ex] at hck
      have hxk : xs[k]? = some x := by
        rw [List.getElem?_eq_getElem (by rw [hlx.out]; exact hlt)] at ex ⊢
        exact congrArg some ex
      have HX := Lib.hid hxk
      clear hc hx ex hxk
      by_cases he : x = z
      · subst he
        have HD := Lib.hid (show decide (x ∈ xs) = true from decide_eq_true (List.mem_of_getElem? HX.out))
        go_wp2
        go_ret
        exact ⟨by rw [HD.out]; rfl, by first | rfl | trivial⟩
      · have he1 : (x == z) = false := by simp [he]
        have HNE := Lib.hid he
        clear he
        go_wp2
        go_roundw
        case rel =>
          refine ⟨k + 1, by omega, by go_num, ?_, trivial⟩
          show z ∉ xs.take (k + 1)
          rw [List.take_add_one, HX.out, List.mem_append]
          rintro (h | h)
          · exact hT.out h
          · simp at h
            exact HNE.out h.symm
        case measure => simp [intOf]; omega
    · obtain rfl : k = n := by omega
      have HD := Lib.hid (show decide (z ∈ xs) = false from decide_eq_false (by
        have := hT.out
        rw [List.take_of_length_le (by rw [hlx.out]; exact Nat.le_refl _)] at this
        exact this))
      go_wp2
      go_ret
      exact ⟨by rw [HD.out]; rfl, by first | rfl | trivial⟩
end Go.Proofs.YtlgdcbhdmffnoaaDoor
