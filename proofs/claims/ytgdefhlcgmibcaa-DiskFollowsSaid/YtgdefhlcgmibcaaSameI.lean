/-
  The contract of the reference model's SameInts (a part of the template Same, for seats without SameBytes). Condition: both slices hold integers.
-/
import Derived.Test.YtgdefhlcgmibcaaBase
namespace Go.Proofs.Ytgdefhlcgmibcaa
open Go Go.RowKit

set_option maxHeartbeats 1000000 in
theorem sameInts_any (A A' : Option Addr) (n n' c c' : Nat) (xs ys : List Int) (w : World) (hx : Ints .i64 w.heap.size w A n xs) (hy : Ints .i64 w.heap.size w A' n' ys) (hn : n ≤ 1000000) :
    Calls Try.prog 18 #[.slice A n c, .slice A' n' c'] w (Tells (decide (xs = ys)) w) := by
  by_cases hnn : n = n'
  · subst hnn
    have hlx := Lib.hid hx.len
    have hly := Lib.hid hy.len
    go_enter Try.func18, Try.ntmps18
    go_wp2
    go_loopw [5] (fun i wr => ∃ k : Nat, k ≤ n ∧ i = .int .i64 k ∧ Hid (xs.take k = ys.take k) ∧ Below w.heap.size w wr) (fun i _ => n - (intOf i).toNat)
    case atStart => exact ⟨0, Nat.zero_le _, rfl, rfl, Below.refl _ _⟩
    case round =>
      obtain ⟨k, hk, rfl, hT, hB⟩ := hrel
      by_cases hlt : k < n
      · obtain ⟨b, off, rfl, hb, hc⟩ := hx.at_ (by omega)
        obtain ⟨b', off', rfl, hb', hc'⟩ := hy.at_ (by omega)
        have hck := (hB.cell (p := ⟨b, off + k, none⟩) hb).trans (hc k hlt)
        have hck' := (hB.cell (p := ⟨b', off' + k, none⟩) hb').trans (hc' k hlt)
        clear hc hc' hx hy
        obtain ⟨x, ex⟩ : ∃ x, xs[k]?.getD 0 = x := ⟨_, rfl⟩
        obtain ⟨y, ey⟩ : ∃ y, ys[k]?.getD 0 = y := ⟨_, rfl⟩
        rw [ex] at hck
        rw [ey] at hck'
        have hxk := Lib.hid ex
        have hyk := Lib.hid ey
        clear ex ey
        by_cases he : x = y
        · subst he
          go_wp2
          go_quiet (fail)
          all_goals go_wp2
          go_roundw
          case rel => exact ⟨k + 1, by omega, by go_num, take_step hlx.out hly.out hlt hT.out hxk.out hyk.out, below_drewN' hB _⟩
          case measure => simp [intOf]; omega
        · have he1 : (x != y) = true := by simp [he]
          have hd := Lib.hid (show decide (xs = ys) = false by
            rw [decide_eq_false_iff_not]
            rintro rfl
            exact he (hxk.out.symm.trans hyk.out))
          clear he
          go_wp2
          go_quiet (fail)
          all_goals go_wp2
          go_ret
          exact ⟨by rw [hd.out]; rfl, below_drewN' hB _⟩
      · obtain rfl : k = n := by omega
        go_wp2
        go_ret
        exact ⟨by rw [decide_eq_true (take_all hlx.out hly.out hT.out)]; rfl, hB⟩
  · have hd := Lib.hid (show decide (xs = ys) = false by
      rw [decide_eq_false_iff_not]
      rintro rfl
      exact hnn (hx.len.symm.trans hy.len))
    have hne : ((n : Int) != n') = true := by rw [bne_iff_ne]; omega
    clear hnn hx hy
    go_enter Try.func18, Try.ntmps18
    go_wp2
    go_ret
    exact ⟨by rw [hd.out]; rfl, Below.refl _ _⟩

end Go.Proofs.Ytgdefhlcgmibcaa
