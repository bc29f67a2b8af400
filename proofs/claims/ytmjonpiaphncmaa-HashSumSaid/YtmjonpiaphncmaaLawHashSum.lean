/-
  The walk of the law HashSum: Sum agrees with the reference model. No condition beyond the arguments' readings.
-/
import Derived.Test.YtmjonpiaphncmaaRefB
namespace Go.Proofs.Ytmjonpiaphncmaa.LawHashSum
open Go.RowKit

set_option maxHeartbeats 1000000 in
theorem walk (a0 : ByteArray) (a1 : Option Addr) (len1 cap1 : Nat) (z1 : List Int) (w : World) (_ : a0.size ≤ maxLen) (w1 : Row .i64 w a1 len1 cap1 z1) :
    Calls Try.prog 3 #[.string a0, .slice a1 len1 cap1] w fun e w' => e = .returned (.bool true) ∧ Below w.heap.size w w' := by
  obtain ⟨s, -, hs, cS⟩ := short_got a0 40 (by decide) (by decide) w
  obtain ⟨l, -, hl, cI⟩ := ints_got _ _ _ _ 12 (by decide) (by decide) _ w1.slc
  have hS := Lib.hid cS
  have hI := Lib.hid cI
  clear w1 cS cI
  go_enter Try.func3, Try.ntmps3
  go_wp2_with fail
  refine hS.out.mono ?_
  rintro e w0 ⟨rfl, rfl⟩
  go_wp2_with fail
  refine hI.out.mono ?_
  rintro e u1 ⟨A, n, c, rfl, hn, -, hJ, -, hb1⟩
  have hn1 : n ≤ 1000 := by omega
  have HN := Lib.hid hn
  clear hn hl
  go_wp2_with fail
  refine (sum_any s A n c l _ hJ (len_small hs) (len_small hn1)).mono ?_
  rintro e u2 ⟨rfl, hb2⟩
  have hJ2 := (hJ.below hb2).more hb2.size
  go_wp2_with fail
  refine (refsum_any s A n c l _ hJ2 hs (len_small hn1)).mono ?_
  rintro e u3 ⟨rfl, hb3⟩
  go_wp2_with fail
  refine (sum_any s none 0 0 [] _ (Ints.nil _ _ _ _) (len_small hs) (len_small (by decide))).mono ?_
  rintro e u4 ⟨rfl, hb4⟩
  go_wp2_with fail
  refine (refsum_any s none 0 0 [] _ (Ints.nil _ _ _ _) hs (len_small (by decide))).mono ?_
  rintro e u5 ⟨rfl, hb5⟩
  go_wp2_with fail
  refine (lives_any _).mono ?_
  rintro e u6 ⟨rfl, hb6⟩
  go_wp2_with fail
  go_ret
  have b2 := hb1.trans (hb2.mono hb1.size)
  have b3 := b2.trans (hb3.mono b2.size)
  have b4 := b3.trans (hb4.mono b3.size)
  have b5 := b4.trans (hb5.mono b4.size)
  exact ⟨rfl, b5.trans (hb6.mono b5.size)⟩
end Go.Proofs.Ytmjonpiaphncmaa.LawHashSum
