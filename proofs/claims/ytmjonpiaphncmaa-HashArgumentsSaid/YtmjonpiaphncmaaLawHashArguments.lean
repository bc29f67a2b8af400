/-
  The walk of the law HashArguments: hashing leaves its arguments unchanged and returns the same value when repeated. No condition beyond the arguments' readings.
-/
import Derived.Test.YtmjonpiaphncmaaRefB
namespace Go.Proofs.Ytmjonpiaphncmaa.LawHashArguments
open Go.RowKit

def sSame : ByteArray := { data := #[115, 97, 109, 101] }

set_option maxHeartbeats 1000000 in
theorem walk (a0 : Option Addr) (len0 cap0 : Nat) (z0 : List Int) (a1 : Option Addr) (len1 cap1 : Nat) (z1 : List Int) (w : World) (w0 : Row .i64 w a0 len0 cap0 z0) (w1 : Row .u8 w a1 len1 cap1 z1) :
    Calls Try.prog 10 #[.slice a0 len0 cap0, .slice a1 len1 cap1] w fun e w' => e = .returned (.bool true) ∧ Below w.heap.size w w' := by
  obtain ⟨l, el, hl, -⟩ := ints_got _ _ _ _ 10 (by decide) (by decide) _ w0.slc
  obtain ⟨q, eq, hq, -⟩ := few_got _ _ _ _ 30 (by decide) (by decide) _ w1.slc
  have h8 : ∀ x ∈ q, B8 x := by rw [eq]; exact w1.b8 _
  have cI : ∀ u, Below w.heap.size w u → Calls Try.prog 12 #[.slice a0 len0 cap0, .int .i64 10] u (Got 3 .i64 u l) := fun u hu => by
    rw [el]; exact (ints_any _ _ _ _ 10 (by decide) (by decide) u (w0.slc.below hu)).mono fun _ _ h => h.got
  have cF : ∀ u, Below w.heap.size w u → Calls Try.prog 16 #[.slice a1 len1 cap1, .int .i64 30] u (Got 5 .u8 u q) := fun u hu => by
    rw [eq]; exact (few_any _ _ _ _ 30 (by decide) (by decide) u (w1.slc.below hu)).mono fun _ _ h => h.got
  have H8 := Lib.hid h8
  have hI := Lib.hid cI
  have hF := Lib.hid cF
  clear w0 w1 cI cF el eq h8
  go_enter Try.func10, Try.ntmps10
  go_wp2_with fail
  refine (hI.out _ (Below.refl _ _)).mono ?_
  rintro e u1 ⟨A, n, c, rfl, hn, -, hJ, -, hb1⟩
  have hn1 : n ≤ 1000 := by omega
  have HN := Lib.hid hn
  clear hn hl
  go_wp2_with fail
  refine (hF.out _ hb1).mono ?_
  rintro e u2 ⟨A', n', c', rfl, hn', hsl, hJ', -, hb2⟩
  have hn1' : n' ≤ 1000 := by omega
  have hnc := hsl.2.1
  have HN' := Lib.hid hn'
  clear hn' hq hsl
  have b2 := hb1.trans (hb2.mono hb1.size)
  have hJ2 := (hJ.below hb2).more hb2.size
  go_wp2_with fail
  refine (sum_any sSame A n c l _ hJ2 (len_small (by decide)) (len_small hn1)).mono ?_
  rintro e u3 ⟨rfl, hb3⟩
  have b3 := b2.trans (hb3.mono b2.size)
  have hJ3 := (hJ2.below hb3).more hb3.size
  have hJ3' := (hJ'.below hb3).more hb3.size
  go_wp2_with fail
  refine (bytes_any sSame A' n' c' q _ hJ3' hnc H8.out (len_small (by decide)) (len_small hn1')).mono ?_
  rintro e u4 ⟨rfl, hb4⟩
  have b4 := b3.trans (hb4.mono b3.size)
  have hJ4 := (hJ3.below hb4).more hb4.size
  have hJ4' := (hJ3'.below hb4).more hb4.size
  go_wp2_with fail
  refine (hI.out _ b4).mono ?_
  rintro e u5 ⟨A5, n5, c5, rfl, hn5, -, hJ5, -, hb5⟩
  have b5 := b4.trans (hb5.mono b4.size)
  have hJ5a := (hJ4.below hb5).more hb5.size
  have hJ5' := (hJ4'.below hb5).more hb5.size
  clear hn5
  go_wp2_with fail
  refine (sameInts_any _ _ _ _ _ _ l l _ hJ5a hJ5 hn1).mono ?_
  rintro e u6 ⟨he, hb6⟩
  rw [decide_eq_true rfl] at he
  subst he
  have b6 := b5.trans (hb6.mono b5.size)
  have hJ6 := (hJ5a.below hb6).more hb6.size
  have hJ6' := (hJ5'.below hb6).more hb6.size
  go_wp2_with fail
  refine (hF.out _ b6).mono ?_
  rintro e u7 ⟨A7, n7, c7, rfl, hn7, -, hJ7, -, hb7⟩
  have b7 := b6.trans (hb7.mono b6.size)
  have hJ7a := (hJ6.below hb7).more hb7.size
  have hJ7' := (hJ6'.below hb7).more hb7.size
  clear hn7
  go_wp2_with fail
  refine (sameBytes_any _ _ _ _ _ _ q q _ hJ7' hJ7 hn1').mono ?_
  rintro e u8 ⟨he, hb8⟩
  rw [decide_eq_true rfl] at he
  subst he
  have b8 := b7.trans (hb8.mono b7.size)
  have hJ8 := (hJ7a.below hb8).more hb8.size
  have hJ8' := (hJ7'.below hb8).more hb8.size
  go_wp2_with fail
  refine (sum_any sSame A n c l _ hJ8 (len_small (by decide)) (len_small hn1)).mono ?_
  rintro e u9 ⟨rfl, hb9⟩
  have b9 := b8.trans (hb9.mono b8.size)
  have hJ9' := (hJ8'.below hb9).more hb9.size
  go_wp2_with fail
  refine (bytes_any sSame A' n' c' q _ hJ9' hnc H8.out (len_small (by decide)) (len_small hn1')).mono ?_
  rintro e u10 ⟨rfl, hb10⟩
  have b10 := b9.trans (hb10.mono b9.size)
  go_wp2_with fail
  refine (lives_any _).mono ?_
  rintro e u11 ⟨rfl, hb11⟩
  go_wp2_with fail
  go_ret
  exact ⟨rfl, b10.trans (hb11.mono b10.size)⟩
end Go.Proofs.Ytmjonpiaphncmaa.LawHashArguments
