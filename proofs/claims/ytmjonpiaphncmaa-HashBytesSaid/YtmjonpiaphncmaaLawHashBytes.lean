/-
  The walk of the law HashBytes: Bytes and Pair agree with the reference model. No condition beyond the arguments' readings.
-/
import Derived.Test.YtmjonpiaphncmaaRefB
namespace Go.Proofs.Ytmjonpiaphncmaa.LawHashBytes
open Go.RowKit

set_option maxHeartbeats 1000000 in
theorem walk (a0 : ByteArray) (a1 : Option Addr) (len1 cap1 : Nat) (z1 : List Int) (a2 a3 : Int) (w : World) (_ : a0.size ≤ maxLen) (w1 : Row .u8 w a1 len1 cap1 z1) (_ : (Lit.int .u64 a2).wf = true) (_ : (Lit.int .u64 a3).wf = true) :
    Calls Try.prog 4 #[.string a0, .slice a1 len1 cap1, .int .u64 a2, .int .u64 a3] w fun e w' => e = .returned (.bool true) ∧ Below w.heap.size w w' := by
  obtain ⟨s, -, hs, cS⟩ := short_got a0 20 (by decide) (by decide) w
  obtain ⟨l, el, hl, cI⟩ := few_got _ _ _ _ 60 (by decide) (by decide) _ w1.slc
  have h8 : ∀ x ∈ l, B8 x := by rw [el]; exact w1.b8 _
  have H8 := Lib.hid h8
  have hS := Lib.hid cS
  have hI := Lib.hid cI
  clear w1 cS cI el h8
  go_enter Try.func4, Try.ntmps4
  go_wp2_with fail
  refine hS.out.mono ?_
  rintro e w0 ⟨rfl, rfl⟩
  go_wp2_with fail
  refine hI.out.mono ?_
  rintro e u1 ⟨A, n, c, rfl, hn, hsl, hJ, -, hb1⟩
  have hn1 : n ≤ 1000 := by omega
  have hnc := hsl.2.1
  clear hn hl hsl
  go_wp2_with fail
  refine (bytes_any s A n c l _ hJ hnc H8.out (len_small hs) (len_small hn1)).mono ?_
  rintro e u2 ⟨rfl, hb2⟩
  have hJ2 := (hJ.below hb2).more hb2.size
  go_wp2_with fail
  refine (refbytes_any s A n c l _ hJ2 H8.out hs hn1).mono ?_
  rintro e u3 ⟨rfl, hb3⟩
  go_wp2_with fail
  refine (pair_any a2 a3 _).mono ?_
  rintro e u4 ⟨rfl, hb4⟩
  go_wp2_with fail
  refine (refpair_any a2 a3 _).mono ?_
  rintro e u5 ⟨rfl, hb5⟩
  go_wp2_with fail
  refine (lives_any _).mono ?_
  rintro e u6 ⟨rfl, hb6⟩
  go_wp2_with fail
  go_ret
  have b2 := hb1.trans (hb2.mono hb1.size)
  have b3 := b2.trans (hb3.mono b2.size)
  have b4 := b3.trans (hb4.mono b3.size)
  have b5 := b4.trans (hb5.mono b4.size)
  exact ⟨rfl, b5.trans (hb6.mono b5.size)⟩
end Go.Proofs.Ytmjonpiaphncmaa.LawHashBytes
