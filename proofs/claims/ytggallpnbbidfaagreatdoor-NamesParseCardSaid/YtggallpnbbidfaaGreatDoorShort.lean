/-
  The reference model's Short: a string's first bytes. Condition: the number is from 0 to 1000. (As in XHelp, for seats that lack the rest of XHelp's functions.)
-/
import Derived.Test.YtggallpnbbidfaaGreatDoorBase
import Derived.Deep.QuietTactic
import Derived.BigQuiet
namespace Go.Proofs.YtggallpnbbidfaaGreatDoor
open Go Go.RowKit Go.Proofs

set_option maxHeartbeats 400000 in
theorem short_any (s : ByteArray) (k : Int) (h0 : 0 ≤ k) (hk : k ≤ 1000) (w : World) :
    Calls Tryz.prog 17 #[.string s, .int .i64 k] w fun e w' => e = .returned (.string (s.extract 0 k.toNat)) ∧ w = w' := by
  obtain ⟨k, rfl⟩ := Int.eq_ofNat_of_zero_le h0
  have hk1 : k ≤ 1000 := by omega
  clear h0 hk
  by_cases h : k < s.size
  · go_enter Tryz.func17, Tryz.ntmps17
    go_wp2
    go_ret
    exact ⟨rfl, rfl⟩
  · have H := Lib.hid (show s.extract 0 k = s by
      apply ByteArray.ext
      rw [ByteArray.data_extract]
      exact Array.extract_eq_self_of_le (by show s.size ≤ k; omega))
    go_enter Tryz.func17, Tryz.ntmps17
    go_wp2
    go_ret
    exact ⟨by rw [Int.toNat_natCast, H.out]; rfl, rfl⟩
end Go.Proofs.YtggallpnbbidfaaGreatDoor
