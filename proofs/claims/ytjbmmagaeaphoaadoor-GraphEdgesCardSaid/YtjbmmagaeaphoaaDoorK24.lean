/-
  (The template XWord under the namespace H, for seats that hold other stages too.) hash.wordOf returns the little-endian word of a group of at most 8 bytes. Conditions: the slice holds bytes and has at most 8 of them.
-/
import Derived.Test.YtjbmmagaeaphoaaDoorRows
import Derived.Test.YtjbmmagaeaphoaaDoorK22
import Derived.Test.YtjbmmagaeaphoaaDoorK23
import Derived.WalkKit
import Derived.WalkSpells
import Derived.WalkLawsBesides
import Derived.Lib.Hide

namespace Go.Proofs.YtjbmmagaeaphoaaDoor.H
open Go.RowKit

theorem or_byte (s : Nat) (b j : Nat) (hs : s < 2 ^ (8 * j)) (hb : b < 256) (hj : j < 8) :
    bits .or .u64 (s : Int) (IntKind.u64.wrap ((b : Int) * 2 ^ (8 * j))) = (s : Int) + (b : Int) * 256 ^ j := by
  have hp : (2 : Nat) ^ (8 * j) = 256 ^ j := by rw [Nat.pow_mul]
  have h8 : 256 ^ j * 256 ≤ 18446744073709551616 := by
    have : (256 : Nat) ^ (j + 1) ≤ 256 ^ 8 := Nat.pow_le_pow_right (by decide) (by omega)
    rw [Nat.pow_succ] at this; simpa using this
  have hm : 256 ^ j * b + 256 ^ j ≤ 256 ^ j * 256 := by rw [← Nat.mul_succ]; exact Nat.mul_le_mul_left _ (by omega)
  have e1 : ((b : Int) * 2 ^ (8 * j)) = ((256 ^ j * b : Nat) : Int) := by
    rw [← hp, Int.natCast_mul, Int.natCast_pow, Int.mul_comm]; rfl
  rw [hp] at hs
  rw [e1, IntKind.wrap_u64, Int.emod_eq_of_lt (by omega) (by omega), bits_or_u64_nat _ _ (by omega) (by omega), Nat.or_comm]
  have := Nat.two_pow_add_eq_or_of_lt (i := 8 * j) (b := s) (by rw [hp]; exact hs) b
  rw [hp] at this
  rw [← this, Int.natCast_add, Int.natCast_mul, Int.natCast_pow, Int.mul_comm, Int.add_comm]
  rfl

theorem or_step (zs : List Int) (h : ∀ x ∈ zs, B8 x) (k : Nat) (hk : k < zs.length) (h8 : k < 8) :
    bits .or .u64 (leW (zs.take k)) (IntKind.u64.wrap (IntKind.u64.wrap (zs[k]?.getD 0) * 2 ^ (8 * k))) = leW (zs.take (k + 1)) := by
  have hl : (zs.take k).length = k := by simp; omega
  have ht : ∀ x ∈ zs.take k, B8 x := fun x hx => h x (List.mem_of_mem_take hx)
  have h0 := leW_nonneg _ ht
  have h1 := leW_lt _ ht
  rw [hl] at h1
  obtain ⟨b0, b1⟩ := h _ (getD_mem hk)
  rw [IntKind.wrap_u64 (zs[k]?.getD 0), Int.emod_eq_of_lt b0 (by omega)]
  obtain ⟨s, es⟩ := Int.eq_ofNat_of_zero_le h0
  obtain ⟨b, eb⟩ := Int.eq_ofNat_of_zero_le b0
  have hp : (2 : Nat) ^ (8 * k) = 256 ^ k := by rw [Nat.pow_mul]
  have e2 : zs.take (k + 1) = zs.take k ++ [zs[k]?.getD 0] := by
    rw [List.take_add_one, List.getElem?_eq_getElem hk]; rfl
  rw [e2, leW_snoc, hl, es, eb]
  rw [es] at h1; rw [eb] at b1
  refine or_byte s b k ?_ (by omega) h8
  rw [hp]
  have e3 : ((256 ^ k : Nat) : Int) = 256 ^ k := by rw [Int.natCast_pow]; rfl
  omega

set_option maxHeartbeats 400000 in
theorem wordOf_any (B : Nat) (A : Option Addr) (n c : Nat) (zs : List Int) (w : World) (hI : Ints .u8 B w A n zs) (hb : ∀ x ∈ zs, B8 x) (hn : n ≤ 8) :
    Calls Tryd.prog 63 #[.slice A n c] w fun e w' => e = .returned (.int .u64 (leW zs)) ∧ w = w' := by
  go_enter Tryd.func63, Tryd.ntmps63
  go_wp2
  go_loop [3, 8] (fun s i => ∃ k : Nat, k ≤ n ∧ i = .int .i64 k ∧ s = .int .u64 (leW (zs.take k))) (fun _ i => n - (intOf i).toNat)
  case atStart => exact ⟨0, Nat.zero_le _, rfl, rfl⟩
  case round =>
    obtain ⟨k, hk, rfl, rfl⟩ := hrel
    by_cases hlt : k < n
    · obtain ⟨b, off, rfl, _, hc⟩ := hI.at_ (by omega)
      have hck := hc k hlt
      have HS := Lib.hid (or_step zs hb k (by rw [hI.len]; exact hlt) (by omega))
      clear hc hI
      go_wp2
      go_round
      case rel => exact ⟨k + 1, by omega, by go_num, by rw [HS.out]⟩
      case measure => simp [intOf]; omega
    · obtain rfl : k = n := by omega
      go_wp2
      go_ret
      exact ⟨ret_u64 (by rw [List.take_of_length_le (by rw [hI.len]; omega)]), rfl⟩
end Go.Proofs.YtjbmmagaeaphoaaDoor.H
