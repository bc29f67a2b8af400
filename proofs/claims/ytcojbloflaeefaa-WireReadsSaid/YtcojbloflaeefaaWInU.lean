/-
  The contracts of wire.In's Uint and Int: they read a varint. No condition beyond the reader's shape.
-/
import Derived.Test.YtcojbloflaeefaaWIn
namespace Go.Proofs.Ytcojbloflaeefaa
open Go Go.RowKit

theorem ret_u64 {a b : Int} (h : a = b) : Ending.returned (.int .u64 a) = .returned (.int .u64 b) := by rw [h]
theorem ret_i64 {a b : Int} (h : a = b) : Ending.returned (.int .i64 a) = .returned (.int .i64 b) := by rw [h]
theorem pow7 (k : Nat) (hk : k ≤ 9) : (2 : Nat) ^ (7 * k) = 128 ^ k ∧ 128 ^ k ≤ 9223372036854775808 ∧ (k ≤ 8 → 128 ^ k ≤ 72057594037927936) := by
  have : ∀ k : Fin 10, (2 : Nat) ^ (7 * k.val) = 128 ^ k.val ∧ 128 ^ k.val ≤ 9223372036854775808 ∧ (k.val ≤ 8 → 128 ^ k.val ≤ 72057594037927936) := by decide +kernel
  exact this ⟨k, by omega⟩
theorem or_step (k : Nat) (acc x : Int) (hk : k ≤ 9) (h9 : k = 9 → x ≤ 1) (h0 : 0 ≤ x) (h1 : x < 256) (ha0 : 0 ≤ acc) (ha1 : acc < 128 ^ k) :
    bits .or .u64 acc (IntKind.u64.wrap (IntKind.u64.wrap (bits .andNot .u8 x 128) * 2 ^ (7 * k))) = acc + (x % 128) * 128 ^ k ∧ 0 ≤ acc + (x % 128) * 128 ^ k ∧ acc + (x % 128) * 128 ^ k < 128 ^ (k + 1) := by
  obtain ⟨hp1, hp2, hp3⟩ := pow7 k hk
  have e1 : bits .andNot .u8 x 128 = x % 128 := by
    rw [u8_andNot x 128 h0 h1 (by omega) (by omega)]
    show ((x.toNat &&& 127 : Nat) : Int) = _
    rw [nat_mask7]
    omega
  have e2 : IntKind.u64.wrap (x % 128) = x % 128 := by rw [IntKind.wrap_u64]; omega
  rw [e1, e2]
  obtain ⟨a, rfl⟩ := Int.eq_ofNat_of_zero_le ha0
  obtain ⟨y, hy⟩ := Int.eq_ofNat_of_zero_le (show 0 ≤ x % 128 by omega)
  rw [hy]
  have hy1 : y < 128 := by omega
  have hy9 : k = 9 → y ≤ 1 := fun h => by have := h9 h; omega
  have ep : ((128 : Int) ^ k) = ((128 ^ k : Nat) : Int) := by rw [Int.natCast_pow]; rfl
  have ep2 : ((2 : Int) ^ (7 * k)) = ((128 ^ k : Nat) : Int) := by rw [← hp1, Int.natCast_pow]; rfl
  rw [ep] at ha1
  rw [ep2, Int.pow_succ, ep]
  have hP : 0 < 128 ^ k := Nat.pow_pos (by omega)
  have haP : a < 128 ^ k := by omega
  have hyP : y * 128 ^ k < 18446744073709551616 := by
    by_cases h : k = 9
    · have := hy9 h
      have := Nat.mul_le_mul this hp2
      omega
    · have := Nat.mul_le_mul (show y ≤ 127 by omega) (hp3 (by omega))
      omega
  have e3 : ((y : Int) * ((128 ^ k : Nat) : Int)) = ((y * 128 ^ k : Nat) : Int) := by rw [Int.natCast_mul]
  have e4 : IntKind.u64.wrap ((y * 128 ^ k : Nat) : Int) = ((y * 128 ^ k : Nat) : Int) := by rw [IntKind.wrap_u64]; omega
  have e5 : a ||| (y * 128 ^ k) = a + y * 128 ^ k := by
    rw [Nat.or_comm, nat_join (7 * k) (y * 128 ^ k) a (by rw [hp1]; exact Nat.mul_mod_left _ _) (by rw [hp1]; exact haP), Nat.add_comm]
  rw [e3, e4, u64_or_nat _ _ (by omega) hyP, e5]
  have e6 : y * 128 ^ k + 128 ^ k ≤ 128 ^ k * 128 := by
    have := Nat.mul_le_mul_right (128 ^ k) (show y + 1 ≤ 128 by omega)
    rw [Nat.add_mul, Nat.one_mul] at this
    omega
  refine ⟨by omega, by omega, by omega⟩

set_option maxHeartbeats 400000 in
theorem in_uint_bad {B : Nat} (g : Nat) (e : Int) (w : World) (h : InAt B w g (.bad e)) :
    Calls Try.prog 32 #[.pointer (some ⟨g, 0, none⟩)] w fun r w' => r = .returned (.int .u64 0) ∧ InAt B w' g (.bad e) ∧ But g w w' := by
  go_enter Try.func32, Try.ntmps32
  go_wp2
  go_loopw [3, 4] (fun n i wr => n = .int .u64 0 ∧ i = .int .i64 0 ∧ wr = w) (fun _ _ _ => 0)
  case atStart => exact ⟨rfl, rfl, rfl⟩
  case round =>
    obtain ⟨rfl, rfl, rfl⟩ := hrel
    go_wp2_with fail
    refine (in_octet g (.bad e) _ h).mono ?_
    rintro r w1 ⟨rfl, h1, hb⟩
    have h1' := h1
    obtain ⟨A, n, c, hg, h0, hi0⟩ := h1
    have hc := two_c1 hg
    have HI := Lib.hid hi0
    clear hi0
    have e0 : (rdO (.bad e)).1 = 0 := rfl
    rw [e0]
    clear e0 h
    go_wp2_with fail
    go_ret
    exact ⟨rfl, h1', hb⟩

set_option maxHeartbeats 1000000 in
theorem in_uint_ok {B : Nat} (g : Nat) (bs : List Int) (w : World) (h : InAt B w g (.ok bs)) :
    Calls Try.prog 32 #[.pointer (some ⟨g, 0, none⟩)] w fun r w' => r = .returned (.int .u64 (decF 0 0 bs).1) ∧ InAt B w' g (decF 0 0 bs).2 ∧ But g w w' := by
  go_enter Try.func32, Try.ntmps32
  go_wp2
  go_loopw [3, 4] (fun n i wr => ∃ (k : Nat) (acc : Int) (cs : List Int), k ≤ 9 ∧ n = .int .u64 acc ∧ i = .int .i64 k ∧ 0 ≤ acc ∧ acc < 128 ^ k ∧ Hid (decF k acc cs = decF 0 0 bs) ∧ InAt B wr g (.ok cs) ∧ But g w wr) (fun _ i _ => 10 - (intOf i).toNat)
  case atStart => exact ⟨0, 0, bs, by omega, rfl, rfl, by omega, by simp, rfl, h, but_refl _ _⟩
  case round =>
    obtain ⟨k, acc, cs, hk, rfl, rfl, ha0, ha1, hD, hI, hB⟩ := hrel
    clear h
    have HA := Lib.hid ha1
    clear ha1
    cases cs with
    | nil =>
      go_wp2_with fail
      refine (in_octet g (.ok []) _ hI).mono ?_
      rintro r w1 ⟨rfl, h1, hb⟩
      have h1' := h1
      obtain ⟨A, n, c, hg, h0, hi0⟩ := h1
      have hc := two_c1 hg
      clear hi0
      have e0 : (rdO (.ok [])).1 = 0 := rfl
      rw [e0]
      clear e0 hI
      by_cases hk0 : k = 0
      · subst hk0
        go_wp2_with fail
        go_ret
        exact ⟨by rw [← hD.out]; rfl, by rw [← hD.out]; exact h1', but_trans hB hb⟩
      · have hkp : (0 : Int) < k := by omega
        have hF := Lib.hid (in_fail g (.bad 7) 8 w1 h1' (by decide) (by unfold I64; omega))
        go_wp2_with fail
        refine hF.out.mono ?_
        rintro r w2 ⟨rfl, h2, hb2⟩
        have h2' := h2
        obtain ⟨A, n, c, hg, h0, hi0⟩ := h2
        have hc := two_c1 hg
        clear hi0
        go_wp2_with fail
        go_ret
        exact ⟨by rw [← hD.out]; rfl, by rw [← hD.out]; exact h2', but_trans (but_trans hB hb) hb2⟩
    | cons x xs =>
      have hx : B8 x := by obtain ⟨A, n, c, hg, hL, h8, hn⟩ := hI; exact h8 x (by simp)
      obtain ⟨hx0, hx1⟩ := hx
      go_wp2_with fail
      refine (in_octet g (.ok (x :: xs)) _ hI).mono ?_
      rintro r w1 ⟨rfl, h1, hb⟩
      have h1' : InAt B w1 g (.ok xs) := h1
      have h1'' := h1'
      obtain ⟨A, n, c, hg, hL1, h81, hn1⟩ := h1''
      have hc := two_c1 hg
      have e0 : (rdO (.ok (x :: xs))).1 = x := rfl
      rw [e0]
      clear e0 hI h1 h81 hL1
      obtain ⟨y, hy⟩ : ∃ y, bits .or .u64 acc (IntKind.u64.wrap (IntKind.u64.wrap (bits .andNot .u8 x 128) * 2 ^ (7 * k))) = y := ⟨_, rfl⟩
      have HY := Lib.hid hy
      clear hy
      by_cases hbad : (0 < k ∧ x = 0) ∨ (k = 9 ∧ 1 < x)
      · -- the byte may not stand here
        have e8 : decF k acc (x :: xs) = (0, .bad 8) := by rw [decF, if_pos hbad]
        have HD := Lib.hid (e8.symm.trans hD.out)
        have hF := Lib.hid (in_fail g (.ok xs) 8 w1 h1' (by decide) (by unfold I64; omega))
        have hkp : (0 : Int) < k := by omega
        clear e8
        by_cases hx0' : x = 0
        · have hxn : (x == 0) = true := by simp [hx0']
          clear hx0' hbad
          go_wp2_with fail
          refine hF.out.mono ?_
          rintro r w2 ⟨rfl, h2, hb2⟩
          have h2' := h2
          obtain ⟨A', n', c', hg', h0, hi0⟩ := h2
          have hc' := two_c1 hg'
          clear hi0 hc hg
          go_wp2_with fail
          go_ret
          exact ⟨by rw [← HD.out]; rfl, by rw [← HD.out]; exact h2', but_trans (but_trans hB hb) hb2⟩
        · have hxn : (x == 0) = false := by simp [hx0']
          have hk9 : ((k : Int) == 9) = true := by simp; omega
          have hx1' : 1 < x := by omega
          clear hx0' hbad
          go_wp2_with fail
          refine hF.out.mono ?_
          rintro r w2 ⟨rfl, h2, hb2⟩
          have h2' := h2
          obtain ⟨A', n', c', hg', h0, hi0⟩ := h2
          have hc' := two_c1 hg'
          clear hi0 hc hg
          go_wp2_with fail
          go_ret
          exact ⟨by rw [← HD.out]; rfl, by rw [← HD.out]; exact h2', but_trans (but_trans hB hb) hb2⟩
      · obtain ⟨hy1, hy2, hy3⟩ := or_step k acc x hk (fun h => by omega) hx0 hx1 ha0 HA.out
        rw [HY.out] at hy1
        rw [← hy1] at hy2 hy3
        have HY1 := Lib.hid hy1
        have HY3 := Lib.hid hy3
        have hS : decF k acc (x :: xs) = if x < 128 then (acc + x * 128 ^ k, .ok xs) else decF (k + 1) (acc + (x - 128) * 128 ^ k) xs := by rw [decF, if_neg hbad]
        have HS := Lib.hid (hS.symm.trans hD.out)
        have HB := Lib.hid hbad
        clear hS hbad hy1 hy3
        have hcase : k = 0 ∨ (0 < k ∧ k ≠ 9 ∧ x ≠ 0) ∨ (k = 9 ∧ x ≠ 0 ∧ ¬ 1 < x) := by have := HB.out; omega
        by_cases hx128 : x < 128
        · have e := HS.out
          have hxm : x % 128 = x := by omega
          rw [if_pos hx128, ← hxm, ← HY1.out] at e
          have HE := Lib.hid e
          clear e hxm
          rcases hcase with hk0 | ⟨hk0, hk1, hx00⟩ | ⟨hk1, hx00, hx2⟩
          · have hk2 : ¬ (0 : Int) < k := by omega
            have hk9 : ((k : Int) == 9) = false := by simp; omega
            clear hk0
            go_wp2_with fail
            go_ret
            exact ⟨by rw [← HE.out]; exact ret_u64 HY.out, by rw [← HE.out]; exact h1', but_trans hB hb⟩
          · have hk2 : (0 : Int) < k := by omega
            have hk9 : ((k : Int) == 9) = false := by simp; omega
            have hxn : (x == 0) = false := by simp [hx00]
            clear hx00 hk1
            go_wp2_with fail
            go_ret
            exact ⟨by rw [← HE.out]; exact ret_u64 HY.out, by rw [← HE.out]; exact h1', but_trans hB hb⟩
          · have hk2 : (0 : Int) < k := by omega
            have hk9 : ((k : Int) == 9) = true := by simp; omega
            have hxn : (x == 0) = false := by simp [hx00]
            have hK := Lib.hid hk1
            clear hx00 hk1
            go_wp2_with fail
            go_ret
            exact ⟨by rw [← HE.out]; exact ret_u64 HY.out, by rw [← HE.out]; exact h1', but_trans hB hb⟩
        · have e := HS.out
          rw [if_neg hx128] at e
          have HE := Lib.hid e
          have hxm := Lib.hid (show x % 128 = x - 128 by omega)
          clear e
          have hk8 : k ≤ 8 := by omega
          rcases hcase with hk0 | ⟨hk0, hk1, hx00⟩ | ⟨hk1, hx00, hx2⟩
          · have hk2 : ¬ (0 : Int) < k := by omega
            have hk9 : ((k : Int) == 9) = false := by simp; omega
            clear hk0
            go_wp2_with fail
            go_roundw
            case rel => exact ⟨k + 1, y, xs, by omega, by rw [HY.out], by go_num, hy2, HY3.out, by show _ = _; rw [HY1.out, hxm.out]; exact HE.out, h1', but_trans hB hb⟩
            case measure => simp [intOf]; omega
          · have hk2 : (0 : Int) < k := by omega
            have hk9 : ((k : Int) == 9) = false := by simp; omega
            have hxn : (x == 0) = false := by simp [hx00]
            clear hx00 hk1
            go_wp2_with fail
            go_roundw
            case rel => exact ⟨k + 1, y, xs, by omega, by rw [HY.out], by go_num, hy2, HY3.out, by show _ = _; rw [HY1.out, hxm.out]; exact HE.out, h1', but_trans hB hb⟩
            case measure => simp [intOf]; omega
          · omega

theorem in_uint {B : Nat} (g : Nat) (s : St) (w : World) (h : InAt B w g s) :
    Calls Try.prog 32 #[.pointer (some ⟨g, 0, none⟩)] w fun r w' => r = .returned (.int .u64 (rdU s).1) ∧ InAt B w' g (rdU s).2 ∧ But g w w' := by
  cases s with
  | ok bs => exact in_uint_ok g bs w h
  | bad e => exact in_uint_bad g e w h
end Go.Proofs.Ytcojbloflaeefaa
