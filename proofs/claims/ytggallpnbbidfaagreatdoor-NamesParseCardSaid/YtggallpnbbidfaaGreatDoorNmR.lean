/-
  The reference's Decimal of a number of the names, exactly, and its number. Condition: the number is in the range 0 .. 2147483647.
-/
import Derived.Test.YtggallpnbbidfaaGreatDoorNmX
import Derived.Test.YtggallpnbbidfaaGreatDoorNmRi
namespace Go.Proofs.YtggallpnbbidfaaGreatDoor
open Go Go.RowKit Go.Proofs
attribute [local go_sem] Oper.semAt_some

theorem digitsN_at : ∀ d, d < 10 → (ByteArray.mk #[48, 49, 50, 51, 52, 53, 54, 55, 56, 57]).extract d (d + 1) = NM.bs [UInt8.ofNat (48 + d)] := by decide +kernel
/-- The digits of n: those of q, if there are any, then s. -/
def Splits (n q : Nat) (s : ByteArray) : Prop := if q = 0 then s = NM.bs (Lib.decDigits n) else ∃ t, s = NM.bs t ∧ Lib.decDigits q ++ t = Lib.decDigits n
theorem splits_at {n : Nat} (h : n ≠ 0) : Splits n n ⟨#[]⟩ := by
  unfold Splits
  rw [if_neg h]
  exact ⟨[], rfl, by simp⟩
theorem splits_step {n q r p : Nat} {s : ByteArray} (hq : q ≠ 0) (hr : q % 10 = r) (hp : q / 10 = p) (h : Splits n q s) : Splits n p (NM.bs [UInt8.ofNat (48 + r)] ++ s) := by
  unfold Splits at h ⊢
  rw [if_neg hq] at h
  obtain ⟨t, rfl, h⟩ := h
  rw [bs_add]
  by_cases h10 : q < 10
  · rw [if_pos (by omega)]
    rw [Lib.decDigits, dif_pos h10] at h
    have hrq : r = q := by omega
    rw [hrq, ← h]
  · rw [if_neg (by omega)]
    refine ⟨_, rfl, ?_⟩
    rw [Lib.decDigits, dif_neg h10, hr, hp] at h
    rw [← h, List.append_assoc]
theorem dec_len10 {n : Nat} (h : n ≤ 2147483647) : (Lib.decDigits n).length ≤ 10 := by
  have := NM.itoa_len (n := (n : Int)) ⟨by omega, by unfold NM.big; omega⟩
  unfold Lib.itoa at this
  rw [if_neg (by omega)] at this
  simpa using this

set_option maxRecDepth 100000 in
set_option maxHeartbeats 2000000 in
theorem decimal_nat (n : Nat) (hn : n ≤ 2147483647) (w : World) :
    Calls Tryz.prog 35 #[.int .i64 (n : Int)] w fun e w' => e = .returned (.string (NM.bs (Lib.decDigits n))) ∧ w' = w := by
  by_cases h0 : n = 0
  · subst h0
    go_enter Tryz.func35, Tryz.ntmps35
    go_wp2
    go_ret
    exact ⟨by rw [Lib.decDigits]; rfl, rfl⟩
  · have hne : ((n : Int) == 0) = false := by simp; omega
    have hnn : decide ((n : Int) < 0) = false := decide_eq_false (by omega)
    have HN := Lib.hid hn
    have H0 := Lib.hid (splits_at h0)
    have HL := Lib.hid (dec_len10 hn)
    clear h0
    go_enter Tryz.func35, Tryz.ntmps35
    go_wp2
    go_loopw [4, 5, 6] (fun v x d V => ∃ (q : Nat) (s : ByteArray), x = .int .i64 (q : Int) ∧ v = .string s ∧ (∃ dv : Int, d = .int .i64 dv ∨ d = undef) ∧ q ≤ 2147483647 ∧ s.size ≤ 10 ∧ Hid (Splits n q s) ∧ V = w) (fun _ x _ _ => (intOf x).toNat)
    case atStart => exact ⟨n, ⟨#[]⟩, rfl, rfl, ⟨0, .inr rfl⟩, HN.out, by show 0 ≤ 10; omega, H0, rfl⟩
    case round =>
      obtain ⟨q, s, rfl, rfl, ⟨dv, hd⟩, hq, hm, HI, hw⟩ := hrel
      rw [hw]
      clear hw
      by_cases hq0 : q = 0
      · subst hq0
        have HS := Lib.hid (show s = NM.bs (Lib.decDigits n) by have := HI.out; unfold Splits at this; rwa [if_pos rfl] at this)
        clear HI
        go_wp2
        go_ret
        exact ⟨by rw [HS.out]; rfl, rfl⟩
      · have hq1 : ((q : Int) != 0) = true := by simp; omega
        obtain ⟨r, hr⟩ : ∃ r, q % 10 = r := ⟨_, rfl⟩
        obtain ⟨p, hp⟩ : ∃ p, q / 10 = p := ⟨_, rfl⟩
        have hr10 : r < 10 := by omega
        have e1 : (q : Int) % 10 = (r : Int) := by omega
        have e2 : (q : Int) / 10 = (p : Int) := by omega
        have e3 : (q : Int).tmod 10 = (r : Int) := by rw [Int.tmod_eq_emod_of_nonneg (by omega)]; exact e1
        have e4 : (q : Int).tdiv 10 = (p : Int) := by rw [Int.tdiv_eq_ediv_of_nonneg (by omega)]; exact e2
        have hdd := digitsN_at r hr10
        have HX := Lib.hid (splits_step hq0 hr hp HI.out)
        have HSZ : Hid ((NM.bs [UInt8.ofNat (48 + r)] ++ s).size ≤ 10) := by
          have h1 := HX.out
          unfold Splits at h1
          split at h1
          · rw [h1]
            show (NM.bs (Lib.decDigits n)).size ≤ 10
            rw [bs_size]
            exact HL.out
          · obtain ⟨t, h2, h3⟩ := h1
            rw [h2]
            show (NM.bs t).size ≤ 10
            rw [bs_size]
            have := HL.out
            rw [← h3, List.length_append] at this
            omega
        have hrn : decide ((r : Int) < 0) = false := decide_eq_false (by omega)
        have hp9 : p ≤ 2147483647 := by omega
        have hpq := Lib.hid (show p < q by omega)
        have hz1 : (NM.bs [UInt8.ofNat (48 + r)]).size = 1 := rfl
        generalize NM.bs [UInt8.ofNat (48 + r)] = b at *
        clear HI hq0 hr hp hd
        go_wp2
        go_roundw
        case rel => exact ⟨p, _, rfl, rfl, ⟨_, .inl rfl⟩, hp9, HSZ.out, HX, by first | rfl | trivial⟩
        case measure => have := hpq.out; simp [intOf]; omega
theorem decimal_any {n : Int} (h : NM.Nn n) (w : World) :
    Calls Tryz.prog 35 #[.int .i64 n] w fun e w' => e = .returned (.string (NM.bs (Lib.itoa n))) ∧ w' = w := by
  obtain ⟨k, rfl⟩ : ∃ k : Nat, n = k := ⟨n.toNat, by have := h.1; omega⟩
  have e : Lib.itoa (k : Int) = Lib.decDigits k := by
    unfold Lib.itoa
    rw [if_neg (by omega)]
    simp
  rw [e]
  exact decimal_nat k (by have := h.2; unfold NM.big at this; omega) w
theorem number_any (n : Int) (w : World) : Calls Tryz.prog 58 #[.int .i64 n] w fun e w' => e = .returned (.bool (NM.upTo n NM.big)) ∧ w' = w := by
  have e : NM.upTo n NM.big = (decide (n ≥ 0) && decide (n ≤ 2147483647)) := rfl
  rw [e]
  clear e
  cases h1 : decide (n ≥ 0) with
  | false =>
    go_enter Tryz.func58, Tryz.ntmps58
    go_wp2
    go_ret
    exact ⟨rfl, rfl⟩
  | true =>
    go_enter Tryz.func58, Tryz.ntmps58
    go_wp2
    go_ret
    exact ⟨by rw [Bool.true_and]; rfl, rfl⟩
end Go.Proofs.YtggallpnbbidfaaGreatDoor
