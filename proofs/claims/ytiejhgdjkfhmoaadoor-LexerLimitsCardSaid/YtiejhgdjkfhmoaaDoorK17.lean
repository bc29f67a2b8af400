/-
  The reference's Decimal of a number that is not negative: its digits. Condition: the number is less than 10^10.
-/
import Derived.Test.YtiejhgdjkfhmoaaDoorK5

namespace Go.Proofs.YtiejhgdjkfhmoaaDoor
open Go Go.RowKit Go.Proofs Go.Proofs.YtiejhgdjkfhmoaaDoor.LX

theorem val_cons (c : UInt8) (l : List UInt8) : val (c :: l) = (c.toNat - 48) * 10 ^ l.length + val l := by
  suffices ∀ (l : List UInt8) (a : Nat), l.foldl (fun n c => 10 * n + (c.toNat - 48)) a = a * 10 ^ l.length + val l by
    show List.foldl _ (10 * 0 + (c.toNat - 48)) l = _
    rw [this, Nat.mul_zero, Nat.zero_add]
  intro l
  induction l with
  | nil => intro a; simp [val]
  | cons d t ih =>
    intro a
    rw [List.foldl_cons, ih, show val (d :: t) = List.foldl (fun n c => 10 * n + (c.toNat - 48)) (10 * 0 + (d.toNat - 48)) t from rfl, ih, List.length_cons, Nat.pow_succ, Nat.mul_zero, Nat.zero_add, Nat.add_mul, Nat.add_assoc]
    rw [show 10 * a * 10 ^ t.length = a * (10 ^ t.length * 10) by rw [Nat.mul_comm 10 a, Nat.mul_assoc, Nat.mul_comm 10]]
theorem digits_at : ∀ d, d < 10 → (ByteArray.mk #[48, 49, 50, 51, 52, 53, 54, 55, 56, 57]).extract d (d + 1) = ⟨#[UInt8.ofNat (48 + d)]⟩ := by decide +kernel
theorem digit_nat {d : Nat} (h : d < 10) : (UInt8.ofNat (48 + d)).toNat = 48 + d := by
  rw [UInt8.toNat_ofNat']
  omega
/-- s shows the digits of n. -/
def Shows (n : Nat) (s : ByteArray) : Prop := (∀ c ∈ bsOf s, isD c = true) ∧ bsOf s ≠ [] ∧ val (bsOf s) = n ∧ s.size ≤ 10
theorem bs_append (a b : ByteArray) : bsOf (a ++ b) = bsOf a ++ bsOf b := by
  show (a ++ b).data.toList = _
  rw [ByteArray.data_append, Array.toList_append]

set_option maxRecDepth 100000 in
set_option maxHeartbeats 2000000 in
theorem decimal_any (n : Nat) (hn : n < 10000000000) (w : World) :
    Calls Tryd.prog 16 #[.int .i64 (n : Int)] w fun e w' => (∃ s, e = .returned (.string s) ∧ Shows n s) ∧ w' = w := by
  by_cases h0 : n = 0
  · subst h0
    go_enter Tryd.func16, Tryd.ntmps16
    go_wp2
    go_ret
    exact ⟨⟨_, rfl, by unfold Shows; decide +kernel⟩, rfl⟩
  · have hne : ((n : Int) == 0) = false := by simp; omega
    have hnn : decide ((n : Int) < 0) = false := decide_eq_false (by omega)
    have HN := Lib.hid hn
    have H0 := Lib.hid h0
    clear hn h0
    go_enter Tryd.func16, Tryd.ntmps16
    go_wp2
    go_loopw [4, 5, 6] (fun v x d V => ∃ (q : Nat) (s : ByteArray) (m : Nat), x = .int .i64 (q : Int) ∧ v = .string s ∧ (∃ dv : Int, d = .int .i64 dv ∨ d = undef) ∧ q < 10000000000 ∧ s.size = m ∧ m ≤ 10 ∧ Hid (q < 10 ^ (10 - m) ∧ (∀ c ∈ bsOf s, isD c = true) ∧ (bsOf s ≠ [] ∨ 0 < q) ∧ q * 10 ^ m + val (bsOf s) = n) ∧ V = w) (fun _ x _ _ => (intOf x).toNat)
    case atStart => exact ⟨n, ⟨#[]⟩, 0, rfl, rfl, ⟨0, .inr rfl⟩, HN.out, rfl, by omega, ⟨HN.out, (fun c h => by cases h), .inr (by have := H0.out; omega), by simp [val]⟩, rfl⟩
    case round =>
      obtain ⟨q, s, m, rfl, rfl, ⟨dv, hd⟩, hq, hm, hm10, HI, hw⟩ := hrel
      rw [hw]
      clear hw
      by_cases hq0 : q = 0
      · subst hq0
        obtain ⟨k1, k2, k3, k4⟩ := HI.out
        have HS : Hid (Shows n s) := by
          refine ⟨k2, ?_, by omega, by omega⟩
          rcases k3 with k3 | k3
          · exact k3
          · omega
        clear k1 k2 k3 k4 HI
        go_wp2
        go_ret
        exact ⟨⟨_, rfl, HS.out⟩, rfl⟩
      · obtain ⟨k1, k2, k3, k4⟩ := HI.out
        have hq1 : ((q : Int) != 0) = true := by simp; omega
        have hml : m < 10 := by
          rcases Nat.lt_or_ge m 10 with h | h
          · exact h
          · have : m = 10 := by omega
            subst this
            simp at k1
            omega
        have HQ := Lib.hid hq0
        obtain ⟨r, hr⟩ : ∃ r, q % 10 = r := ⟨_, rfl⟩
        obtain ⟨p, hp⟩ : ∃ p, q / 10 = p := ⟨_, rfl⟩
        have hr10 : r < 10 := by omega
        have e1 : (q : Int) % 10 = (r : Int) := by omega
        have e2 : (q : Int) / 10 = (p : Int) := by omega
        have e3 : (q : Int).tmod 10 = (r : Int) := by rw [Int.tmod_eq_emod_of_nonneg (by omega)]; exact e1
        have e4 : (q : Int).tdiv 10 = (p : Int) := by rw [Int.tdiv_eq_ediv_of_nonneg (by omega)]; exact e2
        have hqq : q = 10 * p + r := by omega
        have hdd := digits_at r hr10
        have hbn := digit_nat hr10
        obtain ⟨b, hb⟩ : ∃ b, UInt8.ofNat (48 + r) = b := ⟨_, rfl⟩
        rw [hb] at hdd hbn
        clear hb
        have HX : Hid (p < 10 ^ (10 - (m + 1)) ∧ (∀ c ∈ bsOf (⟨#[b]⟩ ++ s), isD c = true) ∧ (bsOf (⟨#[b]⟩ ++ s) ≠ [] ∨ 0 < p) ∧ p * 10 ^ (m + 1) + val (bsOf (⟨#[b]⟩ ++ s)) = n) := by
          rw [bs_append]
          have hb1 : bsOf ⟨#[b]⟩ = [b] := rfl
          rw [hb1, List.singleton_append]
          refine ⟨?_, fun c hc => ?_, .inl (by simp), ?_⟩
          · have hpw : 10 ^ (10 - m) = 10 ^ (10 - (m + 1)) * 10 := by rw [← Nat.pow_succ]; congr 1; omega
            rw [hpw] at k1
            omega
          · rcases List.mem_cons.1 hc with rfl | hc
            · simp only [isD, Bool.and_eq_true, decide_eq_true_eq, hbn]
              omega
            · exact k2 c hc
          · rw [val_cons, hbn, show 48 + r - 48 = r by omega, bs_len, hm, ← k4, hqq, Nat.pow_succ, Nat.add_mul, Nat.mul_comm 10 p, Nat.mul_assoc, Nat.mul_comm 10, Nat.add_assoc]
        have HSZ : Hid ((ByteArray.mk #[b] ++ s).size = m + 1) := by
          show (ByteArray.mk #[b] ++ s).size = m + 1
          rw [ByteArray.size_append, hm]
          show 1 + m = m + 1
          omega
        have hrn : decide ((r : Int) < 0) = false := decide_eq_false (by omega)
        have hp9 : p < 10000000000 := by omega
        have hpq := Lib.hid (show p < q by omega)
        clear k1 k2 k3 k4 HI hq0 hr hp hqq hd hbn
        go_wp2
        go_roundw
        case rel => exact ⟨p, _, m + 1, rfl, rfl, ⟨_, .inl rfl⟩, hp9, HSZ.out, by omega, HX.out, by first | rfl | trivial⟩
        case measure => have := hpq.out; simp [intOf]; omega
end Go.Proofs.YtiejhgdjkfhmoaaDoor
