/-
  (The template XMath under the namespace H, for seats that hold other stages too.) Plain mathematics of the hash, with no program: mixing a word into a state loses nothing; the words of a list of bytes; the hash of a label and a list of integers.
-/
import Derived.Laws.Entries
import Derived.Laws.Bits64
import Derived.Laws.Bits64b
import Derived.Laws.Wrap64
import Derived.IntWalk

namespace Go.Proofs.YtjbmmagaeaphoaaDoor.H
open Go

/-- A number that fits a word of 64 bits. -/
def W64 (x : Int) : Prop := 0 ≤ x ∧ x < 18446744073709551616
/-- A number that fits int. -/
def I64 (x : Int) : Prop := -9223372036854775808 ≤ x ∧ x < 9223372036854775808
/-- A number that fits a byte. -/
def B8 (x : Int) : Prop := 0 ≤ x ∧ x < 256

def u64 (x : Int) : Int := IntKind.u64.wrap x
def i64 (x : Int) : Int := IntKind.i64.wrap x
theorem u64_eq (x : Int) : u64 x = x % 18446744073709551616 := IntKind.wrap_u64 x
theorem i64_eq (x : Int) : i64 x = (x + 9223372036854775808) % 18446744073709551616 - 9223372036854775808 := by unfold i64; rw [IntKind.wrap_i64]
theorem u64_w (x : Int) : W64 (u64 x) := by rw [u64_eq]; constructor <;> omega
theorem i64_i (x : Int) : I64 (i64 x) := by rw [i64_eq]; constructor <;> omega
theorem u64_i64 (x : Int) (h : W64 x) : u64 (i64 x) = x := by obtain ⟨_, _⟩ := h; rw [i64_eq, u64_eq]; omega
theorem u64_inj {x y : Int} (hx : I64 x) (hy : I64 y) (h : u64 x = u64 y) : x = y := by
  obtain ⟨_, _⟩ := hx; obtain ⟨_, _⟩ := hy; rw [u64_eq, u64_eq] at h; omega
theorem i64_inj {x y : Int} (hx : W64 x) (hy : W64 y) (h : i64 x = i64 y) : x = y := by
  rw [← u64_i64 x hx, ← u64_i64 y hy, h]

/-! ### Mixing -/
def mixN (s x : Nat) : Nat := ((s ^^^ x) * 11400714819323198485 % 18446744073709551616) ^^^ ((s ^^^ x) * 11400714819323198485 % 18446744073709551616 / 4294967296)
def mixI (s x : Int) : Int := bits .xor .u64 (IntKind.u64.wrap (bits .xor .u64 s x * 11400714819323198485)) (IntKind.u64.wrap (bits .xor .u64 s x * 11400714819323198485) / 4294967296)

theorem xor_lt (a b : Nat) (ha : a < 18446744073709551616) (hb : b < 18446744073709551616) : a ^^^ b < 18446744073709551616 := by
  have := @Nat.xor_lt_two_pow a b 64 (by simpa using ha) (by simpa using hb)
  simpa using this
theorem mixI_nat (s x : Nat) (hs : s < 18446744073709551616) (hx : x < 18446744073709551616) : mixI s x = (mixN s x : Nat) := by
  unfold mixI mixN
  rw [bits_xor_u64_nat s x hs hx, IntKind.wrap_u64]
  have e1 : (((s ^^^ x : Nat) : Int) * 11400714819323198485 % 18446744073709551616) = (((s ^^^ x) * 11400714819323198485 % 18446744073709551616 : Nat) : Int) := by omega
  have e2 : (((s ^^^ x) * 11400714819323198485 % 18446744073709551616 : Nat) : Int) / 4294967296 = (((s ^^^ x) * 11400714819323198485 % 18446744073709551616 / 4294967296 : Nat) : Int) := by omega
  rw [e1, e2, bits_xor_u64_nat _ _ (by omega) (by omega)]
theorem mixN_lt (s x : Nat) : mixN s x < 18446744073709551616 := by
  unfold mixN
  exact xor_lt _ _ (by omega) (by omega)
theorem fold_inj (m n : Nat) (hm : m < 18446744073709551616) (hn : n < 18446744073709551616) (h : m ^^^ (m / 4294967296) = n ^^^ (n / 4294967296)) : m = n := by
  have back : ∀ k : Nat, k < 18446744073709551616 → (k ^^^ (k / 4294967296)) ^^^ ((k ^^^ (k / 4294967296)) / 4294967296) = k := by
    intro k hk
    have e : ∀ j : Nat, j / 4294967296 = j >>> 32 := fun j => by rw [Nat.shiftRight_eq_div_pow]
    have hz : k >>> 32 >>> 32 = 0 := by rw [← e, ← e]; omega
    rw [e, e, Nat.shiftRight_xor_distrib, hz, Nat.xor_zero, Nat.xor_assoc, Nat.xor_self, Nat.xor_zero]
  rw [← back m hm, ← back n hn, h]
theorem mul_inj (m n : Nat) (hm : m < 18446744073709551616) (hn : n < 18446744073709551616) (h : m * 11400714819323198485 % 18446744073709551616 = n * 11400714819323198485 % 18446744073709551616) : m = n := by
  have back : ∀ k : Nat, k < 18446744073709551616 → (k * 11400714819323198485 % 18446744073709551616) * 17428512612931826493 % 18446744073709551616 = k := by
    intro k hk
    rw [Nat.mod_mul_mod, Nat.mul_assoc, show (11400714819323198485 * 17428512612931826493 : Nat) = 10771413168148108919 * 18446744073709551616 + 1 from rfl, Nat.mul_add, ← Nat.mul_assoc, Nat.mul_one, Nat.add_comm, Nat.add_mul_mod_self_right]
    exact Nat.mod_eq_of_lt hk
  rw [← back m hm, ← back n hn, h]
theorem xor_inj (s m n : Nat) (h : s ^^^ m = s ^^^ n) : m = n := by
  have back : ∀ k : Nat, s ^^^ (s ^^^ k) = k := fun k => by rw [← Nat.xor_assoc, Nat.xor_self, Nat.zero_xor]
  rw [← back m, ← back n, h]
theorem mixN_inj (s x y : Nat) (hs : s < 18446744073709551616) (hx : x < 18446744073709551616) (hy : y < 18446744073709551616) (h : mixN s x = mixN s y) : x = y := by
  unfold mixN at h
  exact xor_inj s x y (mul_inj _ _ (xor_lt _ _ hs hx) (xor_lt _ _ hs hy) (fold_inj _ _ (by omega) (by omega) h))
theorem mixN_comm (s x : Nat) : mixN s x = mixN x s := by unfold mixN; rw [Nat.xor_comm s x]

theorem mixI_w (s x : Int) (hs : W64 s) (hx : W64 x) : W64 (mixI s x) := by
  obtain ⟨s0, s1⟩ := hs; obtain ⟨x0, x1⟩ := hx
  obtain ⟨s, rfl⟩ := Int.eq_ofNat_of_zero_le s0
  obtain ⟨x, rfl⟩ := Int.eq_ofNat_of_zero_le x0
  rw [mixI_nat s x (by omega) (by omega)]
  have := mixN_lt s x
  constructor <;> omega
theorem mixI_inj {s x y : Int} (hs : W64 s) (hx : W64 x) (hy : W64 y) (h : mixI s x = mixI s y) : x = y := by
  obtain ⟨s0, s1⟩ := hs; obtain ⟨x0, x1⟩ := hx; obtain ⟨y0, y1⟩ := hy
  obtain ⟨s, rfl⟩ := Int.eq_ofNat_of_zero_le s0
  obtain ⟨x, rfl⟩ := Int.eq_ofNat_of_zero_le x0
  obtain ⟨y, rfl⟩ := Int.eq_ofNat_of_zero_le y0
  rw [mixI_nat s x (by omega) (by omega), mixI_nat s y (by omega) (by omega)] at h
  have := mixN_inj s x y (by omega) (by omega) (by omega) (by omega)
  omega
theorem mixI_inj_state {s t x : Int} (hs : W64 s) (ht : W64 t) (hx : W64 x) (h : mixI s x = mixI t x) : s = t := by
  obtain ⟨s0, s1⟩ := hs; obtain ⟨x0, x1⟩ := hx; obtain ⟨t0, t1⟩ := ht
  obtain ⟨s, rfl⟩ := Int.eq_ofNat_of_zero_le s0
  obtain ⟨x, rfl⟩ := Int.eq_ofNat_of_zero_le x0
  obtain ⟨t, rfl⟩ := Int.eq_ofNat_of_zero_le t0
  rw [mixI_nat s x (by omega) (by omega), mixI_nat t x (by omega) (by omega), mixN_comm s x, mixN_comm t x] at h
  have := mixN_inj x s t (by omega) (by omega) (by omega) (by omega)
  omega

/-! ### Folding words into a state -/
def foldW (s : Int) (l : List Int) : Int := l.foldl mixI s
theorem foldW_nil (s : Int) : foldW s [] = s := rfl
theorem foldW_snoc (s : Int) (l : List Int) (x : Int) : foldW s (l ++ [x]) = mixI (foldW s l) x := by unfold foldW; rw [List.foldl_append]; rfl
theorem foldW_append (s : Int) (l m : List Int) : foldW s (l ++ m) = foldW (foldW s l) m := by unfold foldW; rw [List.foldl_append]
theorem foldW_w (l : List Int) : ∀ (s : Int), W64 s → (∀ x ∈ l, W64 x) → W64 (foldW s l) := by
  induction l with
  | nil => intro s hs _; exact hs
  | cons x l ih => intro s hs hl; exact ih (mixI s x) (mixI_w s x hs (hl x (by simp))) (fun y hy => hl y (by simp [hy]))
theorem foldW_inj (l : List Int) : ∀ (s t : Int), W64 s → W64 t → (∀ x ∈ l, W64 x) → foldW s l = foldW t l → s = t := by
  induction l with
  | nil => intro s t _ _ _ h; exact h
  | cons x l ih =>
    intro s t hs ht hl h
    have hx := hl x (by simp)
    exact mixI_inj_state hs ht hx (ih _ _ (mixI_w s x hs hx) (mixI_w t x ht hx) (fun y hy => hl y (by simp [hy])) h)
theorem w64_zero : W64 0 := ⟨by decide, by decide⟩

/-! ### The words of a list of bytes -/
def leW : List Int → Int
  | [] => 0
  | b :: r => b + 256 * leW r
theorem leW_nonneg (l : List Int) (h : ∀ x ∈ l, B8 x) : 0 ≤ leW l := by
  induction l with
  | nil => exact Int.le_refl 0
  | cons b r ih => have hb := h b (by simp); have := ih (fun x hx => h x (by simp [hx])); obtain ⟨_, _⟩ := hb; simp only [leW]; omega
theorem leW_lt (l : List Int) (h : ∀ x ∈ l, B8 x) : leW l < 256 ^ l.length := by
  induction l with
  | nil => decide
  | cons b r ih =>
    have hb := h b (by simp); have := ih (fun x hx => h x (by simp [hx])); obtain ⟨_, _⟩ := hb
    simp only [leW, List.length_cons, Int.pow_succ]; omega
theorem pow_le8 (n : Nat) (h : n ≤ 8) : (256 : Int) ^ n ≤ 18446744073709551616 := by
  have : n = 0 ∨ n = 1 ∨ n = 2 ∨ n = 3 ∨ n = 4 ∨ n = 5 ∨ n = 6 ∨ n = 7 ∨ n = 8 := by omega
  rcases this with rfl | rfl | rfl | rfl | rfl | rfl | rfl | rfl | rfl <;> decide
theorem pow_le7 (n : Nat) (h : n ≤ 7) : (256 : Int) ^ n ≤ 72057594037927936 := by
  have : n = 0 ∨ n = 1 ∨ n = 2 ∨ n = 3 ∨ n = 4 ∨ n = 5 ∨ n = 6 ∨ n = 7 := by omega
  rcases this with rfl | rfl | rfl | rfl | rfl | rfl | rfl | rfl <;> decide
theorem leW_w (l : List Int) (h : ∀ x ∈ l, B8 x) (hl : l.length ≤ 8) : W64 (leW l) :=
  ⟨leW_nonneg l h, by have := leW_lt l h; have := pow_le8 l.length hl; omega⟩
theorem leW_lt7 (l : List Int) (h : ∀ x ∈ l, B8 x) (hl : l.length ≤ 7) : leW l < 72057594037927936 := by
  have := leW_lt l h; have := pow_le7 l.length hl; omega
theorem leW_snoc (l : List Int) (b : Int) : leW (l ++ [b]) = leW l + b * 256 ^ l.length := by
  induction l with
  | nil => simp [leW]
  | cons a r ih => simp only [List.cons_append, leW, ih, List.length_cons, Int.pow_succ, Int.mul_add]; rw [Int.mul_comm (256 ^ r.length) 256, Int.mul_left_comm]; omega
theorem leW_inj (l : List Int) : ∀ m : List Int, (∀ x ∈ l, B8 x) → (∀ x ∈ m, B8 x) → l.length = m.length → leW l = leW m → l = m := by
  induction l with
  | nil => intro m _ _ hl _; exact (List.eq_nil_of_length_eq_zero hl.symm).symm
  | cons a r ih =>
    intro m h1 h2 hl h
    cases m with
    | nil => simp at hl
    | cons b q =>
      obtain ⟨_, _⟩ := h1 a (by simp); obtain ⟨_, _⟩ := h2 b (by simp)
      simp only [leW] at h
      have e := ih q (fun x hx => h1 x (by simp [hx])) (fun x hx => h2 x (by simp [hx])) (by simpa using hl) (by omega)
      rw [e, show a = b by omega]

/-- Group k of a list of bytes. -/
def grp (zs : List Int) (k : Nat) : List Int := (zs.drop (8 * k)).take 8
/-- How many words it has. -/
def nwords (n : Nat) : Nat := (n + 7) / 8
/-- The first k words. -/
def wordsTo (zs : List Int) (k : Nat) : List Int := (List.range k).map fun i => leW (grp zs i)
def wordsI (zs : List Int) : List Int := wordsTo zs (nwords zs.length)
theorem wordsTo_succ (zs : List Int) (k : Nat) : wordsTo zs (k + 1) = wordsTo zs k ++ [leW (grp zs k)] := by simp [wordsTo, List.range_succ]
theorem wordsTo_length (zs : List Int) (k : Nat) : (wordsTo zs k).length = k := by simp [wordsTo]
theorem grp_mem {zs : List Int} {k : Nat} {x : Int} (h : x ∈ grp zs k) : x ∈ zs := List.mem_of_mem_drop (List.mem_of_mem_take h)
theorem grp_length (zs : List Int) (k : Nat) : (grp zs k).length = min 8 (zs.length - 8 * k) := by simp [grp]
theorem grp_w (zs : List Int) (k : Nat) (h : ∀ x ∈ zs, B8 x) : W64 (leW (grp zs k)) := leW_w _ (fun x hx => h x (grp_mem hx)) (by rw [grp_length]; omega)
theorem wordsTo_w (zs : List Int) (k : Nat) (h : ∀ x ∈ zs, B8 x) : ∀ x ∈ wordsTo zs k, W64 x := by
  intro x hx
  simp only [wordsTo, List.mem_map, List.mem_range] at hx
  obtain ⟨i, _, rfl⟩ := hx
  exact grp_w zs i h
theorem wordsI_w (zs : List Int) (h : ∀ x ∈ zs, B8 x) : ∀ x ∈ wordsI zs, W64 x := wordsTo_w zs _ h

/-! ### The three hashes -/
def sum2 (s2 : Int) (l : List Int) : Int := foldW s2 (l.map u64)
/-- The state behind the label. -/
def lab1 (lab : List Int) : Int := mixI (foldW 0 (wordsI lab)) lab.length
def sumI (lab l : List Int) : Int := mixI (foldW (mixI (lab1 lab) l.length) (l.map u64)) 0
def bytesL (b : List Int) : List Int := (wordsI b).map i64 ++ [(b.length : Int)]
def bytesI (lab b : List Int) : Int := sumI lab (bytesL b)
def pairS : List Int := [112, 97, 105, 114]
def pairI (a b : Int) : Int := sumI pairS [i64 a, i64 b]

/-- A length of which we speak. -/
def Len (n : Nat) : Prop := n ≤ 1099511627776
theorem len_w {n : Nat} (h : Len n) : W64 (n : Int) := by unfold Len at h; constructor <;> omega
theorem len_i {n : Nat} (h : Len n) : I64 (n : Int) := by unfold Len at h; constructor <;> omega
theorem map_u64_w (l : List Int) : ∀ x ∈ l.map u64, W64 x := by
  intro x hx
  obtain ⟨y, _, rfl⟩ := List.mem_map.1 hx
  exact u64_w y
theorem lab1_w (lab : List Int) (h : ∀ x ∈ lab, B8 x) (hl : Len lab.length) : W64 (lab1 lab) := mixI_w _ _ (foldW_w _ _ w64_zero (wordsI_w lab h)) (len_w hl)
theorem sumI_w (lab l : List Int) (h : ∀ x ∈ lab, B8 x) (hl : Len lab.length) (hn : Len l.length) : W64 (sumI lab l) :=
  mixI_w _ _ (foldW_w _ _ (mixI_w _ _ (lab1_w lab h hl) (len_w hn)) (map_u64_w l)) w64_zero

end Go.Proofs.YtjbmmagaeaphoaaDoor.H
