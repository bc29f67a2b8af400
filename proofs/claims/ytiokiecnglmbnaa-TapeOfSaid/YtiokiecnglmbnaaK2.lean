/-
  Plain mathematics of the encoding, with no program: varints, zigzag forms, readers as functions on lists; reading what was written gives it back, what can be read is what writing gives, a proper prefix is too short.
-/
import Derived.Test.YtiokiecnglmbnaaK1
import Derived.Laws.Entries
import Derived.Laws.Bits64
import Derived.Laws.Bits64b
import Derived.Laws.BitsAllLaws
import Derived.Laws.Wrap64
import Derived.IntWalk

namespace Go.Proofs.Ytiokiecnglmbnaa
open Go

/-! ### Varints and zigzag forms -/
def encF : Nat → Int → List Int
  | 0, _ => []
  | f + 1, n => if n < 128 then [n] else (128 + n % 128) :: encF f (n / 128)
def encU (n : Int) : List Int := encF 10 n
def zig (n : Int) : Int := if n < 0 then -2 * n - 1 else 2 * n
def unzig (z : Int) : Int := if z % 2 = 1 then -(z / 2) - 1 else z / 2

theorem zig_w {n : Int} (h : I64 n) : W64 (zig n) := by
  obtain ⟨_, _⟩ := h
  unfold zig
  constructor <;> split <;> omega
theorem unzig_i {z : Int} (h : W64 z) : I64 (unzig z) := by
  obtain ⟨_, _⟩ := h
  unfold unzig
  constructor <;> split <;> omega
theorem unzig_zig (n : Int) : unzig (zig n) = n := by
  unfold zig unzig
  split <;> split <;> omega
theorem zig_unzig {z : Int} (h : W64 z) : zig (unzig z) = z := by
  obtain ⟨_, _⟩ := h
  unfold zig unzig
  split <;> split <;> omega


/-! ### Readers -/
inductive St
  | ok (bs : List Int)
  | bad (e : Int)
def decF : Nat → Int → List Int → Int × St
  | _, _, [] => (0, .bad 7)
  | i, acc, c :: cs => if (0 < i ∧ c = 0) ∨ (i = 9 ∧ 1 < c) then (0, .bad 8) else if c < 128 then (acc + c * 128 ^ i, .ok cs) else decF (i + 1) (acc + (c - 128) * 128 ^ i) cs
def rdU : St → Int × St
  | .bad e => (0, .bad e)
  | .ok bs => decF 0 0 bs
def rdI (s : St) : Int × St := (unzig (rdU s).1, (rdU s).2)
def rdO : St → Int × St
  | .bad e => (0, .bad e)
  | .ok [] => (0, .bad 7)
  | .ok (c :: cs) => (c, .ok cs)
/-- n reads in sequence, the values behind those of acc. -/
def rdN (rd : St → Int × St) : Nat → List Int → St → List Int × St
  | _, _, .bad e => ([], .bad e)
  | 0, acc, .ok r => (acc, .ok r)
  | n + 1, acc, .ok r => rdN rd n (acc ++ [(rd (.ok r)).1]) (rd (.ok r)).2
/-- The length of a list that may have at most 'most' elements. -/
def lim (most : Int) : Int × St → Int × St
  | (_, .bad e) => (0, .bad e)
  | (n, .ok r) => if most < 0 ∨ most < n then (0, .bad 2) else (n, .ok r)
def rdList (rd : St → Int × St) (most : Int) (s : St) : List Int × St := rdN rd (lim most (rdU s)).1.toNat [] (lim most (rdU s)).2
def rdB (most : Int) (s : St) : List Int × St := rdList rdO most s
def rdL (most : Int) (s : St) : List Int × St := rdList rdI most s
def St.err : St → Int
  | .ok _ => 0
  | .bad e => e
def St.endE : St → Int
  | .ok [] => 0
  | .ok (_ :: _) => 8
  | .bad e => e
def St.left : St → Nat
  | .ok bs => bs.length
  | .bad _ => 0

theorem decF_encF : ∀ (f i : Nat) (m acc : Int) (rest : List Int), f + i = 10 → i ≤ 9 → 0 ≤ m → m < 2 * 128 ^ (9 - i) → (0 < i → 0 < m) → decF i acc (encF f m ++ rest) = (acc + m * 128 ^ i, .ok rest)
  | 0, i, m, acc, rest, hf, hi, h0, h1, h2 => by omega
  | f + 1, i, m, acc, rest, hf, hi, h0, h1, h2 => by
    rw [encF]
    have hm9 : i = 9 → m < 2 := fun h => by subst h; simpa using h1
    by_cases hm : m < 128
    · rw [if_pos hm]
      simp only [List.cons_append, List.nil_append, decF]
      rw [if_neg (by omega), if_pos hm]
    · rw [if_neg hm]
      simp only [List.cons_append, decF]
      have hi9 : i ≠ 9 := fun h => by have := hm9 h; omega
      have e9 : 9 - i = (9 - (i + 1)) + 1 := by omega
      rw [e9, Int.pow_succ] at h1
      rw [if_neg (by omega), if_neg (by omega), decF_encF f (i + 1) (m / 128) _ rest (by omega) (by omega) (by omega) (by omega) (by omega)]
      have e : m = m % 128 + 128 * (m / 128) := (Int.emod_add_mul_ediv m 128).symm
      refine Prod.ext ?_ rfl
      simp only [Int.pow_succ]
      have e2 : m * 128 ^ i = (m % 128 + 128 * (m / 128)) * 128 ^ i := by rw [← e]
      rw [e2]
      grind
theorem rdU_enc (n : Int) (rest : List Int) (h : W64 n) : rdU (.ok (encU n ++ rest)) = (n, .ok rest) := by
  obtain ⟨h0, h1⟩ := h
  unfold rdU encU
  simp only
  rw [decF_encF 10 0 n 0 rest rfl (by omega) h0 (by simpa using h1) (by omega)]
  simp

theorem decF_inv : ∀ (bs : List Int) (i : Nat) (acc v : Int) (rest : List Int), (∀ x ∈ bs, B8 x) → i ≤ 9 → decF i acc bs = (v, .ok rest) →
    ∃ m, 0 ≤ m ∧ (0 < i → 0 < m) ∧ m < 2 * 128 ^ (9 - i) ∧ v = acc + m * 128 ^ i ∧ bs = encF (10 - i) m ++ rest
  | [], i, acc, v, rest, hb, hi, h => by simp [decF] at h
  | c :: cs, i, acc, v, rest, hb, hi, h => by
    obtain ⟨hc0, hc1⟩ := hb c (by simp)
    obtain ⟨f, hf⟩ : ∃ f, 10 - i = f + 1 := ⟨9 - i, by omega⟩
    simp only [decF] at h
    by_cases hx : (0 < i ∧ c = 0) ∨ (i = 9 ∧ 1 < c)
    · rw [if_pos hx] at h; simp at h
    · rw [if_neg hx] at h
      by_cases hc : c < 128
      · rw [if_pos hc] at h
        simp only [Prod.mk.injEq, St.ok.injEq] at h
        obtain ⟨rfl, rfl⟩ := h
        refine ⟨c, hc0, by omega, ?_, rfl, by rw [hf, encF, if_pos hc]; rfl⟩
        by_cases h9 : i = 9
        · subst h9; simp; omega
        · obtain ⟨k, hk⟩ : ∃ k, 9 - i = k + 1 := ⟨8 - i, by omega⟩
          rw [hk, Int.pow_succ]
          have : (0 : Int) < 128 ^ k := Int.pow_pos (by omega)
          omega
      · rw [if_neg hc] at h
        have hi9 : i ≤ 8 := by omega
        obtain ⟨m, h0, h1, h2, h3, h4⟩ := decF_inv cs (i + 1) _ v rest (fun x hx => hb x (by simp [hx])) (by omega) h
        have h1' := h1 (by omega)
        refine ⟨(c - 128) + 128 * m, by omega, by omega, ?_, ?_, ?_⟩
        · obtain ⟨k, hk⟩ : ∃ k, 9 - i = k + 1 := ⟨8 - i, by omega⟩
          have hk' : 9 - (i + 1) = k := by omega
          rw [hk'] at h2
          rw [hk, Int.pow_succ]
          omega
        · rw [h3, Int.pow_succ]
          grind
        · have hf' : 10 - (i + 1) = f := by omega
          rw [hf'] at h4
          rw [hf, encF, if_neg (by omega), h4]
          have e1 : (c - 128 + 128 * m) % 128 = c - 128 := by omega
          have e2 : (c - 128 + 128 * m) / 128 = m := by omega
          rw [e1, e2]
          simp only [List.cons_append, List.cons.injEq, and_true]
          omega
theorem rdU_inv {bs rest : List Int} {v : Int} (hb : ∀ x ∈ bs, B8 x) (h : rdU (.ok bs) = (v, .ok rest)) : W64 v ∧ bs = encU v ++ rest := by
  obtain ⟨m, h0, _, h2, h3, h4⟩ := decF_inv bs 0 0 v rest hb (by omega) h
  have e : v = m := by rw [h3]; simp
  subst e
  exact ⟨⟨h0, by simpa using h2⟩, h4⟩

theorem decF_short : ∀ (f i : Nat) (m acc : Int) (k : Nat), f + i = 10 → i ≤ 9 → 0 ≤ m → m < 2 * 128 ^ (9 - i) → (0 < i → 0 < m) → k < (encF f m).length → decF i acc ((encF f m).take k) = (0, .bad 7)
  | 0, i, m, acc, k, hf, hi, h0, h1, h2, hk => by omega
  | f + 1, i, m, acc, 0, hf, hi, h0, h1, h2, hk => by simp [decF]
  | f + 1, i, m, acc, k + 1, hf, hi, h0, h1, h2, hk => by
    rw [encF] at hk ⊢
    have hm9 : i = 9 → m < 2 := fun h => by subst h; simpa using h1
    by_cases hm : m < 128
    · rw [if_pos hm] at hk; simp at hk
    · rw [if_neg hm] at hk ⊢
      simp only [List.take_succ_cons, decF]
      have hi9 : i ≠ 9 := fun h => by have := hm9 h; omega
      have e9 : 9 - i = (9 - (i + 1)) + 1 := by omega
      rw [e9, Int.pow_succ] at h1
      rw [if_neg (by omega), if_neg (by omega), decF_short f (i + 1) (m / 128) _ k (by omega) (by omega) (by omega) (by omega) (by omega) (by simpa using hk)]
theorem rdU_short (n : Int) (k : Nat) (h : W64 n) (hk : k < (encU n).length) : rdU (.ok ((encU n).take k)) = (0, .bad 7) := by
  obtain ⟨h0, h1⟩ := h
  unfold rdU encU
  simp only
  exact decF_short 10 0 n 0 k rfl (by omega) h0 (by simpa using h1) (by omega) hk

theorem encF_len : ∀ (f : Nat) (n : Int), (encF f n).length ≤ f
  | 0, n => by simp [encF]
  | f + 1, n => by
    rw [encF]
    split
    · simp
    · have := encF_len f (n / 128); simp; omega
theorem encU_len (n : Int) : (encU n).length ≤ 10 := encF_len 10 n
theorem encF_pos (f : Nat) (n : Int) : 0 < (encF (f + 1) n).length := by
  rw [encF]; split <;> simp
theorem encU_pos (n : Int) : 0 < (encU n).length := encF_pos 9 n
theorem encF_b8 : ∀ (f : Nat) (n : Int), 0 ≤ n → ∀ x ∈ encF f n, B8 x
  | 0, n, h0, x, hx => by simp [encF] at hx
  | f + 1, n, h0, x, hx => by
    rw [encF] at hx
    unfold B8
    split at hx
    · simp at hx; omega
    · simp at hx
      rcases hx with rfl | hx
      · omega
      · exact encF_b8 f (n / 128) (by omega) x hx
theorem encU_b8 {n : Int} (h : 0 ≤ n) : ∀ x ∈ encU n, B8 x := encF_b8 10 n h
theorem encF_step (f : Nat) (m : Int) (h : ¬ m < 128) : encF (f + 1) m = (128 + m % 128) :: encF f (m / 128) := by rw [encF, if_neg h]
theorem encF_last (f : Nat) (m : Int) (h : m < 128) : encF (f + 1) m = [m] := by rw [encF, if_pos h]

/-! ### Values -/
structure V where
  kind : Int
  u : Int
  n : Int
  b : List Int
  l : List Int
def encI (n : Int) : List Int := encU (zig n)
def encB (b : List Int) : List Int := encU b.length ++ b
def encL (l : List Int) : List Int := encU l.length ++ l.flatMap encI
def encV (x : V) : List Int := if x.kind = 0 then encU x.u else if x.kind = 1 then encI x.n else if x.kind = 2 then encB x.b else encL x.l
def encVs (l : List V) : List Int := l.flatMap encV
def rdV (k most : Int) (s : St) : V × St :=
  if k = 0 then ({ kind := k, u := (rdU s).1, n := 0, b := [], l := [] }, (rdU s).2)
  else if k = 1 then ({ kind := k, u := 0, n := (rdI s).1, b := [], l := [] }, (rdI s).2)
  else if k = 2 then ({ kind := k, u := 0, n := 0, b := (rdB most s).1, l := [] }, (rdB most s).2)
  else ({ kind := k, u := 0, n := 0, b := [], l := (rdL most s).1 }, (rdL most s).2)
/-- What a value that the laws speak of is like: fields of other kinds are zero. -/
def V.wf (x : V) : Prop := W64 x.u ∧ I64 x.n ∧ (∀ c ∈ x.b, B8 c) ∧ (∀ c ∈ x.l, I64 c) ∧ x.b.length ≤ 1000 ∧ x.l.length ≤ 1000 ∧ (x.kind = 0 ∨ x.kind = 1 ∨ x.kind = 2 ∨ x.kind = 3)
end Go.Proofs.Ytiokiecnglmbnaa
