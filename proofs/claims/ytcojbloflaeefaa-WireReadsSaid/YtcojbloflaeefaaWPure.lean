/-
  Plain mathematics of whole values: reading what was written, what can be read is what writing gives, too short beginnings.
-/
import Derived.Test.YtcojbloflaeefaaWMath
namespace Go.Proofs.Ytcojbloflaeefaa
open Go

theorem rdN_bad (rd : St → Int × St) (n : Nat) (acc : List Int) (e : Int) : rdN rd n acc (.bad e) = ([], .bad e) := by cases n <;> rfl
theorem rdN_O : ∀ (n : Nat) (acc bs : List Int), rdN rdO n acc (.ok bs) = if n ≤ bs.length then (acc ++ bs.take n, .ok (bs.drop n)) else ([], .bad 7)
  | 0, acc, bs => by simp [rdN]
  | n + 1, acc, [] => by simp [rdN, rdO, rdN_bad]
  | n + 1, acc, c :: cs => by
    rw [rdN]
    simp only [rdO]
    rw [rdN_O n (acc ++ [c]) cs]
    simp
theorem rdI_enc (n : Int) (rest : List Int) (h : I64 n) : rdI (.ok (encI n ++ rest)) = (n, .ok rest) := by
  unfold rdI encI
  rw [rdU_enc _ _ (zig_w h), unzig_zig]
theorem rdN_I (l : List Int) : ∀ (acc rest : List Int), (∀ x ∈ l, I64 x) → rdN rdI l.length acc (.ok (l.flatMap encI ++ rest)) = (acc ++ l, .ok rest) := by
  induction l with
  | nil => intro acc rest _; simp [rdN]
  | cons x xs ih =>
    intro acc rest h
    rw [List.length_cons, rdN, List.flatMap_cons, List.append_assoc, rdI_enc x _ (h x (by simp))]
    simp only
    rw [ih _ _ (fun y hy => h y (by simp [hy]))]
    simp
theorem rdB_eq (most : Int) (s : St) (N : Int) (r : List Int) (h : rdU s = (N, .ok r)) (h1 : ¬ (most < 0 ∨ most < N)) : rdB most s = if N.toNat ≤ r.length then (r.take N.toNat, .ok (r.drop N.toNat)) else ([], .bad 7) := by
  unfold rdB rdList
  rw [h]
  simp only [lim, if_neg h1]
  rw [rdN_O]
  simp
theorem rdL_eq (most : Int) (s : St) (N : Int) (r : List Int) (h : rdU s = (N, .ok r)) (h1 : ¬ (most < 0 ∨ most < N)) : rdL most s = rdN rdI N.toNat [] (.ok r) := by
  unfold rdL rdList
  rw [h]
  simp only [lim, if_neg h1]
theorem rdB_enc (most : Int) (b rest : List Int) (h : (b.length : Int) ≤ most) (hs : b.length ≤ 1000000) : rdB most (.ok (encB b ++ rest)) = (b, .ok rest) := by
  unfold encB
  rw [List.append_assoc, rdB_eq most _ b.length (b ++ rest) (rdU_enc _ _ ⟨by omega, by omega⟩) (by omega)]
  simp
theorem rdL_enc (most : Int) (l rest : List Int) (h : (l.length : Int) ≤ most) (hs : l.length ≤ 1000000) (hi : ∀ x ∈ l, I64 x) : rdL most (.ok (encL l ++ rest)) = (l, .ok rest) := by
  unfold encL
  rw [List.append_assoc, rdL_eq most _ l.length _ (rdU_enc _ _ ⟨by omega, by omega⟩) (by omega), Int.toNat_natCast, rdN_I l [] rest hi]
  simp

/-- A value whose fields of other kinds are zero. -/
def V.flat (x : V) : Prop := (x.kind ≠ 0 → x.u = 0) ∧ (x.kind ≠ 1 → x.n = 0) ∧ (x.kind ≠ 2 → x.b = []) ∧ (x.kind ≠ 3 → x.l = [])
theorem rdV_enc (most : Int) (x : V) (rest : List Int) (h : x.wf) (hf : x.flat) (hb : (x.b.length : Int) ≤ most) (hl : (x.l.length : Int) ≤ most) : rdV x.kind most (.ok (encV x ++ rest)) = (x, .ok rest) := by
  obtain ⟨k, u, n, b, l⟩ := x
  obtain ⟨h1, h2, h3, h4, h5, h6, hk⟩ := h
  obtain ⟨f1, f2, f3, f4⟩ := hf
  simp only at *
  unfold rdV encV
  simp only
  rcases hk with rfl | rfl | rfl | rfl
  · rw [if_pos rfl, if_pos rfl, rdU_enc _ _ h1, f2 (by decide), f3 (by decide), f4 (by decide)]
  · rw [if_neg (by decide), if_pos rfl, if_neg (by decide), if_pos rfl, rdI_enc _ _ h2, f1 (by decide), f3 (by decide), f4 (by decide)]
  · rw [if_neg (by decide), if_neg (by decide), if_pos rfl, if_neg (by decide), if_neg (by decide), if_pos rfl, rdB_enc _ _ _ hb (by omega), f1 (by decide), f2 (by decide), f4 (by decide)]
  · rw [if_neg (by decide), if_neg (by decide), if_neg (by decide), if_neg (by decide), if_neg (by decide), if_neg (by decide), rdL_enc _ _ _ hl (by omega) h4, f1 (by decide), f2 (by decide), f3 (by decide)]
end Go.Proofs.Ytcojbloflaeefaa
