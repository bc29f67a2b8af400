/-
  The variables of a generated expression are the ten declared ones; when a program of one statement is right. Plain mathematics but for the names' list.
-/
import Derived.Test.YtligbandpmgmaaaTyLv
namespace Go.Proofs.Ytligbandpmgmaaa.TY

def VN (t : Nd) : Prop := ∀ s ∈ occ t, ∃ y, y < 10 ∧ s = vName y
theorem VN.mk' {k n : Int} {s : ByteArray} {l : List Nd} (h : k = 1 ∨ k = 14 → ∃ y, y < 10 ∧ s = vName y) (hl : ∀ x ∈ l, VN x) : VN (.mk k n s l) := by
  intro y hy
  rw [occ_eq, List.mem_append] at hy
  rcases hy with h1 | h1
  · by_cases hk : k = 1 ∨ k = 14
    · rw [if_pos hk, List.mem_singleton] at h1
      subst h1
      exact h hk
    · rw [if_neg hk] at h1
      cases h1
  · obtain ⟨m, hm, hz⟩ := List.mem_flatten.1 h1
    obtain ⟨x, hx, rfl⟩ := List.mem_map.1 hm
    exact hl x hx y hz
theorem VN.nil {k n : Int} {s : ByteArray} (h : k = 1 ∨ k = 14 → ∃ y, y < 10 ∧ s = vName y) : VN (.mk k n s []) := VN.mk' h fun x hx => by cases hx
theorem VN.k0 {k : Int} (h : ¬ (k = 1 ∨ k = 14)) {n : Int} {s : ByteArray} {l : List Nd} (hl : ∀ x ∈ l, VN x) : VN (.mk k n s l) := VN.mk' (fun e => absurd e h) hl
theorem genF_vn (L : List Int) (deep : Bool) {sub : Nat → Nat → Nd × Nat} (hs : ∀ t i, VN (sub t i).1) (want i : Nat) : VN (genF L deep sub want i).1 := by
  have h1 : ∀ k s t i, ¬ (k = 1 ∨ k = 14) → VN (one sub k s t i).1 := fun k s t i hk => by
    unfold one
    exact VN.k0 hk fun x hx => by
      rw [List.mem_singleton] at hx
      subst hx
      exact hs _ _
  have h2 : ∀ s t i, VN (two sub s t i).1 := fun s t i => by
    unfold two
    exact VN.k0 (by decide) fun x hx => by
      rcases List.mem_cons.1 hx with rfl | hx
      · exact hs _ _
      · rw [List.mem_singleton] at hx
        subst hx
        exact hs _ _
  unfold genF genB genI genL
  repeat' split
  all_goals first
    | exact h2 _ _ _
    | exact h1 _ _ _ _ (by decide)
    | exact VN.nil (fun e => absurd e (by decide))
    | exact VN.nil (fun _ => ⟨_, nxt_lt _ _ (by decide), rfl⟩)
theorem genE_vn (L : List Int) : ∀ d want i, VN (genE L d want i).1
  | 0 => genF_vn L false fun _ _ => VN.nil (fun e => absurd e (by decide))
  | d + 1 => genF_vn L true (genE_vn L d)
theorem vn_undec {t : Nd} (h : VN t) : undec (Nms 10) t = false := by
  rw [undec_occ, List.any_eq_false]
  intro s hs
  obtain ⟨y, hy, rfl⟩ := h s hs
  have : vName y ∈ Nms 10 := List.mem_map.2 ⟨y, List.mem_range.2 hy, rfl⟩
  rw [inL_iff.2 this]
  decide
end Go.Proofs.Ytligbandpmgmaaa.TY
namespace Go.Proofs.Ytligbandpmgmaaa
open Go TY
theorem exprT_vn (zs : List Int) : undec (Nms 10) (exprT zs) = false := vn_undec (genE_vn _ _ _ _)
abbrev sVa : ByteArray := ⟨#[118, 97]⟩
abbrev e0 : Nd := .mk 11 0 ⟨#[]⟩ []
theorem va_in : inL (Nms 10) sVa = true := by decide +kernel
section
variable {a b : Nd} (ha : undec (Nms 10) a = false) (hb : undec (Nms 10) b = false)
include ha
theorem ok_if : oneOk (.mk 2 0 ⟨#[]⟩ [a, e0, e0]) = decide (tyOf a = 2) := by
  simp [oneOk, wellP_eq, undec_eq, ha, e0]
theorem ok_while : oneOk (.mk 3 0 ⟨#[]⟩ [a, e0]) = decide (tyOf a = 2) := by
  simp [oneOk, wellP_eq, undec_eq, ha, e0]
theorem ok_assign : oneOk (.mk 1 0 sVa [a]) = decide (tyOf a = 1) := by
  simp [oneOk, wellP_eq, undec_eq, ha, va_in]
theorem ok_fail : oneOk (.mk 9 0 ⟨#[]⟩ [a]) = decide (tyOf a = 1) := by
  simp [oneOk, wellP_eq, undec_eq, ha]
include hb
theorem ok_reply : oneOk (.mk 8 0 ⟨#[]⟩ [a, b]) = (decide (tyOf a = 1) && decide (tyOf b = 1)) := by
  simp [oneOk, wellP_eq, undec_eq, ha, hb]
theorem ok_send (n : Int) : oneOk (.mk 4 n ⟨#[]⟩ [a, b, a]) = (decide (tyOf a = 1) && decide (tyOf b = 1)) := by
  simp [oneOk, wellP_eq, undec_eq, ha, hb]
  by_cases h1 : tyOf a = 1 <;> by_cases h2 : tyOf b = 1 <;> simp [h1, h2]
end
theorem ty_draw (a : Nd) : tyOf (.mk 16 0 ⟨#[]⟩ [a]) = if tyOf a = 1 then 1 else 0 := by
  rw [tyOf_eq, if_neg (by decide), if_neg (by decide)]
  have : rule 16 ⟨#[]⟩ = ([1], 1) := by decide +kernel
  rw [this]
  simp
end Go.Proofs.Ytligbandpmgmaaa
