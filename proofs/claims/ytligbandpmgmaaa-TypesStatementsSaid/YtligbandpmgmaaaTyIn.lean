/-
  The contract of the reference model's Ints: a copy of a slice's first elements. Condition: the slice holds integers.
-/
import Derived.Test.YtligbandpmgmaaaTyI
import Derived.Test.YtligbandpmgmaaaBase
namespace Go.Proofs.Ytligbandpmgmaaa
open Go Go.RowKit

/-- A slice that the call made, of the integers zs. -/
def Mk (t : TypeId) (k : IntKind) (w : World) (zs : List Int) (e : Ending) (w' : World) : Prop :=
  ∃ A n c, e = .returned (.slice A n c) ∧ zs.length = n ∧ Lst t k w'.heap.size w' A n c zs ∧ w'.ownsRow w.heap.size t 1 (.slice A n c) n (zs.map (Value.int k)) ∧ Below w.heap.size w w'
theorem mk_own {t : TypeId} {k : IntKind} {w w1 : World} {v : Value} {m : Nat} {zs : List Int} (h : w1.ownsRow w.heap.size t 1 v m (zs.map (Value.int k))) (hb : Below w.heap.size w w1) : Mk t k w zs (.returned v) w1 := by
  have hl : zs.length = m := by have := h.1; simpa using this
  obtain ⟨A, c, rfl, h1, h2⟩ := own_slice h
  exact ⟨A, m, c, rfl, hl, Lst.of_own h, h, hb⟩
theorem mk_of {t : TypeId} {k : IntKind} {w w1 : World} {v : Value} {m : Nat} {zs : List Int} (h : w1.ownsRow w.heap.size t 1 v (0 + m) ([] ++ zs.map (Value.int k))) (hb : Below w.heap.size w w1) : Mk t k w zs (.returned v) w1 := by
  rw [Nat.zero_add, List.nil_append] at h
  exact mk_own h hb
theorem mk_none (t : TypeId) (k : IntKind) (w : World) (zs : List Int) (h : zs = []) : Mk t k w zs (.returned (.slice none 0 0)) w := by
  subst h
  exact mk_own (m := 0) ⟨rfl, .inl ⟨rfl, rfl⟩⟩ (Below.refl _ _)

set_option maxHeartbeats 400000 in
theorem ints_any (a : Option Addr) (n c : Nat) (zs : List Int) (k : Int) (h0 : 0 ≤ k) (hk : k ≤ 1000) (w : World) (hS : Slc .i64 w a n c zs) :
    Calls Try.prog 10 #[.slice a n c, .int .i64 k] w (Mk 3 .i64 w (zs.take k.toNat)) := by
  obtain ⟨k, rfl⟩ := Int.eq_ofNat_of_zero_le h0
  obtain ⟨i0, hi, hz0, hz1, hz2⟩ := info_parts info_int
  obtain ⟨hl, hnc, hcm, hx⟩ := hS
  have hlt : (zs.take k).length = min k n := by rw [List.length_take, hl]
  have HL := Lib.hid hlt
  unfold maxLen at hcm
  rcases hx with ⟨rfl, rfl⟩ | ⟨x, rfl, hc⟩
  · obtain rfl : n = 0 := by omega
    obtain rfl : zs = [] := List.eq_nil_of_length_eq_zero hl
    clear hlt
    go_enter Try.func10, Try.ntmps10
    go_wp2_with (at_builtin; refine wpList_append_own_none rfl _ _ 22 rfl w.heap.size 3 i0 1 Try.underlying22 hi (.slice none 0 0) 0 [] rfl ⟨rfl, .inl ⟨rfl, rfl⟩⟩ rfl ?_)
    go_ret
    exact mk_none _ _ _ _ (by simp)
  · have hcs : ∀ j u, ((zs.take k).map (Value.int .i64))[j]? = some u → w.cell? (x.add j) = some u := fun j u hu => hc j u (by
      rw [List.map_take] at hu
      rw [← hu, List.getElem?_take_of_lt]
      rcases Nat.lt_or_ge j k with h | h
      · exact h
      · rw [List.getElem?_take_eq_none h] at hu; cases hu)
    have HC := Lib.hid hcs
    clear hc hcs hlt
    by_cases hkn : n ≤ k
    all_goals
      go_enter Try.func10, Try.ntmps10
      go_wp2_with (at_builtin
                   refine wpList_append_own _ rfl _ _ 22 rfl w.heap.size 3 i0 _ 1 8 Try.underlying22 hi hz0 hz1 hz2 rfl (by decide) (.slice none 0 0) 0 [] rfl ⟨rfl, .inl ⟨rfl, rfl⟩⟩ x _ _ ((zs.take k).map (Value.int .i64)) rfl (by rw [List.length_map, HL.out]; omega) HC.out (ints_oneCell _ _) (by simp only [maxLen]; omega) (by omega) (Nat.le_refl _) ?_
                   intro v' w1 hown' hgrow _)
      go_ret
      exact mk_of hown' ((Below.refl _ w).grown hgrow (Nat.le_refl _) (fun k e => by cases e))

end Go.Proofs.Ytligbandpmgmaaa
