/-
  Pure and memory words of the law TapeParts: the numbers from the greatest down; a row of integers that grows beside a tape.
-/
import Derived.Test.YtiokiecnglmbnaaK44
import Derived.Test.YtiokiecnglmbnaaK42
import Derived.Test.YtiokiecnglmbnaaK47

namespace Go.Proofs.Ytiokiecnglmbnaa
open Go Go.RowKit Go.Proofs
/-- The numbers from n - 1 down to k. -/
def TP.downs (n k : Nat) : List Int := (List.range (n - k)).map fun (j : Nat) => (n : Int) - 1 - (j : Int)
theorem TP.downs_len (n k : Nat) : (TP.downs n k).length = n - k := by simp [TP.downs]
theorem TP.downs_self (n : Nat) : TP.downs n n = [] := by simp [TP.downs]
theorem TP.downs_next {n k : Nat} (h : k + 1 ≤ n) : TP.downs n k = TP.downs n (k + 1) ++ [(k : Int)] := by
  unfold TP.downs
  rw [show n - k = (n - (k + 1)) + 1 by omega, List.range_succ, List.map_append]
  congr 1
  simp only [List.map_cons, List.map_nil, List.cons.injEq, and_true]
  omega
theorem TP.mem_downs {n : Nat} {x : Int} (h0 : 0 ≤ x) (h1 : x < n) : x ∈ TP.downs n 0 := by
  unfold TP.downs
  rw [List.mem_map]
  exact ⟨n - 1 - x.toNat, by rw [List.mem_range]; omega, by omega⟩
theorem TP.downs_64 {n : Nat} (h : n ≤ 1000) (k : Nat) : ∀ x ∈ TP.downs n k, I64 x := by
  intro x hx
  unfold TP.downs at hx
  rw [List.mem_map] at hx
  obtain ⟨j, hj, rfl⟩ := hx
  rw [List.mem_range] at hj
  unfold I64
  omega
/-- A row of integers grows: a tape stands. -/
theorem TapeIs.grewI {lo L : Nat} {w w' : World} {E A : Option Addr} {ne ce na ca n : Nat} {es : List NM.Ev} {l : List TP.An} {v : Value} {xs : List Value} (h : TapeIs lo w E ne ce A na ca es l) (ho : w.ownsRow L 3 1 v n xs) (hg : w.grownBy w' v.ownBlock) : TapeIs lo w' E ne ce A na ca es l := by
  cases hv : v.ownBlock with
  | none =>
    rw [hv] at hg
    exact h.keep ⟨hg.os, hg.tape, hg.output, hg.size, fun b hb => hg.block b hb (by simp)⟩
  | some b =>
    rw [hv] at hg
    obtain ⟨_, C, hC⟩ := own_int ho hv
    exact h.grown hg hC (by decide) (by decide)
theorem own_ints {L : Nat} {w : World} {A : Option Addr} {n c : Nat} {xs : List Int} (h : w.ownsRow L 3 1 (.slice A n c) n (xs.map (Value.int .i64))) : Ints .i64 w.heap.size w A n xs := by
  have hl : xs.length = n := by have := h.1; simpa using this
  refine ⟨hl, fun hn => ?_⟩
  obtain ⟨g, cap, hv, hb, hlt⟩ := h.form hn
  injection hv with hA
  subst hA
  refine ⟨g, 0, rfl, hlt, fun j hj => ?_⟩
  have := h.cells (g := g) rfl j (.int .i64 (xs[j]?.getD 0)) (by rw [List.getElem?_map, List.getElem?_eq_getElem (by omega)]; rfl)
  rw [Addr.add_lit] at this
  exact this
end Go.Proofs.Ytiokiecnglmbnaa
