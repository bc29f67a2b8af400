/-
  Where an envelope belongs in a set, step by step. Plain mathematics; no function of the program.
-/
import Derived.Test.YtepbppckhfiplaaNwM
namespace Go.Proofs.Ytepbppckhfiplaa.NW
open NM

theorem lo_step {l : List En} {m : Ms} {k : Nat} {x : En} (hx : l[k]? = some x) (h : ltM x.m m) : k + lo (l.drop k) m = (k + 1) + lo (l.drop (k + 1)) m := by
  obtain ⟨h1, e⟩ := List.getElem?_eq_some_iff.1 hx
  rw [List.drop_eq_getElem_cons h1, e, lo_cons, if_pos h]
  omega
theorem lo_halt {l : List En} {m : Ms} {k : Nat} {x : En} (hx : l[k]? = some x) (h : ¬ ltM x.m m) : k + lo (l.drop k) m = k := by
  obtain ⟨h1, e⟩ := List.getElem?_eq_some_iff.1 hx
  rw [List.drop_eq_getElem_cons h1, e, lo_cons, if_neg h]
  omega
theorem lo_over {l : List En} {m : Ms} {k : Nat} (h : l.length ≤ k) : k + lo (l.drop k) m = k := by
  rw [List.drop_eq_nil_of_le h]
  rfl
theorem put_at {l : List En} {e : En} {k : Nat} (h : lo l e.m = k) : put l e = l.take k ++ ([e] ++ l.drop k) := by
  unfold put
  rw [h]
  rfl
end Go.Proofs.Ytepbppckhfiplaa.NW
