/-
  A duplicate of an envelope. Plain mathematics; no function of the program.
-/
import Derived.Test.YtepbppckhfiplaaNwM
namespace Go.Proofs.Ytepbppckhfiplaa.NW
open NM

def withP (e : En) (p : Int) : En := ⟨⟨e.m.c, e.m.h, e.m.t, e.m.i, p⟩, e.o, e.k, e.a, e.b⟩
/-- The error, the name and the set. -/
def copy (l : List En) (m : Ms) (p : Int) : Int × Ms × List En := match find l m with
  | none => (3, m0, [])
  | some e => if has l (withP e p).m then (4, m0, []) else (0, (withP e p).m, put l (withP e p))
theorem copy_none {l : List En} {m : Ms} (h : find l m = none) (p : Int) : copy l m p = (3, m0, []) := by unfold copy; rw [h]
theorem copy_some {l : List En} {m : Ms} {e : En} (h : find l m = some e) (p : Int) : copy l m p = if has l (withP e p).m then (4, m0, []) else (0, (withP e p).m, put l (withP e p)) := by unfold copy; rw [h]
end Go.Proofs.Ytepbppckhfiplaa.NW
