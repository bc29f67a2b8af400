/-
  What the condition on math/bits' table gives the walks: its 64 cells; and that the door's own heap meets it.
-/
import Derived.Test.YtlomhoohmcnniaaDoorK2
import Derived.ProofKit
import Derived.LaidMore
import Derived.OpenShut
import Derived.Stop.Joined

namespace Go.Proofs.YtlomhoohmcnniaaDoor
open Go Go.ChangeShapes Go.WideShapes Go.ChangeAt Go.WideMaps Go.WideElems Go.RowKit

def laidT : List (String × DataW Unit) := [("math/bits.deBruijn64tab", Rows.laid_math_bits_deBruijn64tab)]
theorem gTab : Tryd.prog.globalNamed "math/bits.deBruijn64tab" = some 0 := by kernel_rfl
theorem tTab : (Tryd.prog.globals[0]?).map (·.type) = some 105 := by kernel_rfl
theorem door_met (os : Os) (args : Array Value) : laidMetH Tryd.prog laidT ((World.doorLaid Tryd.prog 14 os).forCall (fun _ _ => 0) ⟨#[], args, []⟩).memory :=
  laidMetH_of_parts3 (fuel := 8) (laidMet_of_run' 8 (by kernel_rfl) (by kernel_rfl)) (by kernel_rfl) (by kernel_rfl)
set_option maxRecDepth 100000 in
theorem of_laid {W : World} (h : laidMetH Tryd.prog laidT W) : Tab W := by
  rw [MakeChecks.laidMetH_plain _ _ _ (by kernel_rfl)] at h
  obtain ⟨ps, ⟨g0, t0, cs0, f0, p0, q0, hg0, ht0, hv0, hd0, _, _⟩, _, _⟩ := h
  obtain rfl := Option.some.inj (gTab.symm.trans hg0)
  obtain rfl := Option.some.inj (tTab.symm.trans ht0)
  obtain ⟨xs, m1, rfl, hx1, hlen, hn3, hel⟩ := DataW.trod_array Tryd.underlying105 hd0
  have c5 : Tryd.prog.cellsOf 5 = 1 := by kernel_rfl
  have hL : xs.map (·.1) = tabL.map fun n : Nat => (.lit (.int .u8 (n : Int)) : DataW Unit) := by
    have h1 := congrArg Prod.fst hx1
    have h2 : (Rows.laid_math_bits_deBruijn64tab : DataW Unit) = .agg (tabL.map fun n : Nat => (.lit (.int .u8 (n : Int)) : DataW Unit)) := by kernel_rfl
    exact (DataW.agg.inj (h2.symm.trans h1)).symm
  intro i hi
  have h0 := hel i hi
  have hxi : i < xs.length := by omega
  rw [List.getElem?_eq_getElem hxi, c5, Nat.mul_one] at h0
  obtain ⟨k, e1, e2, _⟩ := DataW.trod_int Tryd.underlying5 h0
  have h3 := congrArg (·[i]?) hL
  simp only [List.getElem?_map] at h3
  rw [List.getElem?_eq_getElem hxi, e2] at h3
  have hti : i < tabL.length := by
    have := congrArg List.length hL
    simp only [List.length_map] at this
    omega
  rw [List.getElem?_eq_getElem hti] at h3 ⊢
  simp only [Option.map_some, Option.some.injEq, DataW.lit.injEq, Lit.int.injEq, true_and] at h3
  rw [World.var?_cell hg0 hv0 i]
  have h4 : (cs0.toList.drop i)[0]? = some (.int .u8 k) := by
    have h5 : ((cs0.toList.drop i).take 1)[0]? = some (.int .u8 k) := by rw [e1]; rfl
    rw [List.getElem?_take_of_lt (by omega)] at h5
    exact h5
  rw [List.getElem?_drop, Array.getElem?_toList, Nat.add_zero] at h4
  rw [h4, h3]
  rfl
end Go.Proofs.YtlomhoohmcnniaaDoor
