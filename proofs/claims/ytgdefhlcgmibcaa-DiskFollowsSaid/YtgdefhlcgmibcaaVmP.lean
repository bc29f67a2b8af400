/-
  The machine's push and pop, and its stores. No condition but the lengths.
-/
import Derived.Test.YtgdefhlcgmibcaaVmM
import Derived.Maps.AppendAt
import Derived.Deep.Cut
namespace Go.Proofs.Ytgdefhlcgmibcaa
open Go Go.RowKit Go.Proofs
attribute [local go_sem] Oper.semAt_some

theorem seg_one {T : Array Value} {j : Nat} {v : Value} (hv : v.cells = #[v]) (hj : j < T.size) : T.setIfInBounds j v = (T.toList.take j ++ v.cells.toList ++ T.toList.drop (j + v.cells.size)).toArray := by
  rw [hv]
  apply Array.ext'
  rw [Array.toList_setIfInBounds]
  show _ = T.toList.take j ++ [v] ++ T.toList.drop (j + 1)
  rw [List.set_eq_take_append_cons_drop, if_pos (by simpa using hj)]
  simp
theorem vm_sz_ints : (Try.prog.info? 22).map (·.size) = some 1 := by kernel_rfl
theorem vm_sz_acts : (Try.prog.info? 56).map (·.size) = some 1 := by kernel_rfl
theorem vm_sz_bool : (Try.prog.info? 4).map (·.size) = some 1 := by kernel_rfl
theorem vm_act : (Try.prog.info? 63).map (fun i => (i.zero, i.size, i.bytes)) = some (some (.agg #[.int .i64 0, .int .i64 0, .int .i64 0, .int .i64 0, .int .i64 0]), 5, 40) := by kernel_rfl
section
variable {F : MFix} {T : Array Value} {s : VM.St} {V K A : Value}
theorem MCells.set_stack (h : MCells F T s V K A) (K' : Value) (st : List Int) : MCells F (T.setIfInBounds 36 K') { s with stack := st } V K' A := by
  have hs := h.size
  refine ⟨by simpa using hs, fun i x hx => ?_, h.el, ?_, fun i x hx => ?_, h.nl, ?_, ?_, ?_, ?_, ?_, ?_, ?_, ?_⟩
  · have hi : i < 24 := by have := (List.getElem?_eq_some_iff.1 hx).1; have := h.el; omega
    rw [Array.getElem?_setIfInBounds_ne (by omega)]; exact h.eff i x hx
  · rw [Array.getElem?_setIfInBounds_ne (by omega)]; exact h.ask
  · have hi : i < 9 := by have := (List.getElem?_eq_some_iff.1 hx).1; have := h.nl; omega
    rw [Array.getElem?_setIfInBounds_ne (by omega)]; exact h.names i x hx
  · rw [Array.getElem?_setIfInBounds_ne (by omega)]; exact h.dur
  · rw [Array.getElem?_setIfInBounds_ne (by omega)]; exact h.vars
  · rw [Array.getElem?_setIfInBounds_self, if_pos (by omega)]
  · rw [Array.getElem?_setIfInBounds_ne (by omega)]; exact h.next
  · rw [Array.getElem?_setIfInBounds_ne (by omega)]; exact h.stopped
  · rw [Array.getElem?_setIfInBounds_ne (by omega)]; exact h.asked
  · rw [Array.getElem?_setIfInBounds_ne (by omega)]; exact h.sent
  · rw [Array.getElem?_setIfInBounds_ne (by omega)]; exact h.acts
theorem MCells.set_acts (h : MCells F T s V K A) (A' : Value) (l : List VM.Ac) : MCells F (T.setIfInBounds 41 A') { s with acts := l } V K A' := by
  have hs := h.size
  refine ⟨by simpa using hs, fun i x hx => ?_, h.el, ?_, fun i x hx => ?_, h.nl, ?_, ?_, ?_, ?_, ?_, ?_, ?_, ?_⟩
  · have hi : i < 24 := by have := (List.getElem?_eq_some_iff.1 hx).1; have := h.el; omega
    rw [Array.getElem?_setIfInBounds_ne (by omega)]; exact h.eff i x hx
  · rw [Array.getElem?_setIfInBounds_ne (by omega)]; exact h.ask
  · have hi : i < 9 := by have := (List.getElem?_eq_some_iff.1 hx).1; have := h.nl; omega
    rw [Array.getElem?_setIfInBounds_ne (by omega)]; exact h.names i x hx
  · rw [Array.getElem?_setIfInBounds_ne (by omega)]; exact h.dur
  · rw [Array.getElem?_setIfInBounds_ne (by omega)]; exact h.vars
  · rw [Array.getElem?_setIfInBounds_ne (by omega)]; exact h.stack
  · rw [Array.getElem?_setIfInBounds_ne (by omega)]; exact h.next
  · rw [Array.getElem?_setIfInBounds_ne (by omega)]; exact h.stopped
  · rw [Array.getElem?_setIfInBounds_ne (by omega)]; exact h.asked
  · rw [Array.getElem?_setIfInBounds_ne (by omega)]; exact h.sent
  · rw [Array.getElem?_setIfInBounds_self, if_pos (by omega)]
theorem MCells.set_next (h : MCells F T s V K A) (x : Int) : MCells F (T.setIfInBounds 37 (.int .i64 x)) { s with next := x } V K A := by
  have hs := h.size
  refine ⟨by simpa using hs, fun i x hx => ?_, h.el, ?_, fun i x hx => ?_, h.nl, ?_, ?_, ?_, ?_, ?_, ?_, ?_, ?_⟩
  · have hi : i < 24 := by have := (List.getElem?_eq_some_iff.1 hx).1; have := h.el; omega
    rw [Array.getElem?_setIfInBounds_ne (by omega)]; exact h.eff i x hx
  · rw [Array.getElem?_setIfInBounds_ne (by omega)]; exact h.ask
  · have hi : i < 9 := by have := (List.getElem?_eq_some_iff.1 hx).1; have := h.nl; omega
    rw [Array.getElem?_setIfInBounds_ne (by omega)]; exact h.names i x hx
  · rw [Array.getElem?_setIfInBounds_ne (by omega)]; exact h.dur
  · rw [Array.getElem?_setIfInBounds_ne (by omega)]; exact h.vars
  · rw [Array.getElem?_setIfInBounds_ne (by omega)]; exact h.stack
  · rw [Array.getElem?_setIfInBounds_self, if_pos (by omega)]
  · rw [Array.getElem?_setIfInBounds_ne (by omega)]; exact h.stopped
  · rw [Array.getElem?_setIfInBounds_ne (by omega)]; exact h.asked
  · rw [Array.getElem?_setIfInBounds_ne (by omega)]; exact h.sent
  · rw [Array.getElem?_setIfInBounds_ne (by omega)]; exact h.acts
theorem MCells.set_stopped (h : MCells F T s V K A) (x : Bool) : MCells F (T.setIfInBounds 38 (.bool x)) { s with stopped := x } V K A := by
  have hs := h.size
  refine ⟨by simpa using hs, fun i x hx => ?_, h.el, ?_, fun i x hx => ?_, h.nl, ?_, ?_, ?_, ?_, ?_, ?_, ?_, ?_⟩
  · have hi : i < 24 := by have := (List.getElem?_eq_some_iff.1 hx).1; have := h.el; omega
    rw [Array.getElem?_setIfInBounds_ne (by omega)]; exact h.eff i x hx
  · rw [Array.getElem?_setIfInBounds_ne (by omega)]; exact h.ask
  · have hi : i < 9 := by have := (List.getElem?_eq_some_iff.1 hx).1; have := h.nl; omega
    rw [Array.getElem?_setIfInBounds_ne (by omega)]; exact h.names i x hx
  · rw [Array.getElem?_setIfInBounds_ne (by omega)]; exact h.dur
  · rw [Array.getElem?_setIfInBounds_ne (by omega)]; exact h.vars
  · rw [Array.getElem?_setIfInBounds_ne (by omega)]; exact h.stack
  · rw [Array.getElem?_setIfInBounds_ne (by omega)]; exact h.next
  · rw [Array.getElem?_setIfInBounds_self, if_pos (by omega)]
  · rw [Array.getElem?_setIfInBounds_ne (by omega)]; exact h.asked
  · rw [Array.getElem?_setIfInBounds_ne (by omega)]; exact h.sent
  · rw [Array.getElem?_setIfInBounds_ne (by omega)]; exact h.acts
theorem MCells.set_sent (h : MCells F T s V K A) (x : Int) : MCells F (T.setIfInBounds 40 (.int .i64 x)) { s with sent := x } V K A := by
  have hs := h.size
  refine ⟨by simpa using hs, fun i x hx => ?_, h.el, ?_, fun i x hx => ?_, h.nl, ?_, ?_, ?_, ?_, ?_, ?_, ?_, ?_⟩
  · have hi : i < 24 := by have := (List.getElem?_eq_some_iff.1 hx).1; have := h.el; omega
    rw [Array.getElem?_setIfInBounds_ne (by omega)]; exact h.eff i x hx
  · rw [Array.getElem?_setIfInBounds_ne (by omega)]; exact h.ask
  · have hi : i < 9 := by have := (List.getElem?_eq_some_iff.1 hx).1; have := h.nl; omega
    rw [Array.getElem?_setIfInBounds_ne (by omega)]; exact h.names i x hx
  · rw [Array.getElem?_setIfInBounds_ne (by omega)]; exact h.dur
  · rw [Array.getElem?_setIfInBounds_ne (by omega)]; exact h.vars
  · rw [Array.getElem?_setIfInBounds_ne (by omega)]; exact h.stack
  · rw [Array.getElem?_setIfInBounds_ne (by omega)]; exact h.next
  · rw [Array.getElem?_setIfInBounds_ne (by omega)]; exact h.stopped
  · rw [Array.getElem?_setIfInBounds_ne (by omega)]; exact h.asked
  · rw [Array.getElem?_setIfInBounds_self, if_pos (by omega)]
  · rw [Array.getElem?_setIfInBounds_ne (by omega)]; exact h.acts
end
theorem mcell {w : World} {g j : Nat} {T : Array Value} {v : Value} (hg : w.heap[g]? = some (.cells T 78 (0, 0))) (h : T[j]? = some v) : w.cell? ⟨g, j, none⟩ = some v := (cell_of_row w g j _ _ (0, 0) hg).trans h
theorem grown_keepV {B : Nat} {w w' : World} {t : TypeId} {sz n : Nat} {us : List Value} {x : Value} (ho : w.ownsRow B t sz x n us) (hg : w.grownBy w' x.ownBlock) (hB : B ≤ w.heap.size) (ht : t = 3 ∨ t = 63) : KeepV B w w' :=
  ⟨dk_grown ho (Below.refl _ _) hg hB, fun b _ t' hb h1 h2 _ => hg.block b (blk_lt hb) (fun e => ne_ty ho hb (fun e => by rcases ht with rfl | rfl; exact h1 e.symm; exact h2 e.symm) e.symm)⟩
end Go.Proofs.Ytgdefhlcgmibcaa
