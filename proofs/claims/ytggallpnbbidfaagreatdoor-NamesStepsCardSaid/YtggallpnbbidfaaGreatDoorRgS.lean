/-
  A region that draws its order, guards and all, in which every operation leaves a value that is known ahead, or a new row of known cells: what its slots hold behind it, in whatever order. No function of the program.
-/
import Derived.Test.YtggallpnbbidfaaGreatDoorRgV
import Derived.Test.YtggallpnbbidfaaGreatDoorBase
namespace Go.Proofs.YtggallpnbbidfaaGreatDoor
open Go Go.RowKit Go.Proofs

/-- What a slot is to hold: a value; a slice over a row of its own that holds these cells. -/
inductive Sq where
  | val (v : Value)
  | row (C : Array Value) (t : TypeId) (n : Nat)
def Sq.ok (w : World) : Sq → Value → Prop
  | .val v, x => x = v
  | .row C t n, x => ∃ g, x = .slice (some ⟨g, 0, none⟩) n n ∧ w.heap[g]? = some (.cells C t (0, 0))
theorem Sq.ok.keep {w w' : World} {s : Sq} {x : Value} (h : s.ok w x) (hb : Below w.heap.size w w') : s.ok w' x := by
  cases s with
  | val v => exact h
  | row C t n =>
    obtain ⟨g, e, h⟩ := h
    exact ⟨g, e, (hb.block g (Array.getElem?_eq_some_iff.1 h).1).trans h⟩
structure RS (N : Nat) (sl : Nat → Nat) (sp : Nat → Sq) (W : World) (a0 : Act) (listed : Array Bool) (a : Act) (w : World) : Prop where
  size : a.tmps.size = a0.tmps.size
  defers : a.defers = a0.defers
  low : ∀ j, (∀ i, i < N → sl i ≠ j) → a.tmps[j]? = a0.tmps[j]?
  held : Below W.heap.size W w
  ok : ∀ i, i < N → listed.getD i false = true → ∃ y, a.tmps[sl i]? = some y ∧ (sp i).ok w y
section
variable {N : Nat} {sl : Nat → Nat} {sp : Nat → Sq} {W : World} {a0 a : Act} {w w' : World} {listed : Array Bool}
theorem RS.put (hsl : ∀ i, i < N → sl i < a0.tmps.size) (hinj : ∀ i j, i < N → j < N → sl i = sl j → i = j) (h : RS N sl sp W a0 listed a w) (hb : Below w.heap.size w w') {i : Nat} (hi : i < N) {v : Value} (hv : (sp i).ok w' v) :
    RS N sl sp W a0 (listed.setIfInBounds i true) (a.put (some (sl i)) v) w' := by
  have hs := h.size
  refine ⟨by simp [Act.put, hs], h.defers, fun j hj => ?_, h.held.trans (hb.mono h.held.size), fun j hj hl => ?_⟩
  · rw [← h.low j hj]
    simp only [Act.put]
    rw [Array.getElem?_setIfInBounds_ne (hj i hi)]
  · simp only [Act.put]
    by_cases e : j = i
    · subst e
      rw [Array.getElem?_setIfInBounds_self, if_pos (by rw [hs]; exact hsl j hj)]
      exact ⟨v, rfl, hv⟩
    · rw [Array.getElem?_setIfInBounds_ne (fun e2 => e (hinj j i hj hi e2.symm))]
      rw [Array.getD_eq_getD_getElem?, Array.getElem?_setIfInBounds_ne (fun e2 => e e2.symm), ← Array.getD_eq_getD_getElem?] at hl
      obtain ⟨y, h1, h2⟩ := h.ok j hj hl
      exact ⟨y, h1, h2.keep hb⟩
theorem RS.at_ (h : RS N sl sp W a0 listed a w) {i j : Nat} {s : Sq} (hj : sl i = j) (hs : sp i = s) (hi : i < N) (hl : listed.getD i false = true) : ∃ y, a.tmps[j]? = some y ∧ s.ok w y := by
  subst hj
  subst hs
  exact h.ok i hi hl
theorem RS.val_ (h : RS N sl sp W a0 listed a w) {i j : Nat} {v : Value} (hj : sl i = j) (hs : sp i = .val v) (hi : i < N) (hl : listed.getD i false = true) : a.tmps[j]? = some v := by
  obtain ⟨y, h1, h2⟩ := h.at_ hj hs hi hl
  rw [h1, show y = v from h2]
theorem RS.row_ (h : RS N sl sp W a0 listed a w) {i j : Nat} {C : Array Value} {t : TypeId} {n : Nat} (hj : sl i = j) (hs : sp i = .row C t n) (hi : i < N) (hl : listed.getD i false = true) : ∃ g, a.tmps[j]?.getD undef = .slice (some ⟨g, 0, none⟩) n n ∧ w.heap[g]? = some (.cells C t (0, 0)) := by
  obtain ⟨y, h1, g, h2, h3⟩ := h.at_ hj hs hi hl
  exact ⟨g, by rw [h1, ← h2]; rfl, h3⟩
end
/-- What operation i does: nothing, where it is not wanted; else it leaves its value, by itself or by a call. -/
inductive DoesS (P : Program) (ops : Array Oper) (s : Sq) (a : Act) (w : World) (o : Oper) : Prop where
  | skip (h : Region.wanted o (yielded ops a.tmps) = false) (e : s = .val undef)
  | run (h : Region.wanted o (yielded ops a.tmps) = true) (v : Value) (w' : World) (e : (execOp a.eval o).run P w = .ok (.value v) w') (b : Below w.heap.size w w') (c : s.ok w' v)
  | call (h : Region.wanted o (yielded ops a.tmps) = true) (f : FuncId) (args : Array Value) (v : Value) (e : (execOp a.eval o).run P w = .ok (.enter f args) w) (es : s = .val v) (c : Calls P f args w fun e w' => e = .returned v ∧ Below w.heap.size w w')
theorem region_specs {P : Program} {id : Nat} {ops : Array Oper} {Q : Exit → Act → World → Prop} {a0 : Act} {W : World} (N : Nat) (sl : Nat → Nat) (sp : Nat → Sq) (hm : P.follows .mixedOrders = true) (hN : ops.size = N) (hb : backsV ops = true)
    (hsl : ∀ i, i < N → sl i < a0.tmps.size) (hinj : ∀ i j, i < N → j < N → sl i = sl j → i = j)
    (step : ∀ (listed : Array Bool) (a : Act) (w : World) (i : Nat) (o : Oper), RS N sl sp W a0 listed a w → ops[i]? = some o → (∀ e ∈ o.after, Region.binds .any e = true → listed.getD e.on false = true) → o.dst = some (sl i) ∧ DoesS P ops (sp i) a w o)
    (fin : ∀ (a : Act) (w : World), a.tmps.size = a0.tmps.size → a.defers = a0.defers → (∀ j, (∀ i, i < N → sl i ≠ j) → a.tmps[j]? = a0.tmps[j]?) → Below W.heap.size W w → (∀ i j s, i < N → sl i = j → sp i = s → ∃ y, a.tmps[j]? = some y ∧ s.ok w y) → Q .normal a w) : (Code.region id ops true).wp P Q a0 W := by
  refine wp_region_any hm ?_
  refine wpAny_inv (RS N sl sp W a0) (fun listed a w i hs hI hi => ?_) (fun listed a w hs hr hI => ?_) _ _ _ _ (by simp) (by simp) ⟨rfl, rfl, fun _ _ => rfl, (Below.refl _ W).drew, fun i hi hl => ?_⟩
  · obtain ⟨h1, _, h3⟩ := ready_spec hi
    obtain ⟨o, ho⟩ : ∃ o, ops[i]? = some o := ⟨_, Array.getElem?_eq_getElem h1⟩
    obtain ⟨hd, hdo⟩ := step listed a w i o hI ho fun e he hbd => by
      have := h3 o ho
      rw [Array.all_eq_true_iff_forall_mem] at this
      have := this e he
      rw [hbd] at this
      simpa using this
    have hput := fun {V : World} (hV : Below w.heap.size w V) {v : Value} (hv : (sp i).ok V v) => hI.put hsl hinj hV (i := i) (by omega) hv
    unfold wpOp
    rw [ho]
    simp only
    cases hdo with
    | skip h e =>
      rw [if_neg (by rw [h]; simp), hd]
      exact hput (Below.refl _ _) (by rw [e]; rfl)
    | run h v w2 e b c =>
      rw [if_pos h]
      refine .inl ?_
      unfold Oper.wp
      rw [e]
      show RS _ _ _ _ _ _ (a.put o.dst _) w2
      rw [hd]
      exact hput b c
    | call h f args v e es c =>
      rw [if_pos h]
      refine .inl ?_
      unfold Oper.wp
      rw [e]
      refine c.mono ?_
      rintro e w' ⟨rfl, hb'⟩
      simp only
      rw [hd]
      exact hput hb' (by rw [es]; rfl)
  · exact fin a w hI.size hI.defers hI.low hI.held fun i j s hi hj hs => by subst hj; subst hs; exact hI.ok i hi (all_listed (by assumption) (fun i o ho e he => backsV_spec hb ho he) hr i (by omega))
  · rw [Array.getD_eq_getD_getElem?, Array.getElem?_replicate] at hl
    split at hl <;> simp at hl
theorem val_at {a : Act} {j : Nat} {v : Value} {w : World} (h : ∃ y, a.tmps[j]? = some y ∧ (Sq.val v).ok w y) : a.tmps[j]? = some v := by
  obtain ⟨y, h1, h2⟩ := h
  rw [h1, show y = v from h2]
theorem row_at {a : Act} {j : Nat} {C : Array Value} {t : TypeId} {n : Nat} {w : World} (h : ∃ y, a.tmps[j]? = some y ∧ (Sq.row C t n).ok w y) : ∃ y, a.tmps[j]? = some y := by
  obtain ⟨y, h1, _⟩ := h
  exact ⟨y, h1⟩
theorem new_row (w : World) (C : Array Value) (t : TypeId) (n : Nat) : (Sq.row C t n).ok (w.alloc (.cells C t)) (.slice (some ⟨w.heap.size, 0, none⟩) n n) := ⟨_, rfl, World.alloc_heap_new _ _⟩
end Go.Proofs.YtggallpnbbidfaaGreatDoor
