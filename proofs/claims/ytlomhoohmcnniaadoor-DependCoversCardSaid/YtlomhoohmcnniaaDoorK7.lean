/-
  A region that draws its order, guards and all, in which every operation leaves a value that is known ahead: what its slots hold behind it. No function of the program.
-/
import Derived.Test.YtlomhoohmcnniaaDoorK6
import Derived.RegionTactic

namespace Go.Proofs.YtlomhoohmcnniaaDoor
open Go Go.Proofs

/-- Every edge points back. -/
def backsV (ops : Array Oper) : Bool := (List.range ops.size).all fun i => match ops[i]? with
  | some o => o.after.all fun e => decide (e.on < i)
  | none => true
theorem backsV_spec {ops : Array Oper} (h : backsV ops = true) {i : Nat} {o : Oper} (ho : ops[i]? = some o) {e : Edge} (he : e ∈ o.after) : e.on < i := by
  unfold backsV at h
  rw [List.all_eq_true] at h
  have hi : i < ops.size := (Array.getElem?_eq_some_iff.1 ho).1
  have := h i (List.mem_range.2 hi)
  rw [ho] at this
  simp only at this
  rw [Array.all_eq_true_iff_forall_mem] at this
  simpa using this e he
/-- Where the region stands: the operations that are listed have left their values; the world meets S. -/
structure RV (N lo x : Nat) (sl : Nat → Nat) (vs : Nat → Value) (S : World → Prop) (a0 : Act) (listed : Array Bool) (a : Act) (w : World) : Prop where
  size : a.tmps.size = a0.tmps.size
  defers : a.defers = a0.defers
  low : ∀ j, j < lo → j ≠ x → a.tmps[j]? = a0.tmps[j]?
  held : S w
  ok : ∀ i, i < N → listed.getD i false = true → a.tmps[sl i]? = some (vs i)
section
variable {N lo x : Nat} {sl : Nat → Nat} {vs : Nat → Value} {S : World → Prop} {a0 a : Act} {w w' : World} {listed : Array Bool}
theorem RV.put (hsl : ∀ i, i < N → sl i < a0.tmps.size ∧ (lo ≤ sl i ∨ sl i = x)) (hinj : ∀ i j, i < N → j < N → sl i = sl j → i = j) (h : RV N lo x sl vs S a0 listed a w) (hS : S w') {i : Nat} (hi : i < N) :
    RV N lo x sl vs S a0 (listed.setIfInBounds i true) (a.put (some (sl i)) (vs i)) w' := by
  have hs := h.size
  refine ⟨by simp [Act.put, hs], h.defers, fun j hj hx => ?_, hS, fun j hj hl => ?_⟩
  · rw [← h.low j hj hx]
    simp only [Act.put]
    rw [Array.getElem?_setIfInBounds_ne]
    have := (hsl i hi).2
    omega
  · simp only [Act.put]
    by_cases e : j = i
    · subst e
      rw [Array.getElem?_setIfInBounds_self, if_pos (by rw [hs]; exact (hsl j hj).1)]
    · rw [Array.getElem?_setIfInBounds_ne (fun e2 => e (hinj j i hj hi e2.symm))]
      refine h.ok j hj ?_
      rw [Array.getD_eq_getD_getElem?, Array.getElem?_setIfInBounds_ne (fun e2 => e e2.symm), ← Array.getD_eq_getD_getElem?] at hl
      exact hl
theorem RV.at_ (h : RV N lo x sl vs S a0 listed a w) {i j : Nat} (hj : sl i = j) (hi : i < N) (hl : listed.getD i false = true) : a.tmps[j]? = some (vs i) := by
  subst hj
  exact h.ok i hi hl
end
/-- What operation i does: nothing, where it is not wanted; else it leaves its value, by itself or by a call. -/
inductive Does (P : Program) (ops : Array Oper) (S : World → Prop) (v : Value) (a : Act) (w : World) (o : Oper) : Prop where
  | skip (h : Region.wanted o (yielded ops a.tmps) = false) (e : v = undef)
  | run (h : Region.wanted o (yielded ops a.tmps) = true) (e : (execOp a.eval o).run P w = .ok (.value v) w)
  | call (h : Region.wanted o (yielded ops a.tmps) = true) (f : FuncId) (args : Array Value) (e : (execOp a.eval o).run P w = .ok (.enter f args) w) (c : Calls P f args w fun e w' => e = .returned v ∧ S w')
theorem region_vals {P : Program} {id : Nat} {ops : Array Oper} {Q : Exit → Act → World → Prop} {a0 : Act} {W : World} (N lo x : Nat) (sl : Nat → Nat) (vs : Nat → Value) (S : World → Prop) (hS : S W.drew) (hm : P.follows .mixedOrders = true) (hN : ops.size = N) (hb : backsV ops = true)
    (hsl : ∀ i, i < N → sl i < a0.tmps.size ∧ (lo ≤ sl i ∨ sl i = x)) (hinj : ∀ i j, i < N → j < N → sl i = sl j → i = j)
    (step : ∀ (listed : Array Bool) (a : Act) (w : World) (i : Nat) (o : Oper), RV N lo x sl vs S a0 listed a w → ops[i]? = some o → (∀ e ∈ o.after, Region.binds .any e = true → listed.getD e.on false = true) → o.dst = some (sl i) ∧ Does P ops S (vs i) a w o)
    (fin : ∀ (a : Act) (w : World), a.tmps.size = a0.tmps.size → a.defers = a0.defers → (∀ j, j < lo → j ≠ x → a.tmps[j]? = a0.tmps[j]?) → S w → (∀ i j, i < N → sl i = j → a.tmps[j]? = some (vs i)) → Q .normal a w) : (Code.region id ops true).wp P Q a0 W := by
  refine wp_region_any hm ?_
  refine wpAny_inv (RV N lo x sl vs S a0) (fun listed a w i hs hI hi => ?_) (fun listed a w hs hr hI => ?_) _ _ _ _ (by simp) (by simp) ⟨rfl, rfl, fun _ _ _ => rfl, hS, fun i hi hl => ?_⟩
  · obtain ⟨h1, _, h3⟩ := ready_spec hi
    obtain ⟨o, ho⟩ : ∃ o, ops[i]? = some o := ⟨_, Array.getElem?_eq_getElem h1⟩
    obtain ⟨hd, hdo⟩ := step listed a w i o hI ho fun e he hbd => by
      have := h3 o ho
      rw [Array.all_eq_true_iff_forall_mem] at this
      have := this e he
      rw [hbd] at this
      simpa using this
    have hput := fun {V : World} (hV : S V) => hI.put hsl hinj hV (i := i) (by omega)
    unfold wpOp
    rw [ho]
    simp only
    cases hdo with
    | skip h e =>
      rw [if_neg (by rw [h]; simp), hd, ← e]
      exact hput hI.held
    | run h e =>
      rw [if_pos h]
      refine .inl ?_
      unfold Oper.wp
      rw [e]
      show RV _ _ _ _ _ _ _ _ (a.put o.dst _) w
      rw [hd]
      exact hput hI.held
    | call h f args e c =>
      rw [if_pos h]
      refine .inl ?_
      unfold Oper.wp
      rw [e]
      refine c.mono ?_
      rintro e w' ⟨rfl, hS'⟩
      simp only
      rw [hd]
      exact hput hS'
  · exact fin a w hI.size hI.defers hI.low hI.held fun i j hi hj => by subst hj; exact hI.ok i hi (all_listed hs (fun i o ho e he => backsV_spec hb ho he) hr i (by omega))
  · rw [Array.getD_eq_getD_getElem?, Array.getElem?_replicate] at hl
    split at hl <;> simp at hl
theorem wanted_some {ops : Array Oper} {o : Oper} {tmps : Array Value} {j s : Nat} {pol b : Bool} (hg : o.guard = some (j, pol)) (hd : (ops[j]?).bind (·.dst) = some s) (hv : tmps[s]? = some (.bool b)) : Region.wanted o (yielded ops tmps) = (b == pol) := by
  unfold Region.wanted yielded
  rw [hg]
  simp only [hd, Option.bind_some, hv]
  cases b <;> cases pol <;> rfl
theorem getD_of {a : Act} {j : Nat} {v : Value} (h : a.tmps[j]? = some v) : a.tmps[j]?.getD undef = v := by rw [h]; rfl
theorem act_ext {a : Act} {A : Array Value} {d : List Deferred} (hd : a.defers = d) (hs : a.tmps.size = A.size) (h : ∀ j, j < A.size → a.tmps[j]? = A[j]?) : a = ⟨A, d⟩ := by
  obtain ⟨t, d'⟩ := a
  subst hd
  have : t = A := Array.ext hs fun j h1 h2 => by
    have := h j h2
    rw [Array.getElem?_eq_getElem h1, Array.getElem?_eq_getElem h2] at this
    exact Option.some.inj this
  rw [this]
end Go.Proofs.YtlomhoohmcnniaaDoor
