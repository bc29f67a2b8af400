/-
  Regions that draw their order and build trees: what each slot holds once its operation has run. No function of the program.
-/
import Derived.Test.YtligbandpmgmaaaOrd
import Derived.Test.YtligbandpmgmaaaTyTh
namespace Go.Proofs.Ytligbandpmgmaaa
open Go Go.RowKit Go.Proofs Go.Shelf
attribute [local go_sem] Oper.semAt_some

/-- What a slot is to hold: a value, a tree, the children of a node. -/
inductive Sp where
  | val (v : Value)
  | tree (t : TY.Nd)
  | kids (l : List TY.Nd)
def Sp.ok (w : World) : Sp → Value → Prop
  | .val v, x => x = v
  | .tree t, x => NdV w w.heap.size t x
  | .kids l, x => ∃ A c, x = .slice A l.length c ∧ ∀ (k n : Int) (s : ByteArray), s.size ≤ 1000 → NdV w w.heap.size (.mk k n s l) (ndv k n s x)
theorem Sp.ok.keep {w w' : World} {s : Sp} {x : Value} (h : s.ok w x) (hb : Below w.heap.size w w') : s.ok w' x := by
  cases s with
  | val v => exact h
  | tree t => exact NdV.under h hb hb.size
  | kids l =>
    obtain ⟨A, c, e, h⟩ := h
    exact ⟨A, c, e, fun k n s hs => (h k n s hs).under hb hb.size⟩
/-- Where the region stands: the operations that are listed have left what they are to leave. -/
structure RI (N lo x : Nat) (sl : Nat → Nat) (sp : Nat → Sp) (a0 : Act) (W : World) (listed : Array Bool) (a : Act) (w : World) : Prop where
  size : a.tmps.size = a0.tmps.size
  defers : a.defers = a0.defers
  low : ∀ j, j < lo → j ≠ x → a.tmps[j]? = a0.tmps[j]?
  below : Below W.heap.size W w
  ok : ∀ i, i < N → listed.getD i false = true → (sp i).ok w (a.tmps[sl i]?.getD undef)
section
variable {N lo x : Nat} {sl : Nat → Nat} {sp : Nat → Sp} {a0 a : Act} {W w w' : World} {listed : Array Bool}
theorem RI.put (hsl : ∀ i, i < N → sl i < a0.tmps.size ∧ (lo ≤ sl i ∨ sl i = x)) (hinj : ∀ i j, i < N → j < N → sl i = sl j → i = j) (h : RI N lo x sl sp a0 W listed a w) (hb : Below w.heap.size w w') {i : Nat} {v : Value} (hi : i < N) (hv : (sp i).ok w' v) (d : Tmp) (hd : d = sl i) :
    RI N lo x sl sp a0 W (listed.setIfInBounds i true) (a.put (some d) v) w' := by
  subst hd
  have hs := h.size
  refine ⟨by simp [Act.put, hs], h.defers, fun j hj hx => ?_, h.below.trans (hb.mono h.below.size), fun j hj hl => ?_⟩
  · rw [← h.low j hj hx]
    simp only [Act.put]
    rw [Array.getElem?_setIfInBounds_ne]
    have := (hsl i hi).2
    omega
  · simp only [Act.put]
    by_cases e : j = i
    · subst e
      rw [Array.getElem?_setIfInBounds_self, if_pos (by rw [hs]; exact (hsl j hj).1)]
      exact hv
    · rw [Array.getElem?_setIfInBounds_ne (fun e2 => e (hinj j i hj hi e2.symm))]
      refine (h.ok j hj ?_).keep hb
      rw [Array.getD_eq_getD_getElem?, Array.getElem?_setIfInBounds_ne (fun e2 => e e2.symm), ← Array.getD_eq_getD_getElem?] at hl
      exact hl
end
/-- Children in a block of their own. -/
theorem kids_of {W : World} {g : Nat} {C : Array Value} {l : List TY.Nd} (hg : W.heap[g]? = some (.cells C 25 (0, 0))) (hl : l.length ≤ 1000) (h : ∀ i t, l[i]? = some t → ∃ (k n : Int) (s : ByteArray) (K : Value), C[i * 4]? = some (.int .i64 k) ∧ C[i * 4 + 1]? = some (.int .i64 n) ∧ C[i * 4 + 2]? = some (.string s) ∧ C[i * 4 + 3]? = some K ∧ NdV W W.heap.size t (ndv k n s K)) :
    (Sp.kids l).ok W (.slice (some ⟨g, 0, none⟩) l.length l.length) := by
  refine ⟨_, _, rfl, fun k n s hs => ?_⟩
  have hlt := heap_lt hg
  have key : ∀ i : Nat, ∃ v, ∀ t, l[i]? = some t → (∃ (k n : Int) (s : ByteArray) (K : Value), v = ndv k n s K ∧ C[i * 4]? = some (.int .i64 k) ∧ C[i * 4 + 1]? = some (.int .i64 n) ∧ C[i * 4 + 2]? = some (.string s) ∧ C[i * 4 + 3]? = some K) ∧ NdV W W.heap.size t v := fun i => by
    cases hi : l[i]? with
    | none => exact ⟨undef, fun t ht => by cases ht⟩
    | some t =>
      obtain ⟨k, n, s, K, h1, h2, h3, h4, h5⟩ := h i t hi
      exact ⟨_, fun t' ht => by injection ht with ht; subst ht; exact ⟨⟨k, n, s, K, rfl, h1, h2, h3, h4⟩, h5⟩⟩
  let f : Nat → Value := fun i => (key i).choose
  have hf : ∀ i t, l[i]? = some t → _ := fun i t ht => (key i).choose_spec t ht
  refine .mk k n s l _ _ ((List.range l.length).map f) (by simp) (Nat.le_refl _) (by simp only [maxLen]; omega) (by omega) hs (.inr ⟨g, 0, C, rfl, hlt, hg, fun i v hv => ?_⟩) fun i t v ht hv => ?_
  · rw [List.getElem?_map] at hv
    have hi : i < l.length := by
      rcases Nat.lt_or_ge i l.length with h | h
      · exact h
      · rw [List.getElem?_eq_none (by simpa using h)] at hv; cases hv
    rw [List.getElem?_range hi] at hv
    injection hv with hv
    subst hv
    obtain ⟨⟨k, n, s, K, e, h1, h2, h3, h4⟩, _⟩ := hf i _ (List.getElem?_eq_getElem hi)
    exact ⟨k, n, s, K, e, by simpa using h1, by simpa using h2, by simpa using h3, by simpa using h4⟩
  · rw [List.getElem?_map] at hv
    have hi : i < l.length := (List.getElem?_eq_some_iff.1 ht).1
    rw [List.getElem?_range hi] at hv
    injection hv with hv
    subst hv
    exact (hf i t ht).2
theorem cells4 {V : World} {g : Nat} {x0 x1 x2 x3 : Value} {t : TypeId} (h : V.heap[g]? = some (.cells #[x0, x1, x2, x3] t (0, 0))) : V.cell? ⟨g, 0, none⟩ = some x0 ∧ V.cell? ⟨g, 1, none⟩ = some x1 ∧ V.cell? ⟨g, 2, none⟩ = some x2 ∧ V.cell? ⟨g, 3, none⟩ = some x3 ∧ V.frozen? ⟨g, 0, none⟩ = false ∧ V.frozen? ⟨g, 1, none⟩ = false ∧ V.frozen? ⟨g, 2, none⟩ = false ∧ V.frozen? ⟨g, 3, none⟩ = false :=
  ⟨cell_of_row V g 0 _ _ (0, 0) h, cell_of_row V g 1 _ _ (0, 0) h, cell_of_row V g 2 _ _ (0, 0) h, cell_of_row V g 3 _ _ (0, 0) h, by simp [World.frozen?, h], by simp [World.frozen?, h], by simp [World.frozen?, h], by simp [World.frozen?, h]⟩
/-- Every edge points back. -/
def backs (ops : Array Oper) : Bool := (List.range ops.size).all fun i => match ops[i]? with
  | some o => o.after.all fun e => decide (e.on < i)
  | none => true
theorem backs_spec {ops : Array Oper} (h : backs ops = true) {i : Nat} {o : Oper} (ho : ops[i]? = some o) {e : Edge} (he : e ∈ o.after) : e.on < i := by
  unfold backs at h
  rw [List.all_eq_true] at h
  have hi : i < ops.size := (Array.getElem?_eq_some_iff.1 ho).1
  have := h i (List.mem_range.2 hi)
  rw [ho] at this
  simp only at this
  rw [Array.all_eq_true_iff_forall_mem] at this
  simpa using this e he
/-- A region that draws its order, by what its slots are to hold. -/
theorem region_run {P : Program} {id : Nat} {ops : Array Oper} {Q : Exit → Act → World → Prop} {a0 : Act} {W : World} (N lo x : Nat) (sl : Nat → Nat) (sp : Nat → Sp) (hm : P.follows .mixedOrders = true) (hN : ops.size = N) (hb : backs ops = true)
    (step : ∀ (listed : Array Bool) (a : Act) (w : World) (i : Nat), RI N lo x sl sp a0 W.drew listed a w → i < N → (∀ o, ops[i]? = some o → ∀ e ∈ o.after, Region.binds .any e = true → listed.getD e.on false = true) → wpOp P ops Q i (RI N lo x sl sp a0 W.drew (listed.setIfInBounds i true)) a w)
    (fin : ∀ (a : Act) (w : World), a.tmps.size = a0.tmps.size → a.defers = a0.defers → (∀ j, j < lo → j ≠ x → a.tmps[j]? = a0.tmps[j]?) → Below W.drew.heap.size W.drew w → (∀ i, i < N → (sp i).ok w (a.tmps[sl i]?.getD undef)) → Q .normal a w) : (Code.region id ops true).wp P Q a0 W := by
  refine wp_region_any hm ?_
  refine wpAny_inv (RI N lo x sl sp a0 W.drew) (fun listed a w i hs hI hi => ?_) (fun listed a w hs hr hI => ?_) _ _ _ _ (by simp) (by simp) ⟨rfl, rfl, fun _ _ _ => rfl, Below.refl _ _, fun i hi hl => ?_⟩
  · obtain ⟨h1, _, h3⟩ := ready_spec hi
    refine step listed a w i hI (by omega) fun o ho e he hbd => ?_
    have := h3 o ho
    rw [Array.all_eq_true_iff_forall_mem] at this
    have := this e he
    rw [hbd] at this
    simpa using this
  · exact fin a w hI.size hI.defers hI.low hI.below fun i hi => hI.ok i hi (all_listed hs (fun i o ho e he => backs_spec hb ho he) hr i (by omega))
  · rw [Array.getD_eq_getD_getElem?, Array.getElem?_replicate] at hl
    split at hl <;> simp at hl
theorem st_run {P : Program} {ops : Array Oper} {Q : Exit → Act → World → Prop} {N lo x : Nat} {sl : Nat → Nat} {sp : Nat → Sp} {a0 a : Act} {W w w' : World} {listed : Array Bool} {i : Nat} {o : Oper} {v : Value} (hsl : ∀ i, i < N → sl i < a0.tmps.size ∧ (lo ≤ sl i ∨ sl i = x)) (hinj : ∀ i j, i < N → j < N → sl i = sl j → i = j) (hI : RI N lo x sl sp a0 W listed a w) (hi : i < N) (ho : ops[i]? = some o) (hg : o.guard = none) (hd : o.dst = some (sl i))
    (hrun : (execOp a.eval o).run P w = .ok (.value v) w') (hb : Below w.heap.size w w') (hv : (sp i).ok w' v) : wpOp P ops Q i (RI N lo x sl sp a0 W (listed.setIfInBounds i true)) a w := by
  unfold wpOp
  rw [ho]
  simp only
  rw [if_pos (by unfold Region.wanted; rw [hg])]
  refine .inl ?_
  unfold Oper.wp
  rw [hrun]
  show RI _ _ _ _ _ _ _ _ (a.put o.dst v) w'
  rw [hd]
  exact hI.put hsl hinj hb hi hv _ rfl
theorem st_call {P : Program} {ops : Array Oper} {Q : Exit → Act → World → Prop} {N lo x : Nat} {sl : Nat → Nat} {sp : Nat → Sp} {a0 a : Act} {W w : World} {listed : Array Bool} {i : Nat} {o : Oper} {v : Value} {f : FuncId} {args : Array Value} (hsl : ∀ i, i < N → sl i < a0.tmps.size ∧ (lo ≤ sl i ∨ sl i = x)) (hinj : ∀ i j, i < N → j < N → sl i = sl j → i = j) (hI : RI N lo x sl sp a0 W listed a w) (hi : i < N) (ho : ops[i]? = some o) (hg : o.guard = none) (hd : o.dst = some (sl i))
    (hrun : (execOp a.eval o).run P w = .ok (.enter f args) w) (hc : Calls P f args w fun e w' => e = .returned v ∧ Below w.heap.size w w' ∧ (sp i).ok w' v) : wpOp P ops Q i (RI N lo x sl sp a0 W (listed.setIfInBounds i true)) a w := by
  unfold wpOp
  rw [ho]
  simp only
  rw [if_pos (by unfold Region.wanted; rw [hg])]
  refine .inl ?_
  unfold Oper.wp
  rw [hrun]
  refine hc.mono ?_
  rintro e w' ⟨rfl, hb, hv⟩
  simp only
  rw [hd]
  exact hI.put hsl hinj hb hi hv _ rfl
end Go.Proofs.Ytligbandpmgmaaa
