/-
  A region, in whatever order it runs, guards and all, in which every operation leaves a value that meets a predicate which memory's growth keeps: what its slots hold behind it. A region that draws its order; one whose last operation (a store) waits for all others; one in the text's order. No function of the program.
  A region that draws its order in which one operation may turn memory that was there (an append onto a field's own row) and the last operation stores its result: all others come before the one, but for some that read no memory. No function of the program.
  An operation whose guard was not reached is not wanted. No function of the program.
  A region that draws its order, whose last two operations (a store and what follows it) wait for all others. No function of the program.
-/
import Derived.Test.YtiokiecnglmbnaaK14
import Derived.Below
import Derived.WalkKit
import Derived.WalkSpells
import Derived.WalkLawsBesides

namespace Go.Proofs.Ytiokiecnglmbnaa.RgX
open Go Go.RowKit Go.Proofs Go.Proofs.Ytiokiecnglmbnaa

/-- What a slot is to hold. -/
structure Sp where
  p : World → Value → Prop
  keep : ∀ {w w' x}, p w x → Below w.heap.size w w' → p w' x
namespace Sp
/-- This value. -/
def v (x : Value) : Sp := ⟨fun _ y => y = x, fun h _ => h⟩
/-- Whatever it is. -/
def any : Sp := ⟨fun _ _ => True, fun h _ => h⟩
/-- A slice over a row of its own, that holds these cells. -/
def row (C : Array Value) (t : TypeId) (n : Nat) : Sp := ⟨fun w x => ∃ g, x = .slice (some ⟨g, 0, none⟩) n n ∧ w.heap[g]? = some (.cells C t (0, 0)), fun ⟨g, e, h⟩ hb => ⟨g, e, (hb.block g (Array.getElem?_eq_some_iff.1 h).1).trans h⟩⟩
/-- The address of a cell with this value. -/
def cel (u : Value) : Sp := ⟨fun w x => ∃ p, x = .pointer (some p) ∧ w.cell? p = some u ∧ p.block < w.heap.size, fun ⟨p, e, h, l⟩ hb => ⟨p, e, (hb.cell l).trans h, Nat.lt_of_lt_of_le l hb.size⟩⟩
/-- A box of its own, that holds these cells. -/
def box (C : Array Value) (t : TypeId) : Sp := ⟨fun w x => ∃ g, x = .pointer (some ⟨g, 0, none⟩) ∧ w.heap[g]? = some (.cells C t (0, 0)), fun ⟨g, e, h⟩ hb => ⟨g, e, (hb.block g (Array.getElem?_eq_some_iff.1 h).1).trans h⟩⟩
/-- A box made since block lo, that holds these cells. -/
def boxn (lo : Nat) (C : Array Value) (t : TypeId) : Sp := ⟨fun w x => ∃ g, x = .pointer (some ⟨g, 0, none⟩) ∧ w.heap[g]? = some (.cells C t (0, 0)) ∧ lo ≤ g, fun ⟨g, e, h, l⟩ hb => ⟨g, e, (hb.block g (Array.getElem?_eq_some_iff.1 h).1).trans h, l⟩⟩
end Sp
theorem row_new (w : World) (C : Array Value) (t : TypeId) (n : Nat) : (Sp.row C t n).p (w.alloc (.cells C t)) (.slice (some ⟨w.heap.size, 0, none⟩) n n) := ⟨_, rfl, heap_alloc_new _ _⟩
theorem cel_row {w : World} {g k : Nat} {C : Array Value} {t : TypeId} {u : Value} (h : w.heap[g]? = some (.cells C t (0, 0))) (hv : C[k]? = some u) : (Sp.cel u).p w (.pointer (some ⟨g, k, none⟩)) :=
  ⟨_, rfl, (cell_of_row w g k _ _ (0, 0) h).trans hv, (Array.getElem?_eq_some_iff.1 h).1⟩
structure RX (N : Nat) (sl : Nat → Nat) (sp : Nat → Sp) (W : World) (a0 : Act) (L : Nat → Bool) (a : Act) (w : World) : Prop where
  size : a.tmps.size = a0.tmps.size
  defers : a.defers = a0.defers
  low : ∀ j, (∀ i, i < N → sl i ≠ j) → a.tmps[j]? = a0.tmps[j]?
  held : Below W.heap.size W w
  ok : ∀ i, i < N → L i = true → ∃ y, a.tmps[sl i]? = some y ∧ (sp i).p w y
section
variable {N : Nat} {sl : Nat → Nat} {sp : Nat → Sp} {W : World} {a0 a : Act} {w w' : World} {L L' : Nat → Bool}
theorem RX.put (hsl : ∀ i, i < N → sl i < a0.tmps.size) (hinj : ∀ i j, i < N → j < N → sl i = sl j → i = j) (h : RX N sl sp W a0 L a w) (hb : Below w.heap.size w w') {i : Nat} (hi : i < N) {v : Value} (hv : (sp i).p w' v) (hL : ∀ j, L' j = true → j = i ∨ L j = true) :
    RX N sl sp W a0 L' (a.put (some (sl i)) v) w' := by
  have hs := h.size
  refine ⟨by simp [Act.put, hs], h.defers, fun j hj => ?_, h.held.trans (hb.mono h.held.size), fun j hj hl => ?_⟩
  · rw [← h.low j hj]
    simp only [Act.put]
    rw [Array.getElem?_setIfInBounds_ne (hj i hi)]
  · simp only [Act.put]
    by_cases e : j = i
    · subst e
      rw [Array.getElem?_setIfInBounds_self, if_pos (by rw [hs]; exact hsl j hj)]
      exact ⟨v, rfl, hv⟩
    · rw [Array.getElem?_setIfInBounds_ne (fun e2 => e (hinj j i hj hi e2.symm))]
      obtain ⟨y, h1, h2⟩ := h.ok j hj ((hL j hl).resolve_left e)
      exact ⟨y, h1, (sp j).keep h2 hb⟩
theorem RX.at_ (h : RX N sl sp W a0 L a w) {i j : Nat} {s : Sp} (hj : sl i = j) (hs : sp i = s) (hi : i < N) (hl : L i = true) : ∃ y, a.tmps[j]? = some y ∧ s.p w y := by
  subst hj
  subst hs
  exact h.ok i hi hl
theorem RX.val_ (h : RX N sl sp W a0 L a w) {i j : Nat} {v : Value} (hj : sl i = j) (hs : sp i = .v v) (hi : i < N) (hl : L i = true) : a.tmps[j]? = some v := by
  obtain ⟨y, h1, h2⟩ := h.at_ hj hs hi hl
  rw [h1, show y = v from h2]
theorem RX.get_ (h : RX N sl sp W a0 L a w) {i j : Nat} {s : Sp} (hj : sl i = j) (hs : sp i = s) (hi : i < N) (hl : L i = true) : ∃ y, a.tmps[j]?.getD undef = y ∧ s.p w y := by
  obtain ⟨y, h1, h2⟩ := h.at_ hj hs hi hl
  exact ⟨y, by rw [h1]; rfl, h2⟩
end
/-- What an operation does: nothing, where it is not wanted; else it leaves a value, by itself or by a call. -/
inductive Does (P : Program) (ops : Array Oper) (s : Sp) (a : Act) (w : World) (o : Oper) : Prop where
  | skip (h : Region.wanted o (yielded ops a.tmps) = false) (e : ∀ w, s.p w undef)
  | run (h : Region.wanted o (yielded ops a.tmps) = true) (v : Value) (w' : World) (e : (execOp a.eval o).run P w = .ok (.value v) w') (b : Below w.heap.size w w') (c : s.p w' v)
  | call (h : Region.wanted o (yielded ops a.tmps) = true) (f : FuncId) (args : Array Value) (e : (execOp a.eval o).run P w = .ok (.enter f args) w) (c : Calls P f args w fun e w' => (∃ v, e = .returned v ∧ s.p w' v) ∧ Below w.heap.size w w')
theorem Does.upon {P : Program} {ops : Array Oper} {s : Sp} {a : Act} {w : World} {o : Oper} {i : Nat} {K : Act → World → Prop} {Q : Exit → Act → World → Prop} (h : Does P ops s a w o) (ho : ops[i]? = some o)
    (hK : ∀ v w', Below w.heap.size w w' → s.p w' v → K (a.put o.dst v) w') : wpOp P ops Q i K a w := by
  unfold wpOp
  rw [ho]
  simp only
  cases h with
  | skip h e =>
    rw [if_neg (by rw [h]; simp)]
    exact hK _ _ (Below.refl _ _) (e _)
  | run h v w2 e b c =>
    rw [if_pos h]
    refine .inl ?_
    unfold Oper.wp
    rw [e]
    exact hK _ _ b c
  | call h f args e c =>
    rw [if_pos h]
    refine .inl ?_
    unfold Oper.wp
    rw [e]
    refine c.mono ?_
    rintro e w' ⟨⟨v, rfl, hv⟩, hb'⟩
    exact hK _ _ hb' hv
theorem getD_set {A : Array Bool} {i j : Nat} (h : (A.setIfInBounds i true).getD j false = true) : j = i ∨ A.getD j false = true := by
  by_cases e : j = i
  · exact .inl e
  · rw [Array.getD_eq_getD_getElem?, Array.getElem?_setIfInBounds_ne (fun e2 => e e2.symm), ← Array.getD_eq_getD_getElem?] at h
    exact .inr h
theorem getD_none {n i : Nat} : (Array.replicate n false).getD i false = true → False := by
  intro hl
  rw [Array.getD_eq_getD_getElem?, Array.getElem?_replicate] at hl
  split at hl <;> simp at hl
theorem ready_deps {ops : Array Oper} {listed : Array Bool} {i : Nat} {o : Oper} (hi : i ∈ Region.ready .any ops listed) (ho : ops[i]? = some o) : ∀ e ∈ o.after, Region.binds .any e = true → listed.getD e.on false = true := fun e he hbd => by
  have := (ready_spec hi).2.2 o ho
  rw [Array.all_eq_true_iff_forall_mem] at this
  have := this e he
  rw [hbd] at this
  simpa using this
section
variable {P : Program} {id : Nat} {ops : Array Oper} {Q : Exit → Act → World → Prop} {a0 : Act} {W : World}
/-- A region that draws its order. -/
theorem region (N : Nat) (sl : Nat → Nat) (sp : Nat → Sp) (hm : P.follows .mixedOrders = true) (hN : ops.size = N) (hb : backsV ops = true)
    (hsl : ∀ i, i < N → sl i < a0.tmps.size) (hinj : ∀ i j, i < N → j < N → sl i = sl j → i = j)
    (step : ∀ (L : Nat → Bool) (a : Act) (w : World) (i : Nat) (o : Oper), RX N sl sp W a0 L a w → ops[i]? = some o → (∀ e ∈ o.after, Region.binds .any e = true → L e.on = true) → o.dst = some (sl i) ∧ Does P ops (sp i) a w o)
    (fin : ∀ (a : Act) (w : World), a.tmps.size = a0.tmps.size → a.defers = a0.defers → (∀ j, (∀ i, i < N → sl i ≠ j) → a.tmps[j]? = a0.tmps[j]?) → Below W.heap.size W w → (∀ i j s, i < N → sl i = j → sp i = s → ∃ y, a.tmps[j]? = some y ∧ s.p w y) → Q .normal a w) : (Code.region id ops true).wp P Q a0 W := by
  refine wp_region_any hm ?_
  refine wpAny_inv (fun listed => RX N sl sp W a0 (fun i => listed.getD i false)) (fun listed a w i hs hI hi => ?_) (fun listed a w hs hr hI => ?_) _ _ _ _ (by simp) (by simp) ⟨rfl, rfl, fun _ _ => rfl, (Below.refl _ W).drew, fun i hi hl => (getD_none hl).elim⟩
  · obtain ⟨h1, _, h3⟩ := ready_spec hi
    obtain ⟨o, ho⟩ : ∃ o, ops[i]? = some o := ⟨_, Array.getElem?_eq_getElem h1⟩
    obtain ⟨hd, hdo⟩ := step _ a w i o hI ho (ready_deps hi ho)
    refine hdo.upon ho fun v w' hV hv => ?_
    rw [hd]
    exact hI.put hsl hinj hV (by omega) hv fun j hj => getD_set hj
  · exact fin a w hI.size hI.defers hI.low hI.held fun i j s hi hj hs2 => by subst hj; subst hs2; exact hI.ok i hi (all_listed hs (fun i o ho e he => backsV_spec hb ho he) hr i (by omega))
/-- A region in the text's order. -/
theorem seq (N : Nat) (sl : Nat → Nat) (sp : Nat → Sp) (hN : ops.size = N) (hb : backsV ops = true)
    (hsl : ∀ i, i < N → sl i < a0.tmps.size) (hinj : ∀ i j, i < N → j < N → sl i = sl j → i = j)
    (step : ∀ (L : Nat → Bool) (a : Act) (w : World) (i : Nat) (o : Oper), RX N sl sp W a0 L a w → ops[i]? = some o → (∀ e ∈ o.after, Region.binds .any e = true → L e.on = true) → o.dst = some (sl i) ∧ Does P ops (sp i) a w o)
    (fin : ∀ (a : Act) (w : World), a.tmps.size = a0.tmps.size → a.defers = a0.defers → (∀ j, (∀ i, i < N → sl i ≠ j) → a.tmps[j]? = a0.tmps[j]?) → Below W.heap.size W w → (∀ i j s, i < N → sl i = j → sp i = s → ∃ y, a.tmps[j]? = some y ∧ s.p w y) → Q .normal a w) : (Code.region id ops false).wp P Q a0 W := by
  refine wp_region ?_
  have key : ∀ (m k : Nat) (a : Act) (w : World), k + m = N → RX N sl sp W a0 (fun i => decide (i < k)) a w → wpOps P ops Q (List.range' k m) a w := by
    intro m
    induction m with
    | zero =>
      intro k a w hk hI
      obtain rfl : k = N := by omega
      exact fin a w hI.size hI.defers hI.low hI.held fun i j s hi hj hs2 => by subst hj; subst hs2; exact hI.ok i hi (by simpa using hi)
    | succ m ih =>
      intro k a w hk hI
      rw [List.range'_succ, wpOps_cons]
      obtain ⟨o, ho⟩ : ∃ o, ops[k]? = some o := ⟨_, Array.getElem?_eq_getElem (by omega)⟩
      obtain ⟨hd, hdo⟩ := step _ a w k o hI ho fun e he _ => by simpa using backsV_spec hb ho he
      refine hdo.upon ho fun v w' hV hv => ih (k + 1) _ _ (by omega) ?_
      rw [hd]
      exact hI.put hsl hinj hV (by omega) hv fun j hj => by simp only [decide_eq_true_eq] at hj ⊢; omega
  rw [List.range_eq_range', hN]
  exact key N 0 a0 W (by omega) ⟨rfl, rfl, fun _ _ => rfl, Below.refl _ W, fun i hi hl => by simp at hl⟩

/-! ### A last operation that waits for all others -/
def depsX (ops : Array Oper) (i : Nat) : List Nat := match ops[i]? with
  | some o => (o.after.toList.filter (Region.binds .any)).map (·.on)
  | none => []
def coverX (ops : Array Oper) : Nat → List Nat → List Nat
  | 0, m => m
  | i + 1, m => if m.contains i then coverX ops i (m ++ depsX ops i) else coverX ops i m
theorem coverX_listed {ops : Array Oper} {L : Nat → Bool} (hc : ∀ i, L i = true → ∀ j ∈ depsX ops i, L j = true) : ∀ (i : Nat) (m : List Nat), (∀ j ∈ m, L j = true) → ∀ j ∈ coverX ops i m, L j = true
  | 0, m, h => h
  | i + 1, m, h => by
    rw [coverX]
    split
    · rename_i hi
      refine coverX_listed hc i _ fun j hj => ?_
      rcases List.mem_append.1 hj with hj | hj
      · exact h j hj
      · exact hc i (h i (by simpa using hi)) j hj
    · exact coverX_listed hc i m h
def tailX (ops : Array Oper) (N : Nat) : Bool := (List.range N).all fun j => (coverX ops N (depsX ops N)).contains j
theorem deps_of {ops : Array Oper} {i : Nat} {o : Oper} (ho : ops[i]? = some o) {j : Nat} (hj : j ∈ depsX ops i) : ∃ e ∈ o.after, Region.binds .any e = true ∧ e.on = j := by
  unfold depsX at hj
  rw [ho] at hj
  obtain ⟨e, he, rfl⟩ := List.mem_map.1 hj
  obtain ⟨h1, h2⟩ := List.mem_filter.1 he
  exact ⟨e, by simpa using h1, h2, rfl⟩
/-- A region that draws its order, whose last operation waits for all others. -/
theorem tail (N : Nat) (sl : Nat → Nat) (sp : Nat → Sp) (oL : Oper) (hm : P.follows .mixedOrders = true) (hN : ops.size = N + 1) (hL : ops[N]? = some oL) (hb : backsV ops = true) (ht : tailX ops N = true)
    (hsl : ∀ i, i < N → sl i < a0.tmps.size) (hinj : ∀ i j, i < N → j < N → sl i = sl j → i = j)
    (step : ∀ (L : Nat → Bool) (a : Act) (w : World) (i : Nat) (o : Oper), i < N → RX N sl sp W a0 L a w → ops[i]? = some o → (∀ e ∈ o.after, Region.binds .any e = true → L e.on = true) → o.dst = some (sl i) ∧ Does P ops (sp i) a w o)
    (fin : ∀ (a : Act) (w : World), a.tmps.size = a0.tmps.size → a.defers = a0.defers → (∀ j, (∀ i, i < N → sl i ≠ j) → a.tmps[j]? = a0.tmps[j]?) → Below W.heap.size W w → (∀ i j s, i < N → sl i = j → sp i = s → ∃ y, a.tmps[j]? = some y ∧ s.p w y) → wpList P ops Q [oL] a w) : (Code.region id ops true).wp P Q a0 W := by
  refine wp_region_any hm ?_
  refine wpAny_inv (fun listed a w => (listed.getD N false = false ∧ RX N sl sp W a0 (fun i => listed.getD i false) a w ∧ ∀ i, listed.getD i false = true → ∀ j ∈ depsX ops i, listed.getD j false = true) ∨ ((∀ j, j ≤ N → listed.getD j false = true) ∧ Q .normal a w)) (fun listed a w i hs hI hi => ?_) (fun listed a w hs hr hI => ?_) _ _ _ _ (by simp) (by simp) (.inl ⟨?_, ⟨rfl, rfl, fun _ _ => rfl, (Below.refl _ W).drew, fun i hi hl => (getD_none hl).elim⟩, fun i hl => (getD_none hl).elim⟩)
  · obtain ⟨h1, h2, _⟩ := ready_spec hi
    have hdp := fun {o} (ho : ops[i]? = some o) => ready_deps hi ho
    rcases hI with ⟨hn, hI, hc⟩ | ⟨hall, _⟩
    · have hcl : ∀ k, (listed.setIfInBounds i true).getD k false = true → ∀ j ∈ depsX ops k, (listed.setIfInBounds i true).getD j false = true := by
        intro k hk j hj
        have hput : ∀ {j}, listed.getD j false = true → (listed.setIfInBounds i true).getD j false = true := fun {j} h => by
          by_cases e : j = i
          · subst e
            rw [Array.getD_eq_getD_getElem?, Array.getElem?_setIfInBounds_self, if_pos (by omega)]
            rfl
          · rw [Array.getD_eq_getD_getElem?, Array.getElem?_setIfInBounds_ne (fun e2 => e e2.symm), ← Array.getD_eq_getD_getElem?]
            exact h
        rcases getD_set hk with rfl | hk
        · obtain ⟨o, ho⟩ : ∃ o, ops[k]? = some o := ⟨_, Array.getElem?_eq_getElem h1⟩
          obtain ⟨e, he, hbd, rfl⟩ := deps_of ho hj
          exact hput (hdp ho e he hbd)
        · exact hput (hc k hk j hj)
      by_cases hiN : i = N
      · subst hiN
        have hall : ∀ j, j < i → listed.getD j false = true := by
          intro j hj
          have h3 := coverX_listed (L := fun j => listed.getD j false) hc i (depsX ops i) (fun j hj => by
            obtain ⟨e, he, hbd, rfl⟩ := deps_of hL hj
            exact hdp hL e he hbd)
          unfold tailX at ht
          rw [List.all_eq_true] at ht
          exact h3 j (by simpa using ht j (List.mem_range.2 hj))
        have hf := fin a w hI.size hI.defers hI.low hI.held fun k j s hk hj hs2 => by subst hj; subst hs2; exact hI.ok k hk (hall k hk)
        have hQ : ∀ a w, Q .normal a w → ((listed.setIfInBounds i true).getD i false = false ∧ RX i sl sp W a0 (fun k => (listed.setIfInBounds i true).getD k false) a w ∧ ∀ k, (listed.setIfInBounds i true).getD k false = true → ∀ j ∈ depsX ops k, (listed.setIfInBounds i true).getD j false = true) ∨ ((∀ j, j ≤ i → (listed.setIfInBounds i true).getD j false = true) ∧ Q .normal a w) := fun a w hq => .inr ⟨fun j hj => by
          by_cases e : j = i
          · subst e
            rw [Array.getD_eq_getD_getElem?, Array.getElem?_setIfInBounds_self, if_pos (by omega)]
            rfl
          · rw [Array.getD_eq_getD_getElem?, Array.getElem?_setIfInBounds_ne (fun e2 => e e2.symm), ← Array.getD_eq_getD_getElem?]
            exact hall j (by omega), hq⟩
        unfold wpList at hf
        unfold wpOp
        rw [hL]
        simp only
        split
        · rename_i hw
          rw [if_pos hw] at hf
          exact hf.imp (Oper.wp_mono fun a w h => hQ a w h) (fun h => h)
        · rename_i hw
          rw [if_neg hw] at hf
          exact hQ _ _ hf
      · obtain ⟨o, ho⟩ : ∃ o, ops[i]? = some o := ⟨_, Array.getElem?_eq_getElem h1⟩
        obtain ⟨hd, hdo⟩ := step _ a w i o (by omega) hI ho (hdp ho)
        refine hdo.upon ho fun v w' hV hv => .inl ⟨?_, ?_, hcl⟩
        · rw [Array.getD_eq_getD_getElem?, Array.getElem?_setIfInBounds_ne hiN, ← Array.getD_eq_getD_getElem?]
          exact hn
        · rw [hd]
          exact hI.put hsl hinj hV (by omega) hv fun j hj => getD_set hj
    · exfalso
      have := hall i (by omega)
      rw [Array.getD_eq_getD_getElem?] at this h2
      cases h : listed[i]? with
      | none => rw [h] at this; simp at this
      | some b => rw [h] at this h2; simp at this h2; rw [this] at h2; cases h2
  · rcases hI with ⟨hn, _⟩ | ⟨_, hq⟩
    · have := all_listed hs (fun i o ho e he => backsV_spec hb ho he) hr N (by omega)
      rw [hn] at this
      cases this
    · exact hq
  · cases h : (Array.replicate ops.size false).getD N false with
    | false => rfl
    | true => exact (getD_none h).elim
end
theorem val_at {a : Act} {j : Nat} {v : Value} {w : World} (h : ∃ y, a.tmps[j]? = some y ∧ (Sp.v v).p w y) : a.tmps[j]? = some v := by
  obtain ⟨y, h1, h2⟩ := h
  rw [h1, show y = v from h2]
end Go.Proofs.Ytiokiecnglmbnaa.RgX

namespace Go.Proofs.Ytiokiecnglmbnaa.RgX
open Go Go.RowKit Go.Proofs Go.Proofs.Ytiokiecnglmbnaa

def cover2 (ops : Array Oper) (N iA : Nat) (F : List Nat) : Bool := (List.range N).all fun j => j == iA || F.contains j || (coverX ops iA (depsX ops iA)).contains j
theorem set_self {A : Array Bool} {i : Nat} (h : i < A.size) : (A.setIfInBounds i true).getD i false = true := by
  rw [Array.getD_eq_getD_getElem?, Array.getElem?_setIfInBounds_self, if_pos h]
  rfl
theorem set_other {A : Array Bool} {i j : Nat} (h : j ≠ i) : (A.setIfInBounds i true).getD j false = A.getD j false := by
  rw [Array.getD_eq_getD_getElem?, Array.getElem?_setIfInBounds_ne (fun e2 => h e2.symm), ← Array.getD_eq_getD_getElem?]
theorem set_keep {A : Array Bool} {i j : Nat} (h : A.getD j false = true) : (A.setIfInBounds i true).getD j false = true := by
  by_cases e : j = i
  · subst e
    refine set_self ?_
    rcases Nat.lt_or_ge j A.size with h2 | h2
    · exact h2
    · rw [Array.getD_eq_getD_getElem?, Array.getElem?_eq_none h2] at h
      cases h
  · rw [set_other e]
    exact h
section
variable {P : Program} {id : Nat} {ops : Array Oper} {Q : Exit → Act → World → Prop} {a0 : Act} {W : World}
theorem tail2 (N iA : Nat) (sl : Nat → Nat) (sp : Nat → Sp) (F : List Nat) (vF : Nat → Value) (oA oL : Oper) (G : Value → World → Prop) (hm : P.follows .mixedOrders = true) (hN : ops.size = N + 1) (hA : ops[iA]? = some oA) (hiA : iA < N) (hL : ops[N]? = some oL) (hb : backsV ops = true) (ht : tailX ops N = true) (hc2 : cover2 ops N iA F = true) (hFN : ∀ i ∈ F, i < N ∧ i ≠ iA)
    (hsl : ∀ i, i < N → sl i < a0.tmps.size) (hinj : ∀ i j, i < N → j < N → sl i = sl j → i = j)
    (step : ∀ (L : Nat → Bool) (a : Act) (w : World) (i : Nat) (o : Oper), i < N → i ≠ iA → RX N sl sp W a0 L a w → ops[i]? = some o → (∀ e ∈ o.after, Region.binds .any e = true → L e.on = true) → o.dst = some (sl i) ∧ Does P ops (sp i) a w o)
    (app : ∀ (a : Act) (w : World), a.tmps.size = a0.tmps.size → (∀ j, (∀ i, i < N → sl i ≠ j) → a.tmps[j]? = a0.tmps[j]?) → Below W.heap.size W w → (∀ i j s, i < N → i ≠ iA → i ∉ F → sl i = j → sp i = s → ∃ y, a.tmps[j]? = some y ∧ s.p w y) → oA.dst = some (sl iA) ∧ Region.wanted oA (yielded ops a.tmps) = true ∧ ∃ v w', (execOp a.eval oA).run P w = .ok (.value v) w' ∧ G v w')
    (flo : ∀ (i : Nat) (o : Oper) (a : Act) (w : World), i ∈ F → ops[i]? = some o → (∀ j, (∀ i, i < N → sl i ≠ j) → a.tmps[j]? = a0.tmps[j]?) → o.dst = some (sl i) ∧ Region.wanted o (yielded ops a.tmps) = true ∧ (execOp a.eval o).run P w = .ok (.value (vF i)) w)
    (hF : ∀ i ∈ F, ∀ w y, (sp i).p w y → y = vF i)
    (fin : ∀ (a : Act) (w : World) (y : Value), a.tmps.size = a0.tmps.size → a.defers = a0.defers → (∀ j, (∀ i, i < N → sl i ≠ j) → a.tmps[j]? = a0.tmps[j]?) → a.tmps[sl iA]? = some y → G y w → (∀ i ∈ F, a.tmps[sl i]? = some (vF i)) → (∀ i j, i < N → sl i = j → ∃ z, a.tmps[j]? = some z) → wpList P ops Q [oL] a w) : (Code.region id ops true).wp P Q a0 W := by
  have cov : ∀ {L : Nat → Bool}, (∀ i, L i = true → ∀ j ∈ depsX ops i, L j = true) → (∀ j ∈ depsX ops iA, L j = true) → ∀ j, j < N → j ≠ iA → j ∉ F → L j = true := fun hc hd j hj h1 h2 => by
    have h3 := coverX_listed hc iA (depsX ops iA) hd
    unfold cover2 at hc2
    rw [List.all_eq_true] at hc2
    have := hc2 j (List.mem_range.2 hj)
    simp only [Bool.or_eq_true, beq_iff_eq, List.contains_eq_mem, decide_eq_true_eq] at this
    rcases this with (h | h) | h
    · exact absurd h h1
    · exact absurd h h2
    · exact h3 j h
  have covL : ∀ {L : Nat → Bool}, (∀ i, L i = true → ∀ j ∈ depsX ops i, L j = true) → (∀ j ∈ depsX ops N, L j = true) → ∀ j, j < N → L j = true := fun hc hd j hj => by
    have h3 := coverX_listed hc N (depsX ops N) hd
    unfold tailX at ht
    rw [List.all_eq_true] at ht
    exact h3 j (by simpa using ht j (List.mem_range.2 hj))
  refine wp_region_any hm ?_
  refine wpAny_inv (fun listed a w => (listed.getD iA false = false ∧ listed.getD N false = false ∧ RX N sl sp W a0 (fun i => listed.getD i false) a w ∧ ∀ i, listed.getD i false = true → ∀ j ∈ depsX ops i, listed.getD j false = true)
      ∨ (listed.getD N false = false ∧ (∀ i, listed.getD i false = true → ∀ j ∈ depsX ops i, listed.getD j false = true) ∧ (∀ j, j < N → j ∉ F → listed.getD j false = true) ∧ a.tmps.size = a0.tmps.size ∧ a.defers = a0.defers ∧ (∀ j, (∀ i, i < N → sl i ≠ j) → a.tmps[j]? = a0.tmps[j]?) ∧ (∃ y, a.tmps[sl iA]? = some y ∧ G y w) ∧ (∀ i ∈ F, listed.getD i false = true → a.tmps[sl i]? = some (vF i)) ∧ (∀ i, i < N → listed.getD i false = true → ∃ z, a.tmps[sl i]? = some z))
      ∨ ((∀ j, j ≤ N → listed.getD j false = true) ∧ Q .normal a w)) (fun listed a w i hs hI hi => ?_) (fun listed a w hs hr hI => ?_) _ _ _ _ (by simp) (by simp) (.inl ⟨?_, ?_, ⟨rfl, rfl, fun _ _ => rfl, (Below.refl _ W).drew, fun i hi hl => (getD_none hl).elim⟩, fun i hl => (getD_none hl).elim⟩)
  · obtain ⟨h1, h2, _⟩ := ready_spec hi
    have hdp := fun {o} (ho : ops[i]? = some o) => ready_deps hi ho
    have hnot : listed.getD i false = false := by
      rw [Array.getD_eq_getD_getElem?] at h2 ⊢
      cases h : listed[i]? with
      | none => rfl
      | some b => rw [h] at h2; exact h2
    have his : i < listed.size := by omega
    have hdeps : ∀ j ∈ depsX ops i, listed.getD j false = true := fun j hj => by
      obtain ⟨o, ho⟩ : ∃ o, ops[i]? = some o := ⟨_, Array.getElem?_eq_getElem h1⟩
      obtain ⟨e, he, hbd, rfl⟩ := deps_of ho hj
      exact hdp ho e he hbd
    rcases hI with ⟨hnA, hnN, hI, hc⟩ | ⟨hnN, hc, hall, hsz, hdf, hlow, ⟨y, hy, hG⟩, hfl, hex⟩ | ⟨hall, _⟩
    · have hcl : ∀ k, (listed.setIfInBounds i true).getD k false = true → ∀ j ∈ depsX ops k, (listed.setIfInBounds i true).getD j false = true := fun k hk j hj => by
        rcases getD_set hk with rfl | hk
        · exact set_keep (hdeps j hj)
        · exact set_keep (hc k hk j hj)
      by_cases hiN : i = N
      · subst hiN
        have := covL (L := fun j => listed.getD j false) hc hdeps iA hiA
        simp only [hnA] at this
        cases this
      · by_cases hi2 : i = iA
        · subst hi2
          have hcv := cov (L := fun j => listed.getD j false) hc hdeps
          obtain ⟨hd, hw, v, w', hr, hg⟩ := app a w hI.size hI.low hI.held fun k j s hk hne hnF hj hs2 => by subst hj; subst hs2; exact hI.ok k hk (hcv k hk hne hnF)
          unfold wpOp
          rw [hA]
          simp only
          rw [if_pos hw]
          refine .inl ?_
          unfold Oper.wp
          rw [hr]
          show _ ∨ _ ∨ _
          rw [hd]
          have hsz := hI.size
          have hput : ∀ k, k < N → k ≠ i → (a.put (some (sl i)) v).tmps[sl k]? = a.tmps[sl k]? := fun k hk hne => by
            simp only [Act.put]
            rw [Array.getElem?_setIfInBounds_ne (fun e => hne (hinj k i hk hiA e.symm))]
          refine .inr (.inl ⟨by rw [set_other (fun e => hiN e.symm)]; exact hnN, hcl, fun j hj hjF => ?_, by simp [Act.put, hsz], hI.defers, fun j hj => ?_, ⟨v, ?_, hg⟩, fun k hk hl => ?_, fun k hk hl => ?_⟩)
          · by_cases e : j = i
            · subst e; exact set_self his
            · exact set_keep (hcv j hj e hjF)
          · rw [← hI.low j hj]
            simp only [Act.put]
            rw [Array.getElem?_setIfInBounds_ne (hj i hiA)]
          · simp only [Act.put]
            rw [Array.getElem?_setIfInBounds_self, if_pos (by rw [hsz]; exact hsl i hiA)]
          · obtain ⟨hkN, hkA⟩ := hFN k hk
            rw [hput k hkN hkA]
            rw [set_other hkA] at hl
            obtain ⟨y, h5, h6⟩ := hI.ok k hkN hl
            rw [h5, hF k hk _ _ h6]
          · by_cases e : k = i
            · subst e
              exact ⟨v, by simp only [Act.put]; rw [Array.getElem?_setIfInBounds_self, if_pos (by rw [hsz]; exact hsl k hk)]⟩
            · rw [set_other e] at hl
              obtain ⟨y, h5, _⟩ := hI.ok k hk hl
              exact ⟨y, by rw [hput k hk e]; exact h5⟩
        · obtain ⟨o, ho⟩ : ∃ o, ops[i]? = some o := ⟨_, Array.getElem?_eq_getElem h1⟩
          obtain ⟨hd, hdo⟩ := step _ a w i o (by omega) hi2 hI ho (hdp ho)
          refine hdo.upon ho fun v w' hV hv => .inl ⟨?_, ?_, ?_, hcl⟩
          · rw [set_other (fun e => hi2 e.symm)]; exact hnA
          · rw [set_other (fun e => hiN e.symm)]; exact hnN
          · rw [hd]
            exact hI.put hsl hinj hV (by omega) hv fun j hj => getD_set hj
    · have hcl : ∀ k, (listed.setIfInBounds i true).getD k false = true → ∀ j ∈ depsX ops k, (listed.setIfInBounds i true).getD j false = true := fun k hk j hj => by
        rcases getD_set hk with rfl | hk
        · exact set_keep (hdeps j hj)
        · exact set_keep (hc k hk j hj)
      by_cases hiN : i = N
      · subst hiN
        have hal := covL (L := fun j => listed.getD j false) hc hdeps
        have hf := fin a w y hsz hdf hlow hy hG (fun k hk => hfl k hk (hal k (hFN k hk).1)) (fun k j hk hj => by subst hj; exact hex k hk (hal k hk))
        have hQ : ∀ a w, Q .normal a w → (∀ j, j ≤ i → (listed.setIfInBounds i true).getD j false = true) ∧ Q .normal a w := fun a w hq => ⟨fun j hj => by
          by_cases e : j = i
          · subst e; exact set_self his
          · exact set_keep (hal j (by omega)), hq⟩
        unfold wpList at hf
        unfold wpOp
        rw [hL]
        simp only
        split
        · rename_i hw
          rw [if_pos hw] at hf
          exact hf.imp (Oper.wp_mono fun a w h => .inr (.inr (hQ a w h))) (fun h => h)
        · rename_i hw
          rw [if_neg hw] at hf
          exact .inr (.inr (hQ _ _ hf))
      · have hiF : i ∈ F := by
          refine Classical.byContradiction fun h => ?_
          have := hall i (by omega) h
          rw [hnot] at this
          cases this
        obtain ⟨o, ho⟩ : ∃ o, ops[i]? = some o := ⟨_, Array.getElem?_eq_getElem h1⟩
        obtain ⟨hd, hw, hr⟩ := flo i o a w hiF ho hlow
        obtain ⟨hiN2, hiA2⟩ := hFN i hiF
        have hput : ∀ k, k < N → k ≠ i → (a.put (some (sl i)) (vF i)).tmps[sl k]? = a.tmps[sl k]? := fun k hk hne => by
          simp only [Act.put]
          rw [Array.getElem?_setIfInBounds_ne (fun e => hne (hinj k i hk hiN2 e.symm))]
        have hself : (a.put (some (sl i)) (vF i)).tmps[sl i]? = some (vF i) := by
          simp only [Act.put]
          rw [Array.getElem?_setIfInBounds_self, if_pos (by rw [hsz]; exact hsl i hiN2)]
        unfold wpOp
        rw [ho]
        simp only
        rw [if_pos hw]
        refine .inl ?_
        unfold Oper.wp
        rw [hr]
        show _ ∨ _ ∨ _
        rw [hd]
        refine .inr (.inl ⟨by rw [set_other (fun e => hiN e.symm)]; exact hnN, hcl, fun j hj hjF => set_keep (hall j hj hjF), by simp [Act.put, hsz], hdf, fun j hj => ?_, ⟨y, by rw [hput iA hiA (fun e => hiA2 e.symm)]; exact hy, hG⟩, fun k hk hl => ?_, fun k hk hl => ?_⟩)
        · rw [← hlow j hj]
          simp only [Act.put]
          rw [Array.getElem?_setIfInBounds_ne (hj i hiN2)]
        · by_cases e : k = i
          · subst e; exact hself
          · rw [hput k (hFN k hk).1 e]
            rw [set_other e] at hl
            exact hfl k hk hl
        · by_cases e : k = i
          · subst e; exact ⟨_, hself⟩
          · rw [hput k hk e]
            rw [set_other e] at hl
            exact hex k hk hl
    · rw [hall i (by omega)] at hnot
      cases hnot
  · have hal := all_listed hs (fun i o ho e he => backsV_spec hb ho he) hr
    rcases hI with ⟨_, hnN, _⟩ | ⟨hnN, _⟩ | ⟨_, hq⟩
    · rw [hal N (by omega)] at hnN
      cases hnN
    · rw [hal N (by omega)] at hnN
      cases hnN
    · exact hq
  · cases h : (Array.replicate ops.size false).getD iA false with
    | false => rfl
    | true => exact (getD_none h).elim
  · cases h : (Array.replicate ops.size false).getD N false with
    | false => rfl
    | true => exact (getD_none h).elim
end
end Go.Proofs.Ytiokiecnglmbnaa.RgX

namespace Go.Proofs.Ytiokiecnglmbnaa.RgX
open Go Go.RowKit Go.Proofs Go.Proofs.Ytiokiecnglmbnaa
theorem wanted_undef {ops : Array Oper} {o : Oper} {tmps : Array Value} {j s : Nat} {pol : Bool} (hg : o.guard = some (j, pol)) (hd : (ops[j]?).bind (·.dst) = some s) (hv : tmps[s]? = some undef) : Region.wanted o (yielded ops tmps) = false := by
  unfold Region.wanted yielded
  rw [hg]
  simp only [hd, Option.bind_some, hv]
  rfl
end Go.Proofs.Ytiokiecnglmbnaa.RgX

namespace Go.Proofs.Ytiokiecnglmbnaa.RgX
open Go Go.RowKit Go.Proofs Go.Proofs.Ytiokiecnglmbnaa

def backsB (ops : Array Oper) : Bool := (List.range ops.size).all fun i => match ops[i]? with
  | some o => o.after.all fun e => !Region.binds .any e || decide (e.on < i)
  | none => true
theorem backsB_spec {ops : Array Oper} (h : backsB ops = true) {i : Nat} {o : Oper} (ho : ops[i]? = some o) {e : Edge} (he : e ∈ o.after) (hb : Region.binds .any e = true) : e.on < i := by
  unfold backsB at h
  rw [List.all_eq_true] at h
  have hi : i < ops.size := (Array.getElem?_eq_some_iff.1 ho).1
  have := h i (List.mem_range.2 hi)
  rw [ho] at this
  simp only at this
  rw [Array.all_eq_true_iff_forall_mem] at this
  have := this e he
  rw [hb] at this
  simpa using this
theorem allB_listed {ops : Array Oper} {listed : Array Bool} (hs : listed.size = ops.size) (hb : ∀ (i : Nat) (o : Oper), ops[i]? = some o → ∀ e ∈ o.after, Region.binds .any e = true → e.on < i) (hr : Region.ready .any ops listed = []) : ∀ i, i < ops.size → listed.getD i false = true := by
  intro i
  induction i using Nat.strongRecOn with
  | ind i ih =>
    intro hi
    rcases Bool.eq_false_or_eq_true (listed.getD i false) with h | h
    · exact h
    · exfalso
      have hm : i ∈ Region.ready .any ops listed := by
        unfold Region.ready
        rw [List.mem_filter, List.mem_range, Bool.and_eq_true, Bool.not_eq_true']
        have hl : i < listed.size := by omega
        refine ⟨hi, ?_, ?_⟩
        · simp only [Array.getD, hl, dif_pos] at h ⊢
          exact h
        · rw [Array.getElem?_eq_getElem hi]
          simp only [Option.map_some, Option.getD_some]
          rw [Array.all_eq_true_iff_forall_mem]
          intro e he
          cases hbd : Region.binds .any e with
          | false => simp
          | true =>
            have hlt := hb i _ (Array.getElem?_eq_getElem hi) e he hbd
            rw [ih e.on hlt (by omega)]
            simp
      rw [hr] at hm
      cases hm
section
variable {P : Program} {id : Nat} {ops : Array Oper} {Q : Exit → Act → World → Prop} {a0 : Act} {W : World}
/-- A region that draws its order, where only the edges that bind point back. -/
theorem regionB (N : Nat) (sl : Nat → Nat) (sp : Nat → Sp) (hm : P.follows .mixedOrders = true) (hN : ops.size = N) (hb : backsB ops = true)
    (hsl : ∀ i, i < N → sl i < a0.tmps.size) (hinj : ∀ i j, i < N → j < N → sl i = sl j → i = j)
    (step : ∀ (L : Nat → Bool) (a : Act) (w : World) (i : Nat) (o : Oper), RX N sl sp W a0 L a w → ops[i]? = some o → (∀ e ∈ o.after, Region.binds .any e = true → L e.on = true) → o.dst = some (sl i) ∧ Does P ops (sp i) a w o)
    (fin : ∀ (a : Act) (w : World), a.tmps.size = a0.tmps.size → a.defers = a0.defers → (∀ j, (∀ i, i < N → sl i ≠ j) → a.tmps[j]? = a0.tmps[j]?) → Below W.heap.size W w → (∀ i j s, i < N → sl i = j → sp i = s → ∃ y, a.tmps[j]? = some y ∧ s.p w y) → Q .normal a w) : (Code.region id ops true).wp P Q a0 W := by
  refine wp_region_any hm ?_
  refine wpAny_inv (fun listed => RX N sl sp W a0 (fun i => listed.getD i false)) (fun listed a w i hs hI hi => ?_) (fun listed a w hs hr hI => ?_) _ _ _ _ (by simp) (by simp) ⟨rfl, rfl, fun _ _ => rfl, (Below.refl _ W).drew, fun i hi hl => (getD_none hl).elim⟩
  · obtain ⟨h1, _, h3⟩ := ready_spec hi
    obtain ⟨o, ho⟩ : ∃ o, ops[i]? = some o := ⟨_, Array.getElem?_eq_getElem h1⟩
    obtain ⟨hd, hdo⟩ := step _ a w i o hI ho (ready_deps hi ho)
    refine hdo.upon ho fun v w' hV hv => ?_
    rw [hd]
    exact hI.put hsl hinj hV (by omega) hv fun j hj => getD_set hj
  · exact fin a w hI.size hI.defers hI.low hI.held fun i j s hi hj hs2 => by subst hj; subst hs2; exact hI.ok i hi (allB_listed hs (fun i o ho e he hbd => backsB_spec hb ho he hbd) hr i (by omega))
theorem tailS (N : Nat) (sl : Nat → Nat) (sp : Nat → Sp) (oL oM : Oper) (hm : P.follows .mixedOrders = true) (hN : ops.size = N + 2) (hL : ops[N]? = some oL) (hM : ops[N + 1]? = some oM) (hb : backsB ops = true) (ht : tailX ops N = true) (ht2 : (depsX ops (N + 1)).contains N = true)
    (hsl : ∀ i, i < N → sl i < a0.tmps.size) (hinj : ∀ i j, i < N → j < N → sl i = sl j → i = j)
    (step : ∀ (L : Nat → Bool) (a : Act) (w : World) (i : Nat) (o : Oper), i < N → RX N sl sp W a0 L a w → ops[i]? = some o → (∀ e ∈ o.after, Region.binds .any e = true → L e.on = true) → o.dst = some (sl i) ∧ Does P ops (sp i) a w o)
    (fin : ∀ (a : Act) (w : World), a.tmps.size = a0.tmps.size → a.defers = a0.defers → (∀ j, (∀ i, i < N → sl i ≠ j) → a.tmps[j]? = a0.tmps[j]?) → Below W.heap.size W w → (∀ i j s, i < N → sl i = j → sp i = s → ∃ y, a.tmps[j]? = some y ∧ s.p w y) → wpList P ops Q [oL, oM] a w) : (Code.region id ops true).wp P Q a0 W := by
  refine wp_region_any hm ?_
  refine wpAny_inv (fun listed a w => (listed.getD N false = false ∧ listed.getD (N + 1) false = false ∧ RX N sl sp W a0 (fun i => listed.getD i false) a w ∧ ∀ i, listed.getD i false = true → ∀ j ∈ depsX ops i, listed.getD j false = true) ∨ ((∀ j, j ≤ N → listed.getD j false = true) ∧ listed.getD (N + 1) false = false ∧ wpList P ops Q [oM] a w) ∨ ((∀ j, j ≤ N + 1 → listed.getD j false = true) ∧ Q .normal a w)) (fun listed a w i hs hI hi => ?_) (fun listed a w hs hr hI => ?_) _ _ _ _ (by simp) (by simp) (.inl ⟨?_, ?_, ⟨rfl, rfl, fun _ _ => rfl, (Below.refl _ W).drew, fun i hi hl => (getD_none hl).elim⟩, fun i hl => (getD_none hl).elim⟩)
  · obtain ⟨h1, h2, _⟩ := ready_spec hi
    have hdp := fun {o} (ho : ops[i]? = some o) => ready_deps hi ho
    have his : i < listed.size := by omega
    have hnot : listed.getD i false = true → False := fun h => by
      rw [Array.getD_eq_getD_getElem?] at h h2
      cases h3 : listed[i]? with
      | none => rw [h3] at h; simp at h
      | some b => rw [h3] at h h2; simp at h h2; rw [h] at h2; cases h2
    rcases hI with ⟨hn, hn1, hI, hc⟩ | ⟨hall, hn1, hq⟩ | ⟨hall, _⟩
    · have hcl : ∀ k, (listed.setIfInBounds i true).getD k false = true → ∀ j ∈ depsX ops k, (listed.setIfInBounds i true).getD j false = true := by
        intro k hk j hj
        rcases getD_set hk with rfl | hk
        · obtain ⟨o, ho⟩ : ∃ o, ops[k]? = some o := ⟨_, Array.getElem?_eq_getElem h1⟩
          obtain ⟨e, he, hbd, rfl⟩ := deps_of ho hj
          exact set_keep (hdp ho e he hbd)
        · exact set_keep (hc k hk j hj)
      by_cases hiM : i = N + 1
      · exfalso
        subst hiM
        obtain ⟨e, he, hbd, e2⟩ := deps_of hM (by simpa using ht2)
        have := hdp hM e he hbd
        rw [e2, hn] at this
        cases this
      by_cases hiN : i = N
      · subst hiN
        have hall : ∀ j, j < i → listed.getD j false = true := by
          intro j hj
          have h3 := coverX_listed (L := fun j => listed.getD j false) hc i (depsX ops i) (fun j hj => by
            obtain ⟨e, he, hbd, rfl⟩ := deps_of hL hj
            exact hdp hL e he hbd)
          unfold tailX at ht
          rw [List.all_eq_true] at ht
          exact h3 j (by simpa using ht j (List.mem_range.2 hj))
        have hf := fin a w hI.size hI.defers hI.low hI.held fun k j s hk hj hs2 => by subst hj; subst hs2; exact hI.ok k hk (hall k hk)
        have hQ : ∀ a w, wpList P ops Q [oM] a w → ((listed.setIfInBounds i true).getD i false = false ∧ (listed.setIfInBounds i true).getD (i + 1) false = false ∧ RX i sl sp W a0 (fun k => (listed.setIfInBounds i true).getD k false) a w ∧ ∀ k, (listed.setIfInBounds i true).getD k false = true → ∀ j ∈ depsX ops k, (listed.setIfInBounds i true).getD j false = true) ∨ ((∀ j, j ≤ i → (listed.setIfInBounds i true).getD j false = true) ∧ (listed.setIfInBounds i true).getD (i + 1) false = false ∧ wpList P ops Q [oM] a w) ∨ ((∀ j, j ≤ i + 1 → (listed.setIfInBounds i true).getD j false = true) ∧ Q .normal a w) := fun a w hq => .inr (.inl ⟨fun j hj => by
          by_cases e : j = i
          · subst e
            exact set_self his
          · rw [set_other e]
            exact hall j (by omega), by rw [set_other (by omega)]; exact hn1, hq⟩)
        unfold wpList at hf
        unfold wpOp
        rw [hL]
        simp only
        split
        · rename_i hw
          rw [if_pos hw] at hf
          exact hf.imp (Oper.wp_mono fun a w h => hQ a w h) (fun h => h)
        · rename_i hw
          rw [if_neg hw] at hf
          exact hQ _ _ hf
      · obtain ⟨o, ho⟩ : ∃ o, ops[i]? = some o := ⟨_, Array.getElem?_eq_getElem h1⟩
        obtain ⟨hd, hdo⟩ := step _ a w i o (by omega) hI ho (hdp ho)
        refine hdo.upon ho fun v w' hV hv => .inl ⟨?_, ?_, ?_, hcl⟩
        · rw [set_other (fun e => hiN e.symm)]
          exact hn
        · rw [set_other (fun e => hiM e.symm)]
          exact hn1
        · rw [hd]
          exact hI.put hsl hinj hV (by omega) hv fun j hj => getD_set hj
    · have hiM : i = N + 1 := by
        rcases Nat.lt_or_ge i (N + 1) with h | h
        · exact (hnot (hall i (by omega))).elim
        · omega
      subst hiM
      have hQ : ∀ a w, Q .normal a w → ((listed.setIfInBounds (N + 1) true).getD N false = false ∧ (listed.setIfInBounds (N + 1) true).getD (N + 1) false = false ∧ RX N sl sp W a0 (fun k => (listed.setIfInBounds (N + 1) true).getD k false) a w ∧ ∀ k, (listed.setIfInBounds (N + 1) true).getD k false = true → ∀ j ∈ depsX ops k, (listed.setIfInBounds (N + 1) true).getD j false = true) ∨ ((∀ j, j ≤ N → (listed.setIfInBounds (N + 1) true).getD j false = true) ∧ (listed.setIfInBounds (N + 1) true).getD (N + 1) false = false ∧ wpList P ops Q [oM] a w) ∨ ((∀ j, j ≤ N + 1 → (listed.setIfInBounds (N + 1) true).getD j false = true) ∧ Q .normal a w) := fun a w hq => .inr (.inr ⟨fun j hj => by
        by_cases e : j = N + 1
        · subst e
          exact set_self his
        · rw [set_other e]
          exact hall j (by omega), hq⟩)
      unfold wpList at hq
      unfold wpOp
      rw [hM]
      simp only
      split
      · rename_i hw
        rw [if_pos hw] at hq
        exact hq.imp (Oper.wp_mono fun a w h => hQ a w h) (fun h => h)
      · rename_i hw
        rw [if_neg hw] at hq
        exact hQ _ _ hq
    · exact (hnot (hall i (by omega))).elim
  · have hr2 := allB_listed hs (fun i o ho e he hbd => backsB_spec hb ho he hbd) hr
    rcases hI with ⟨hn, _⟩ | ⟨_, hn, _⟩ | ⟨_, hq⟩
    · have := hr2 N (by omega)
      rw [hn] at this
      cases this
    · have := hr2 (N + 1) (by omega)
      rw [hn] at this
      cases this
    · exact hq
  · cases h : (Array.replicate ops.size false).getD N false with
    | false => rfl
    | true => exact (getD_none h).elim
  · cases h : (Array.replicate ops.size false).getD (N + 1) false with
    | false => rfl
    | true => exact (getD_none h).elim
end
end Go.Proofs.Ytiokiecnglmbnaa.RgX
