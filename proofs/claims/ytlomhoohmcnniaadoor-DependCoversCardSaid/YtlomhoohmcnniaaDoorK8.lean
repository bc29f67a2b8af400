/-
  A region, in whatever order it runs, guards and all, in which every operation leaves a value that meets a predicate which memory's growth keeps: what its slots hold behind it. A region that draws its order; one whose last operation (a store) waits for all others; one in the text's order. No function of the program.
-/
import Derived.Test.YtlomhoohmcnniaaDoorK7
import Derived.Below
import Derived.WalkKit
import Derived.WalkSpells
import Derived.WalkLawsBesides

namespace Go.Proofs.YtlomhoohmcnniaaDoor.RgX
open Go Go.RowKit Go.Proofs Go.Proofs.YtlomhoohmcnniaaDoor

/-- What a slot is to hold. -/
structure Sp where
  p : World → Value → Prop
  keep : ∀ {w w' x}, p w x → Below w.heap.size w w' → p w' x
namespace Sp
/-- This value. -/
def v (x : Value) : Sp := ⟨fun _ y => y = x, fun h _ => h⟩
/-- Whatever it is. -/
def any : Sp := ⟨fun _ _ => True, fun h _ => h⟩
/-- A slice over a row of its own, that holds these cells. -/
def row (C : Array Value) (t : TypeId) (n : Nat) : Sp := ⟨fun w x => ∃ g, x = .slice (some ⟨g, 0, none⟩) n n ∧ w.heap[g]? = some (.cells C t (0, 0)), fun ⟨g, e, h⟩ hb => ⟨g, e, (hb.block g (Array.getElem?_eq_some_iff.1 h).1).trans h⟩⟩
/-- The address of a cell with this value. -/
def cel (u : Value) : Sp := ⟨fun w x => ∃ p, x = .pointer (some p) ∧ w.cell? p = some u ∧ p.block < w.heap.size, fun ⟨p, e, h, l⟩ hb => ⟨p, e, (hb.cell l).trans h, Nat.lt_of_lt_of_le l hb.size⟩⟩
/-- A box of its own, that holds these cells. -/
def box (C : Array Value) (t : TypeId) : Sp := ⟨fun w x => ∃ g, x = .pointer (some ⟨g, 0, none⟩) ∧ w.heap[g]? = some (.cells C t (0, 0)), fun ⟨g, e, h⟩ hb => ⟨g, e, (hb.block g (Array.getElem?_eq_some_iff.1 h).1).trans h⟩⟩
/-- A box made since block lo, that holds these cells. -/
def boxn (lo : Nat) (C : Array Value) (t : TypeId) : Sp := ⟨fun w x => ∃ g, x = .pointer (some ⟨g, 0, none⟩) ∧ w.heap[g]? = some (.cells C t (0, 0)) ∧ lo ≤ g, fun ⟨g, e, h, l⟩ hb => ⟨g, e, (hb.block g (Array.getElem?_eq_some_iff.1 h).1).trans h, l⟩⟩
end Sp
theorem row_new (w : World) (C : Array Value) (t : TypeId) (n : Nat) : (Sp.row C t n).p (w.alloc (.cells C t)) (.slice (some ⟨w.heap.size, 0, none⟩) n n) := ⟨_, rfl, heap_alloc_new _ _⟩
theorem cel_row {w : World} {g k : Nat} {C : Array Value} {t : TypeId} {u : Value} (h : w.heap[g]? = some (.cells C t (0, 0))) (hv : C[k]? = some u) : (Sp.cel u).p w (.pointer (some ⟨g, k, none⟩)) :=
  ⟨_, rfl, (cell_of_row w g k _ _ (0, 0) h).trans hv, (Array.getElem?_eq_some_iff.1 h).1⟩
structure RX (N : Nat) (sl : Nat → Nat) (sp : Nat → Sp) (W : World) (a0 : Act) (L : Nat → Bool) (a : Act) (w : World) : Prop where
  size : a.tmps.size = a0.tmps.size
  defers : a.defers = a0.defers
  low : ∀ j, (∀ i, i < N → sl i ≠ j) → a.tmps[j]? = a0.tmps[j]?
  held : Below W.heap.size W w
  ok : ∀ i, i < N → L i = true → ∃ y, a.tmps[sl i]? = some y ∧ (sp i).p w y
section
variable {N : Nat} {sl : Nat → Nat} {sp : Nat → Sp} {W : World} {a0 a : Act} {w w' : World} {L L' : Nat → Bool}
theorem RX.put (hsl : ∀ i, i < N → sl i < a0.tmps.size) (hinj : ∀ i j, i < N → j < N → sl i = sl j → i = j) (h : RX N sl sp W a0 L a w) (hb : Below w.heap.size w w') {i : Nat} (hi : i < N) {v : Value} (hv : (sp i).p w' v) (hL : ∀ j, L' j = true → j = i ∨ L j = true) :
    RX N sl sp W a0 L' (a.put (some (sl i)) v) w' := by
  have hs := h.size
  refine ⟨by simp [Act.put, hs], h.defers, fun j hj => ?_, h.held.trans (hb.mono h.held.size), fun j hj hl => ?_⟩
  · rw [← h.low j hj]
    simp only [Act.put]
    rw [Array.getElem?_setIfInBounds_ne (hj i hi)]
  · simp only [Act.put]
    by_cases e : j = i
    · subst e
      rw [Array.getElem?_setIfInBounds_self, if_pos (by rw [hs]; exact hsl j hj)]
      exact ⟨v, rfl, hv⟩
    · rw [Array.getElem?_setIfInBounds_ne (fun e2 => e (hinj j i hj hi e2.symm))]
      obtain ⟨y, h1, h2⟩ := h.ok j hj ((hL j hl).resolve_left e)
      exact ⟨y, h1, (sp j).keep h2 hb⟩
theorem RX.at_ (h : RX N sl sp W a0 L a w) {i j : Nat} {s : Sp} (hj : sl i = j) (hs : sp i = s) (hi : i < N) (hl : L i = true) : ∃ y, a.tmps[j]? = some y ∧ s.p w y := by
  subst hj
  subst hs
  exact h.ok i hi hl
theorem RX.val_ (h : RX N sl sp W a0 L a w) {i j : Nat} {v : Value} (hj : sl i = j) (hs : sp i = .v v) (hi : i < N) (hl : L i = true) : a.tmps[j]? = some v := by
  obtain ⟨y, h1, h2⟩ := h.at_ hj hs hi hl
  rw [h1, show y = v from h2]
theorem RX.get_ (h : RX N sl sp W a0 L a w) {i j : Nat} {s : Sp} (hj : sl i = j) (hs : sp i = s) (hi : i < N) (hl : L i = true) : ∃ y, a.tmps[j]?.getD undef = y ∧ s.p w y := by
  obtain ⟨y, h1, h2⟩ := h.at_ hj hs hi hl
  exact ⟨y, by rw [h1]; rfl, h2⟩
end
/-- What an operation does: nothing, where it is not wanted; else it leaves a value, by itself or by a call. -/
inductive Does (P : Program) (ops : Array Oper) (s : Sp) (a : Act) (w : World) (o : Oper) : Prop where
  | skip (h : Region.wanted o (yielded ops a.tmps) = false) (e : ∀ w, s.p w undef)
  | run (h : Region.wanted o (yielded ops a.tmps) = true) (v : Value) (w' : World) (e : (execOp a.eval o).run P w = .ok (.value v) w') (b : Below w.heap.size w w') (c : s.p w' v)
  | call (h : Region.wanted o (yielded ops a.tmps) = true) (f : FuncId) (args : Array Value) (e : (execOp a.eval o).run P w = .ok (.enter f args) w) (c : Calls P f args w fun e w' => (∃ v, e = .returned v ∧ s.p w' v) ∧ Below w.heap.size w w')
theorem Does.upon {P : Program} {ops : Array Oper} {s : Sp} {a : Act} {w : World} {o : Oper} {i : Nat} {K : Act → World → Prop} {Q : Exit → Act → World → Prop} (h : Does P ops s a w o) (ho : ops[i]? = some o)
    (hK : ∀ v w', Below w.heap.size w w' → s.p w' v → K (a.put o.dst v) w') : wpOp P ops Q i K a w := by
  unfold wpOp
  rw [ho]
  simp only
  cases h with
  | skip h e =>
    rw [if_neg (by rw [h]; simp)]
    exact hK _ _ (Below.refl _ _) (e _)
  | run h v w2 e b c =>
    rw [if_pos h]
    refine .inl ?_
    unfold Oper.wp
    rw [e]
    exact hK _ _ b c
  | call h f args e c =>
    rw [if_pos h]
    refine .inl ?_
    unfold Oper.wp
    rw [e]
    refine c.mono ?_
    rintro e w' ⟨⟨v, rfl, hv⟩, hb'⟩
    exact hK _ _ hb' hv
theorem getD_set {A : Array Bool} {i j : Nat} (h : (A.setIfInBounds i true).getD j false = true) : j = i ∨ A.getD j false = true := by
  by_cases e : j = i
  · exact .inl e
  · rw [Array.getD_eq_getD_getElem?, Array.getElem?_setIfInBounds_ne (fun e2 => e e2.symm), ← Array.getD_eq_getD_getElem?] at h
    exact .inr h
theorem getD_none {n i : Nat} : (Array.replicate n false).getD i false = true → False := by
  intro hl
  rw [Array.getD_eq_getD_getElem?, Array.getElem?_replicate] at hl
  split at hl <;> simp at hl
theorem ready_deps {ops : Array Oper} {listed : Array Bool} {i : Nat} {o : Oper} (hi : i ∈ Region.ready .any ops listed) (ho : ops[i]? = some o) : ∀ e ∈ o.after, Region.binds .any e = true → listed.getD e.on false = true := fun e he hbd => by
  have := (ready_spec hi).2.2 o ho
  rw [Array.all_eq_true_iff_forall_mem] at this
  have := this e he
  rw [hbd] at this
  simpa using this
section
variable {P : Program} {id : Nat} {ops : Array Oper} {Q : Exit → Act → World → Prop} {a0 : Act} {W : World}
/-- A region that draws its order. -/
theorem region (N : Nat) (sl : Nat → Nat) (sp : Nat → Sp) (hm : P.follows .mixedOrders = true) (hN : ops.size = N) (hb : backsV ops = true)
    (hsl : ∀ i, i < N → sl i < a0.tmps.size) (hinj : ∀ i j, i < N → j < N → sl i = sl j → i = j)
    (step : ∀ (L : Nat → Bool) (a : Act) (w : World) (i : Nat) (o : Oper), RX N sl sp W a0 L a w → ops[i]? = some o → (∀ e ∈ o.after, Region.binds .any e = true → L e.on = true) → o.dst = some (sl i) ∧ Does P ops (sp i) a w o)
    (fin : ∀ (a : Act) (w : World), a.tmps.size = a0.tmps.size → a.defers = a0.defers → (∀ j, (∀ i, i < N → sl i ≠ j) → a.tmps[j]? = a0.tmps[j]?) → Below W.heap.size W w → (∀ i j s, i < N → sl i = j → sp i = s → ∃ y, a.tmps[j]? = some y ∧ s.p w y) → Q .normal a w) : (Code.region id ops true).wp P Q a0 W := by
  refine wp_region_any hm ?_
  refine wpAny_inv (fun listed => RX N sl sp W a0 (fun i => listed.getD i false)) (fun listed a w i hs hI hi => ?_) (fun listed a w hs hr hI => ?_) _ _ _ _ (by simp) (by simp) ⟨rfl, rfl, fun _ _ => rfl, (Below.refl _ W).drew, fun i hi hl => (getD_none hl).elim⟩
  · obtain ⟨h1, _, h3⟩ := ready_spec hi
    obtain ⟨o, ho⟩ : ∃ o, ops[i]? = some o := ⟨_, Array.getElem?_eq_getElem h1⟩
    obtain ⟨hd, hdo⟩ := step _ a w i o hI ho (ready_deps hi ho)
    refine hdo.upon ho fun v w' hV hv => ?_
    rw [hd]
    exact hI.put hsl hinj hV (by omega) hv fun j hj => getD_set hj
  · exact fin a w hI.size hI.defers hI.low hI.held fun i j s hi hj hs2 => by subst hj; subst hs2; exact hI.ok i hi (all_listed hs (fun i o ho e he => backsV_spec hb ho he) hr i (by omega))
/-- A region in the text's order. -/
theorem seq (N : Nat) (sl : Nat → Nat) (sp : Nat → Sp) (hN : ops.size = N) (hb : backsV ops = true)
    (hsl : ∀ i, i < N → sl i < a0.tmps.size) (hinj : ∀ i j, i < N → j < N → sl i = sl j → i = j)
    (step : ∀ (L : Nat → Bool) (a : Act) (w : World) (i : Nat) (o : Oper), RX N sl sp W a0 L a w → ops[i]? = some o → (∀ e ∈ o.after, Region.binds .any e = true → L e.on = true) → o.dst = some (sl i) ∧ Does P ops (sp i) a w o)
    (fin : ∀ (a : Act) (w : World), a.tmps.size = a0.tmps.size → a.defers = a0.defers → (∀ j, (∀ i, i < N → sl i ≠ j) → a.tmps[j]? = a0.tmps[j]?) → Below W.heap.size W w → (∀ i j s, i < N → sl i = j → sp i = s → ∃ y, a.tmps[j]? = some y ∧ s.p w y) → Q .normal a w) : (Code.region id ops false).wp P Q a0 W := by
  refine wp_region ?_
  have key : ∀ (m k : Nat) (a : Act) (w : World), k + m = N → RX N sl sp W a0 (fun i => decide (i < k)) a w → wpOps P ops Q (List.range' k m) a w := by
    intro m
    induction m with
    | zero =>
      intro k a w hk hI
      obtain rfl : k = N := by omega
      exact fin a w hI.size hI.defers hI.low hI.held fun i j s hi hj hs2 => by subst hj; subst hs2; exact hI.ok i hi (by simpa using hi)
    | succ m ih =>
      intro k a w hk hI
      rw [List.range'_succ, wpOps_cons]
      obtain ⟨o, ho⟩ : ∃ o, ops[k]? = some o := ⟨_, Array.getElem?_eq_getElem (by omega)⟩
      obtain ⟨hd, hdo⟩ := step _ a w k o hI ho fun e he _ => by simpa using backsV_spec hb ho he
      refine hdo.upon ho fun v w' hV hv => ih (k + 1) _ _ (by omega) ?_
      rw [hd]
      exact hI.put hsl hinj hV (by omega) hv fun j hj => by simp only [decide_eq_true_eq] at hj ⊢; omega
  rw [List.range_eq_range', hN]
  exact key N 0 a0 W (by omega) ⟨rfl, rfl, fun _ _ => rfl, Below.refl _ W, fun i hi hl => by simp at hl⟩

/-! ### A last operation that waits for all others -/
def depsX (ops : Array Oper) (i : Nat) : List Nat := match ops[i]? with
  | some o => (o.after.toList.filter (Region.binds .any)).map (·.on)
  | none => []
def coverX (ops : Array Oper) : Nat → List Nat → List Nat
  | 0, m => m
  | i + 1, m => if m.contains i then coverX ops i (m ++ depsX ops i) else coverX ops i m
theorem coverX_listed {ops : Array Oper} {L : Nat → Bool} (hc : ∀ i, L i = true → ∀ j ∈ depsX ops i, L j = true) : ∀ (i : Nat) (m : List Nat), (∀ j ∈ m, L j = true) → ∀ j ∈ coverX ops i m, L j = true
  | 0, m, h => h
  | i + 1, m, h => by
    rw [coverX]
    split
    · rename_i hi
      refine coverX_listed hc i _ fun j hj => ?_
      rcases List.mem_append.1 hj with hj | hj
      · exact h j hj
      · exact hc i (h i (by simpa using hi)) j hj
    · exact coverX_listed hc i m h
def tailX (ops : Array Oper) (N : Nat) : Bool := (List.range N).all fun j => (coverX ops N (depsX ops N)).contains j
theorem deps_of {ops : Array Oper} {i : Nat} {o : Oper} (ho : ops[i]? = some o) {j : Nat} (hj : j ∈ depsX ops i) : ∃ e ∈ o.after, Region.binds .any e = true ∧ e.on = j := by
  unfold depsX at hj
  rw [ho] at hj
  obtain ⟨e, he, rfl⟩ := List.mem_map.1 hj
  obtain ⟨h1, h2⟩ := List.mem_filter.1 he
  exact ⟨e, by simpa using h1, h2, rfl⟩
/-- A region that draws its order, whose last operation waits for all others. -/
theorem tail (N : Nat) (sl : Nat → Nat) (sp : Nat → Sp) (oL : Oper) (hm : P.follows .mixedOrders = true) (hN : ops.size = N + 1) (hL : ops[N]? = some oL) (hb : backsV ops = true) (ht : tailX ops N = true)
    (hsl : ∀ i, i < N → sl i < a0.tmps.size) (hinj : ∀ i j, i < N → j < N → sl i = sl j → i = j)
    (step : ∀ (L : Nat → Bool) (a : Act) (w : World) (i : Nat) (o : Oper), i < N → RX N sl sp W a0 L a w → ops[i]? = some o → (∀ e ∈ o.after, Region.binds .any e = true → L e.on = true) → o.dst = some (sl i) ∧ Does P ops (sp i) a w o)
    (fin : ∀ (a : Act) (w : World), a.tmps.size = a0.tmps.size → a.defers = a0.defers → (∀ j, (∀ i, i < N → sl i ≠ j) → a.tmps[j]? = a0.tmps[j]?) → Below W.heap.size W w → (∀ i j s, i < N → sl i = j → sp i = s → ∃ y, a.tmps[j]? = some y ∧ s.p w y) → wpList P ops Q [oL] a w) : (Code.region id ops true).wp P Q a0 W := by
  refine wp_region_any hm ?_
  refine wpAny_inv (fun listed a w => (listed.getD N false = false ∧ RX N sl sp W a0 (fun i => listed.getD i false) a w ∧ ∀ i, listed.getD i false = true → ∀ j ∈ depsX ops i, listed.getD j false = true) ∨ ((∀ j, j ≤ N → listed.getD j false = true) ∧ Q .normal a w)) (fun listed a w i hs hI hi => ?_) (fun listed a w hs hr hI => ?_) _ _ _ _ (by simp) (by simp) (.inl ⟨?_, ⟨rfl, rfl, fun _ _ => rfl, (Below.refl _ W).drew, fun i hi hl => (getD_none hl).elim⟩, fun i hl => (getD_none hl).elim⟩)
  · obtain ⟨h1, h2, _⟩ := ready_spec hi
    have hdp := fun {o} (ho : ops[i]? = some o) => ready_deps hi ho
    rcases hI with ⟨hn, hI, hc⟩ | ⟨hall, _⟩
    · have hcl : ∀ k, (listed.setIfInBounds i true).getD k false = true → ∀ j ∈ depsX ops k, (listed.setIfInBounds i true).getD j false = true := by
        intro k hk j hj
        have hput : ∀ {j}, listed.getD j false = true → (listed.setIfInBounds i true).getD j false = true := fun {j} h => by
          by_cases e : j = i
          · subst e
            rw [Array.getD_eq_getD_getElem?, Array.getElem?_setIfInBounds_self, if_pos (by omega)]
            rfl
          · rw [Array.getD_eq_getD_getElem?, Array.getElem?_setIfInBounds_ne (fun e2 => e e2.symm), ← Array.getD_eq_getD_getElem?]
            exact h
        rcases getD_set hk with rfl | hk
        · obtain ⟨o, ho⟩ : ∃ o, ops[k]? = some o := ⟨_, Array.getElem?_eq_getElem h1⟩
          obtain ⟨e, he, hbd, rfl⟩ := deps_of ho hj
          exact hput (hdp ho e he hbd)
        · exact hput (hc k hk j hj)
      by_cases hiN : i = N
      · subst hiN
        have hall : ∀ j, j < i → listed.getD j false = true := by
          intro j hj
          have h3 := coverX_listed (L := fun j => listed.getD j false) hc i (depsX ops i) (fun j hj => by
            obtain ⟨e, he, hbd, rfl⟩ := deps_of hL hj
            exact hdp hL e he hbd)
          unfold tailX at ht
          rw [List.all_eq_true] at ht
          exact h3 j (by simpa using ht j (List.mem_range.2 hj))
        have hf := fin a w hI.size hI.defers hI.low hI.held fun k j s hk hj hs2 => by subst hj; subst hs2; exact hI.ok k hk (hall k hk)
        have hQ : ∀ a w, Q .normal a w → ((listed.setIfInBounds i true).getD i false = false ∧ RX i sl sp W a0 (fun k => (listed.setIfInBounds i true).getD k false) a w ∧ ∀ k, (listed.setIfInBounds i true).getD k false = true → ∀ j ∈ depsX ops k, (listed.setIfInBounds i true).getD j false = true) ∨ ((∀ j, j ≤ i → (listed.setIfInBounds i true).getD j false = true) ∧ Q .normal a w) := fun a w hq => .inr ⟨fun j hj => by
          by_cases e : j = i
          · subst e
            rw [Array.getD_eq_getD_getElem?, Array.getElem?_setIfInBounds_self, if_pos (by omega)]
            rfl
          · rw [Array.getD_eq_getD_getElem?, Array.getElem?_setIfInBounds_ne (fun e2 => e e2.symm), ← Array.getD_eq_getD_getElem?]
            exact hall j (by omega), hq⟩
        unfold wpList at hf
        unfold wpOp
        rw [hL]
        simp only
        split
        · rename_i hw
          rw [if_pos hw] at hf
          exact hf.imp (Oper.wp_mono fun a w h => hQ a w h) (fun h => h)
        · rename_i hw
          rw [if_neg hw] at hf
          exact hQ _ _ hf
      · obtain ⟨o, ho⟩ : ∃ o, ops[i]? = some o := ⟨_, Array.getElem?_eq_getElem h1⟩
        obtain ⟨hd, hdo⟩ := step _ a w i o (by omega) hI ho (hdp ho)
        refine hdo.upon ho fun v w' hV hv => .inl ⟨?_, ?_, hcl⟩
        · rw [Array.getD_eq_getD_getElem?, Array.getElem?_setIfInBounds_ne hiN, ← Array.getD_eq_getD_getElem?]
          exact hn
        · rw [hd]
          exact hI.put hsl hinj hV (by omega) hv fun j hj => getD_set hj
    · exfalso
      have := hall i (by omega)
      rw [Array.getD_eq_getD_getElem?] at this h2
      cases h : listed[i]? with
      | none => rw [h] at this; simp at this
      | some b => rw [h] at this h2; simp at this h2; rw [this] at h2; cases h2
  · rcases hI with ⟨hn, _⟩ | ⟨_, hq⟩
    · have := all_listed hs (fun i o ho e he => backsV_spec hb ho he) hr N (by omega)
      rw [hn] at this
      cases this
    · exact hq
  · cases h : (Array.replicate ops.size false).getD N false with
    | false => rfl
    | true => exact (getD_none h).elim
end
theorem val_at {a : Act} {j : Nat} {v : Value} {w : World} (h : ∃ y, a.tmps[j]? = some y ∧ (Sp.v v).p w y) : a.tmps[j]? = some v := by
  obtain ⟨y, h1, h2⟩ := h
  rw [h1, show y = v from h2]
end Go.Proofs.YtlomhoohmcnniaaDoor.RgX
