/-
  A region that draws its order and in which a call panics, whatever runs ahead of it. No function of the program.
  Rows that a call builds, whose elements end in a tree: nodes, handlers. No function of the program.
  The contract of the reference model's Around: a number within bounds. Condition: the bound is positive.
  The reference's generator: pick, variable. Conditions: the generator lies in a block of its own, its numbers below.
  The state of the generator between draws. No function of the program but next.
  The contract of the reference model's Ints: a copy of a slice's first elements. Condition: the slice holds integers.
-/
import Derived.Test.YtlfpaemfhanpiaaGreatDoorK3
import Derived.Test.YtlfpaemfhanpiaaGreatDoorK2
import Derived.IntWalk
import Derived.BigQuiet

namespace Go.Proofs.YtlfpaemfhanpiaaGreatDoor
open Go Go.RowKit Go.Proofs

/-- Operation c panics; what may run ahead of it leaves the world as it is. -/
theorem region_dies {P : Program} {id : Nat} {ops : Array Oper} {Q : Exit → Act → World → Prop} {a0 : Act} {W : World} (N lo x c : Nat) (sl : Nat → Nat) (sp : Nat → Sp) (hm : P.follows .mixedOrders = true) (hN : ops.size = N) (hcN : c < N) (hb : backs ops = true)
    (step : ∀ (listed : Array Bool) (a : Act) (i : Nat), RI N lo x sl sp a0 W.drew listed a W.drew → i < N → i ≠ c → (∀ o, ops[i]? = some o → ∀ e ∈ o.after, Region.binds .any e = true → listed.getD e.on false = true ∧ e.on ≠ c) → wpOp P ops Q i (fun a' w' => RI N lo x sl sp a0 W.drew (listed.setIfInBounds i true) a' w' ∧ w' = W.drew) a W.drew)
    (dies : ∀ (listed : Array Bool) (a : Act), RI N lo x sl sp a0 W.drew listed a W.drew → (∀ o, ops[c]? = some o → ∀ e ∈ o.after, Region.binds .any e = true → listed.getD e.on false = true) → wpOp P ops Q c (fun _ _ => False) a W.drew) : (Code.region id ops true).wp P Q a0 W := by
  refine wp_region_any hm ?_
  refine wpAny_inv (fun listed a w => (RI N lo x sl sp a0 W.drew listed a w ∧ w = W.drew) ∧ listed.getD c false = false) (fun listed a w i hs hI hi => ?_) (fun listed a w hs hr hI => ?_) _ _ _ _ (by simp) (by simp) ⟨⟨⟨rfl, rfl, fun _ _ _ => rfl, Below.refl _ _, fun i hi hl => ?_⟩, rfl⟩, ?_⟩
  · obtain ⟨⟨hI, rfl⟩, hc⟩ := hI
    obtain ⟨h1, _, h3⟩ := ready_spec hi
    have dep : ∀ o, ops[i]? = some o → ∀ e ∈ o.after, Region.binds .any e = true → listed.getD e.on false = true := fun o ho e he hbd => by
      have := h3 o ho
      rw [Array.all_eq_true_iff_forall_mem] at this
      have := this e he
      rw [hbd] at this
      simpa using this
    by_cases hic : i = c
    · subst hic
      exact wpOp_mono (fun _ _ h => h.elim) (dies listed a hI dep)
    · refine wpOp_mono (fun a' w' h => ⟨h, ?_⟩) (step listed a i hI (by omega) hic fun o ho e he hbd => ⟨dep o ho e he hbd, fun e2 => ?_⟩)
      · rw [Array.getD_eq_getD_getElem?, Array.getElem?_setIfInBounds_ne hic, ← Array.getD_eq_getD_getElem?]
        exact hc
      · have := dep o ho e he hbd
        rw [e2, hc] at this
        cases this
  · have := all_listed hs (fun i o ho e he => backs_spec hb ho he) hr c (by omega)
    rw [hI.2] at this
    cases this
  · rw [Array.getD_eq_getD_getElem?, Array.getElem?_replicate] at hl
    split at hl <;> simp at hl
  · rw [Array.getD_eq_getD_getElem?, Array.getElem?_replicate]
    split <;> rfl
/-- These operations wait for operation c, each by an edge to another of them. -/
def waits (ops : Array Oper) (D : List Nat) (c : Nat) : Bool := D.all fun i => i == c || match ops[i]? with
  | some o => o.after.toList.any fun e => Region.binds .any e && D.contains e.on
  | none => false
/-- Operation c panics; those of D wait for it; what may run ahead of it leaves the world as it is. -/
theorem region_dies2 {P : Program} {id : Nat} {ops : Array Oper} {Q : Exit → Act → World → Prop} {a0 : Act} {W : World} (N lo x c : Nat) (D : List Nat) (sl : Nat → Nat) (sp : Nat → Sp) (hm : P.follows .mixedOrders = true) (hN : ops.size = N) (hcN : c < N) (hcD : c ∈ D) (hb : backs ops = true) (hD : waits ops D c = true)
    (step : ∀ (listed : Array Bool) (a : Act) (i : Nat), RI N lo x sl sp a0 W.drew listed a W.drew → i < N → i ∉ D → (∀ o, ops[i]? = some o → ∀ e ∈ o.after, Region.binds .any e = true → listed.getD e.on false = true) → wpOp P ops Q i (fun a' w' => RI N lo x sl sp a0 W.drew (listed.setIfInBounds i true) a' w' ∧ w' = W.drew) a W.drew)
    (dies : ∀ (listed : Array Bool) (a : Act), RI N lo x sl sp a0 W.drew listed a W.drew → (∀ o, ops[c]? = some o → ∀ e ∈ o.after, Region.binds .any e = true → listed.getD e.on false = true) → wpOp P ops Q c (fun _ _ => False) a W.drew) : (Code.region id ops true).wp P Q a0 W := by
  refine wp_region_any hm ?_
  refine wpAny_inv (fun listed a w => (RI N lo x sl sp a0 W.drew listed a w ∧ w = W.drew) ∧ ∀ j ∈ D, listed.getD j false = false) (fun listed a w i hs hI hi => ?_) (fun listed a w hs hr hI => ?_) _ _ _ _ (by simp) (by simp) ⟨⟨⟨rfl, rfl, fun _ _ _ => rfl, Below.refl _ _, fun i hi hl => ?_⟩, rfl⟩, fun j _ => ?_⟩
  · obtain ⟨⟨hI, rfl⟩, hc⟩ := hI
    obtain ⟨h1, _, h3⟩ := ready_spec hi
    have dep : ∀ o, ops[i]? = some o → ∀ e ∈ o.after, Region.binds .any e = true → listed.getD e.on false = true := fun o ho e he hbd => by
      have := h3 o ho
      rw [Array.all_eq_true_iff_forall_mem] at this
      have := this e he
      rw [hbd] at this
      simpa using this
    by_cases hic : i = c
    · subst hic
      exact wpOp_mono (fun _ _ h => h.elim) (dies listed a hI dep)
    · by_cases hiD : i ∈ D
      · exfalso
        unfold waits at hD
        rw [List.all_eq_true] at hD
        have := hD i hiD
        rw [Bool.or_eq_true, beq_iff_eq] at this
        rcases this with h | h
        · exact hic h
        · cases ho : ops[i]? with
          | none => rw [ho] at h; cases h
          | some o =>
            rw [ho] at h
            simp only at h
            rw [List.any_eq_true] at h
            obtain ⟨e, he, h⟩ := h
            have he := Array.mem_toList_iff.1 he
            rw [Bool.and_eq_true] at h
            have h1 := dep o ho e he h.1
            have h2 := hc e.on (by simpa using h.2)
            rw [h1] at h2
            cases h2
      · refine wpOp_mono (fun a' w' h => ⟨h, fun j hj => ?_⟩) (step listed a i hI (by omega) hiD dep)
        rw [Array.getD_eq_getD_getElem?, Array.getElem?_setIfInBounds_ne (fun (e : i = j) => hiD (by rw [e]; exact hj)), ← Array.getD_eq_getD_getElem?]
        exact hc j hj
  · have := all_listed hs (fun i o ho e he => backs_spec hb ho he) hr c (by omega)
    rw [hI.2 c hcD] at this
    cases this
  · rw [Array.getD_eq_getD_getElem?, Array.getElem?_replicate] at hl
    split at hl <;> simp at hl
  · rw [Array.getD_eq_getD_getElem?, Array.getElem?_replicate]
    split <;> rfl
theorem st_same {P : Program} {ops : Array Oper} {Q : Exit → Act → World → Prop} {N lo x : Nat} {sl : Nat → Nat} {sp : Nat → Sp} {a0 a : Act} {W w : World} {listed : Array Bool} {i : Nat} {o : Oper} {v : Value} (hsl : ∀ i, i < N → sl i < a0.tmps.size ∧ (lo ≤ sl i ∨ sl i = x)) (hinj : ∀ i j, i < N → j < N → sl i = sl j → i = j) (hI : RI N lo x sl sp a0 W listed a w) (hi : i < N) (ho : ops[i]? = some o) (hg : o.guard = none) (hd : o.dst = some (sl i))
    (hrun : (execOp a.eval o).run P w = .ok (.value v) w) (hv : (sp i).ok w v) : wpOp P ops Q i (fun a' w' => RI N lo x sl sp a0 W (listed.setIfInBounds i true) a' w' ∧ w' = w) a w := by
  unfold wpOp
  rw [ho]
  simp only
  rw [if_pos (by unfold Region.wanted; rw [hg])]
  refine .inl ?_
  unfold Oper.wp
  rw [hrun]
  show RI _ _ _ _ _ _ _ _ (a.put o.dst v) w ∧ w = w
  rw [hd]
  exact ⟨hI.put hsl hinj (Below.refl _ _) hi hv _ rfl, rfl⟩
theorem st_dies {P : Program} {ops : Array Oper} {Q : Exit → Act → World → Prop} {a : Act} {w : World} {i : Nat} {o : Oper} {f : FuncId} {args : Array Value} {ch : List PanicEntry} {Z : World → Prop} {K : Act → World → Prop} (ho : ops[i]? = some o) (hg : o.guard = none)
    (hrun : (execOp a.eval o).run P w = .ok (.enter f args) w) (hc : Calls P f args w fun e w' => e = .panicked ch ∧ Z w') (hQ : ∀ w', Z w' → Q (.panic ch) a w') : wpOp P ops Q i K a w := by
  unfold wpOp
  rw [ho]
  simp only
  rw [if_pos (by unfold Region.wanted; rw [hg])]
  refine .inl ?_
  unfold Oper.wp
  rw [hrun]
  refine hc.mono ?_
  rintro e w' ⟨rfl, hz⟩
  exact hQ w' hz
end Go.Proofs.YtlfpaemfhanpiaaGreatDoor

namespace Go.Proofs.YtlfpaemfhanpiaaGreatDoor
open Go Go.RowKit Go.Proofs
attribute [local go_sem] Oper.semAt_some

/-- The tree lies in the blocks from B on, but not in the block o. -/
def Nx (B : Nat) (o : Option Nat) (w : World) (t : TY.Nd) (v : Value) : Prop := ∀ V : World, (∀ c, B ≤ c → c < w.heap.size → some c ≠ o → V.heap[c]? = w.heap[c]?) → ∀ hi, w.heap.size ≤ hi → NdV V hi t v
theorem Nx.nw {B : Nat} {o : Option Nat} {w : World} {t : TY.Nd} {v : Value} (h : Nx B o w t v) : Nw B w t v := fun V hV => h V (fun c h1 h2 _ => hV c h1 h2)
theorem Nx.here {B : Nat} {o : Option Nat} {w : World} {t : TY.Nd} {v : Value} (h : Nx B o w t v) : NdV w w.heap.size t v := h w (fun _ _ _ _ => rfl) _ (Nat.le_refl _)
/-- Rows of p values and a tree. -/
def TrRow (p : Nat) (B : Nat) (o : Option Nat) (w : World) (xs : List (List Value × TY.Nd)) (cs : List Value) : Prop :=
  cs.length = xs.length * (p + 4) ∧ ∀ (i : Nat) (x : List Value × TY.Nd), xs[i]? = some x → x.1.length = p ∧ ∃ (k n : Int) (s : ByteArray) (A' : Option Addr) (m c : Nat), Nx B o w x.2 (ndv k n s (.slice A' m c)) ∧ (∀ q, q < p → cs[i * (p + 4) + q]? = x.1[q]?) ∧ cs[i * (p + 4) + p]? = some (.int .i64 k) ∧ cs[i * (p + 4) + p + 1]? = some (.int .i64 n) ∧ cs[i * (p + 4) + p + 2]? = some (.string s) ∧ cs[i * (p + 4) + p + 3]? = some (.slice A' m c)
theorem TrRow.nil (p B : Nat) (o : Option Nat) (w : World) : TrRow p B o w [] [] := ⟨by simp, fun i x h => by simp at h⟩
theorem TrRow.imp {p B B' : Nat} {o o' : Option Nat} {w w' : World} {xs : List (List Value × TY.Nd)} {cs : List Value} (h : TrRow p B o w xs cs) (hk : ∀ t v, Nx B o w t v → Nx B' o' w' t v) : TrRow p B' o' w' xs cs :=
  ⟨h.1, fun i x hx => by
    obtain ⟨h0, k, n, s, A', m, c, h1, h2⟩ := h.2 i x hx
    exact ⟨h0, k, n, s, A', m, c, hk _ _ h1, h2⟩⟩
theorem TrRow.snoc {p B : Nat} {o : Option Nat} {w : World} {xs : List (List Value × TY.Nd)} {cs : List Value} (h : TrRow p B o w xs cs) {pre : List Value} {t : TY.Nd} (hp : pre.length = p) {k n : Int} {s : ByteArray} {A' : Option Addr} {m c : Nat} (ht : Nx B o w t (ndv k n s (.slice A' m c))) : TrRow p B o w (xs ++ [(pre, t)]) (cs ++ (pre ++ [.int .i64 k, .int .i64 n, .string s, .slice A' m c])) := by
  obtain ⟨h1, h2⟩ := h
  have h1' : cs.length = xs.length * (p + 4) := h1
  refine ⟨by rw [List.length_append, List.length_append, List.length_append, h1', hp, List.length_singleton, Nat.add_mul, Nat.one_mul]; rfl, fun i y hy => ?_⟩
  by_cases hi : i < xs.length
  · rw [List.getElem?_append_left hi] at hy
    have hm : i * (p + 4) + (p + 4) ≤ xs.length * (p + 4) := by
      have := Nat.mul_le_mul_right (p + 4) (show i + 1 ≤ xs.length from hi)
      rwa [Nat.add_mul, Nat.one_mul] at this
    obtain ⟨h0, k', n', s', A1, m1, c1, q, e, e0, e1, e2, e3⟩ := h2 i y hy
    refine ⟨h0, k', n', s', A1, m1, c1, q, fun r hr => ?_, ?_, ?_, ?_, ?_⟩
    · rw [List.getElem?_append_left (by omega)]; exact e r hr
    all_goals rw [List.getElem?_append_left (by omega)]; assumption
  · have hi2 : i = xs.length := by
      have := (List.getElem?_eq_some_iff.1 hy).1
      rw [List.length_append, List.length_singleton] at this
      omega
    subst hi2
    have e : (pre, t) = y := by simpa using hy
    subst e
    refine ⟨hp, k, n, s, A', m, c, ht, fun r hr => ?_, ?_, ?_, ?_, ?_⟩
    · rw [List.getElem?_append_right (by omega), show xs.length * (p + 4) + r - cs.length = r by omega, List.getElem?_append_left (by omega)]
    · rw [List.getElem?_append_right (by omega), show xs.length * (p + 4) + p - cs.length = p by omega, List.getElem?_append_right (by omega), show p - pre.length = 0 by omega]; rfl
    · rw [List.getElem?_append_right (by omega), show xs.length * (p + 4) + p + 1 - cs.length = p + 1 by omega, List.getElem?_append_right (by omega), show p + 1 - pre.length = 1 by omega]; rfl
    · rw [List.getElem?_append_right (by omega), show xs.length * (p + 4) + p + 2 - cs.length = p + 2 by omega, List.getElem?_append_right (by omega), show p + 2 - pre.length = 2 by omega]; rfl
    · rw [List.getElem?_append_right (by omega), show xs.length * (p + 4) + p + 3 - cs.length = p + 3 by omega, List.getElem?_append_right (by omega), show p + 3 - pre.length = 3 by omega]; rfl
/-- A row of the call's own, at block B or later. -/
def TR (e : TypeId) (p : Nat) (B : Nat) (V : World) (A : Option Addr) (j c : Nat) (xs : List (List Value × TY.Nd)) (cs : List Value) : Prop :=
  xs.length = j ∧ V.ownsRow B e (p + 4) (.slice A j c) j cs ∧ TrRow p B (Value.slice A j c).ownBlock V xs cs
theorem TR.nil (e : TypeId) (p B : Nat) (V : World) : TR e p B V none 0 0 [] [] := ⟨rfl, ⟨by simp, .inl ⟨rfl, rfl⟩⟩, TrRow.nil _ _ _ _⟩
/-- The element's cells in a new block are news for the append. -/
theorem news_alloc (w : World) (xs : List Value) (t : TypeId) (g : Nat) (hg : w.heap.size = g) : ∀ j u, xs[j]? = some u → (w.alloc (.cells xs.toArray t)).cell? ((⟨g, 0, none⟩ : Addr).add j) = some u := by
  intro j u hu
  subst hg
  rw [Addr.add_lit, Nat.zero_add, cell_of_row _ _ j _ _ _ (World.alloc_heap_new w _)]
  simpa using hu
/-- What stands when a call has made the next tree and an append has taken it: w5 behind the call, w6 behind the append, u the world behind what the append's result is stored into. -/
theorem TR.step {e : TypeId} {p B g j c cap : Nat} {wr w5 w6 U : World} {A : Option Addr} {xs : List (List Value × TY.Nd)} {cs : List Value} {S : Nat → Prop} {pre : List Value} {t : TY.Nd} {k n : Int} {s : ByteArray} {A' : Option Addr} {m c' : Nat} {C : Array Value}
    (h : TR e p B wr A j c xs cs) (hS : Chg S wr w5) (hSB : ∀ x, S x → x < B) (hB : B ≤ wr.heap.size) (hp : pre.length = p) (ht : Nw wr.heap.size w5 t (ndv k n s (.slice A' m c')))
    (hg : (w5.alloc (.cells C e)).grownBy w6 (Value.slice A j c).ownBlock) (hat : (Value.slice A j c).ownBlock = some g ∨ w5.heap.size ≤ g)
    (hown : w6.ownsRow B e (p + 4) (.slice (some ⟨g, 0, none⟩) (j + 1) cap) (j + 1) (cs ++ (pre ++ [.int .i64 k, .int .i64 n, .string s, .slice A' m c'])))
    (hU : ∀ x, B ≤ x → U.heap[x]? = w6.heap[x]?) (hUs : U.heap.size = w6.heap.size) : TR e p B U (some ⟨g, 0, none⟩) (j + 1) cap (xs ++ [(pre, t)]) (cs ++ (pre ++ [.int .i64 k, .int .i64 n, .string s, .slice A' m c'])) := by
  obtain ⟨h1, h2, h3⟩ := h
  have hlt := World.ownsRow.lt h2
  have hsz := hS.size
  have hgs := hg.size
  rw [World.size_alloc] at hgs
  have hob : (Value.slice (some ⟨g, 0, none⟩) (j + 1) cap).ownBlock = some g := rfl
  have far : ∀ x, B ≤ x → x < wr.heap.size → some x ≠ (Value.slice A j c).ownBlock → U.heap[x]? = wr.heap[x]? := fun x hx1 hx2 hx3 =>
    (hU x hx1).trans ((hg.block x (by rw [World.size_alloc]; omega) hx3).trans ((Below.heap_alloc w5 _ x (by omega)).trans (hS.block x hx2 (fun k => by have := hSB x k; omega))))
  refine ⟨by rw [List.length_append, h1]; rfl, row_far hown hU, ?_⟩
  rw [hob]
  refine TrRow.snoc (h3.imp fun t v hv V hV hi hhi => hv V (fun x hx1 hx2 hx3 => (hV x hx1 (by omega) (fun ee => ?_)).trans (far x hx1 hx2 hx3)) hi (by omega)) hp fun V hV hi hhi => ht V (fun x hx1 hx2 => (hV x (by omega) (by omega) (fun ee => ?_)).trans ?_) hi (by omega)
  · injection ee with ee
    subst ee
    rcases hat with hat | hat
    · exact hx3 hat.symm
    · omega
  · injection ee with ee
    subst ee
    rcases hat with hat | hat
    · have := (hlt x hat).2; omega
    · omega
  · exact (hU x (by omega)).trans ((hg.block x (by rw [World.size_alloc]; omega) (fun ee => by have := (hlt x ee.symm).2; omega)).trans (Below.heap_alloc w5 _ x hx2))
where
  row_far {w w' : World} {base size n : Nat} {t : TypeId} {v : Value} {xs : List Value} (h : w.ownsRow base t size v n xs) (hb : ∀ k, base ≤ k → w'.heap[k]? = w.heap[k]?) : w'.ownsRow base t size v n xs := by
    obtain ⟨h1, h2⟩ := h
    refine ⟨h1, ?_⟩
    rcases h2 with h2 | ⟨k, cap, cur, hv, hk, hh, r⟩
    · exact .inl h2
    · exact .inr ⟨k, cap, cur, hv, hk, (hb k hk).trans hh, r⟩
/-- The append's row in the world in which it is made. -/
theorem TR.own {e : TypeId} {p B j c : Nat} {wr w5 : World} {A : Option Addr} {xs : List (List Value × TY.Nd)} {cs : List Value} {S : Nat → Prop} (h : TR e p B wr A j c xs cs) (hS : Chg S wr w5) (hSB : ∀ x, S x → x < B) (o : Obj) : (w5.alloc o).ownsRow B e (p + 4) (.slice A j c) j cs := by
  obtain ⟨h1, h2⟩ := h.2.1
  refine ⟨h1, ?_⟩
  rcases h2 with h2 | ⟨g, cap, cur, hv, hg, hh, r⟩
  · exact .inl h2
  · have hlt := heap_lt hh
    have hsz := hS.size
    exact .inr ⟨g, cap, cur, hv, hg, (Below.heap_alloc w5 o g (by omega)).trans ((hS.block g hlt (fun k => by have := hSB g k; omega)).trans hh), r⟩
/-- The cells of a row of the call's own. -/
theorem own_at {e : TypeId} {B size j c : Nat} {V : World} {A : Option Addr} {cs : List Value} (h : V.ownsRow B e size (.slice A j c) j cs) (hj : 0 < j) : ∃ (b : Nat) (C : Array Value), A = some ⟨b, 0, none⟩ ∧ B ≤ b ∧ b < V.heap.size ∧ V.heap[b]? = some (.cells C e (0, 0)) ∧ ∀ (i : Nat) (u : Value), cs[i]? = some u → C[i]? = some u := by
  obtain ⟨h1, h2⟩ := h
  rcases h2 with ⟨e1, h0⟩ | ⟨g, cap, cur, e1, hg, hh, hn, hm, hs, ht⟩
  · injection e1 with _ e2 _
    omega
  · injection e1 with e1 _ _
    refine ⟨g, cur, e1, hg, heap_lt hh, hh, fun i u hu => ?_⟩
    have hi := (List.getElem?_eq_some_iff.1 hu).1
    rw [← Array.getElem?_toList, ← hu, ← ht, List.getElem?_take_of_lt (by omega)]
/-- A block, or any node whose children are such a row: it lies in the blocks from B on. -/
theorem TR.node {B j c : Nat} {V : World} {A : Option Addr} {xs : List (List Value × TY.Nd)} {cs : List Value} (h : TR 33 0 B V A j c xs cs) (hj : j ≤ 1000000) (k n : Int) (s : ByteArray) (hs : s.size ≤ 1000) : Nw B V (.mk k n s (xs.map Prod.snd)) (ndv k n s (.slice A j c)) := by
  obtain ⟨h1, h2, h3⟩ := h
  intro U hU hi hhi
  obtain ⟨A1, c1, ea, hc1, hc2⟩ : ∃ A' c', Value.slice A j c = .slice A' j c' ∧ j ≤ c' ∧ c' ≤ maxLen := by
    rcases h2.2 with ⟨e1, h0⟩ | ⟨g, cap, cur, e1, _, _, hn, hm, _⟩
    · injection e1 with e1 e2 e3
      exact ⟨A, c, rfl, by omega, by rw [e3]; simp [maxLen]⟩
    · injection e1 with e1 e2 e3
      exact ⟨A, c, rfl, by omega, by omega⟩
  injection ea with ea1 ea2 ea3
  subst ea1 ea3
  have hval : ∀ i x, xs[i]? = some x → ∃ (k n : Int) (s : ByteArray) (A' : Option Addr) (m d : Nat), Nx B (Value.slice A j c).ownBlock V x.2 (ndv k n s (.slice A' m d)) ∧ cs[i * 4]? = some (.int .i64 k) ∧ cs[i * 4 + 1]? = some (.int .i64 n) ∧ cs[i * 4 + 2]? = some (.string s) ∧ cs[i * 4 + 3]? = some (.slice A' m d) := fun i x hx => by
    obtain ⟨_, k, n, s, A', m, c', q, _, e0, e1, e2, e3⟩ := h3.2 i x hx
    exact ⟨k, n, s, A', m, c', q, e0, e1, e2, e3⟩
  have key : ∃ vs : List Value, vs.length = xs.length ∧ ∀ (i : Nat) (x : List Value × TY.Nd) (v : Value), xs[i]? = some x → vs[i]? = some v → ∃ (k n : Int) (s : ByteArray) (A' : Option Addr) (m d : Nat), v = ndv k n s (.slice A' m d) ∧ Nx B (Value.slice A j c).ownBlock V x.2 v ∧ cs[i * 4]? = some (.int .i64 k) ∧ cs[i * 4 + 1]? = some (.int .i64 n) ∧ cs[i * 4 + 2]? = some (.string s) ∧ cs[i * 4 + 3]? = some (.slice A' m d) := by
    refine ⟨(List.range xs.length).map fun i => .agg #[(cs[i * 4]?).getD undef, (cs[i * 4 + 1]?).getD undef, (cs[i * 4 + 2]?).getD undef, (cs[i * 4 + 3]?).getD undef], by simp, fun i x v hx hv => ?_⟩
    have hi := (List.getElem?_eq_some_iff.1 hx).1
    rw [List.getElem?_map, List.getElem?_range hi] at hv
    injection hv with hv
    obtain ⟨k, n, s, A', m, c', q, e0, e1, e2, e3⟩ := hval i x hx
    simp only [e0, e1, e2, e3, Option.getD_some] at hv
    subst hv
    exact ⟨k, n, s, A', m, c', rfl, q, e0, e1, e2, e3⟩
  obtain ⟨vs, hvl, hvs⟩ := key
  have hlm : (xs.map Prod.snd).length = j := by rw [List.length_map, h1]
  have hUs : ∀ x, B ≤ x → x < V.heap.size → U.heap[x]? = V.heap[x]? := hU
  rw [← hlm]
  refine .mk k n s (xs.map Prod.snd) A c vs (by rw [hvl, List.length_map]) (by omega) hc2 (by omega) hs ?_ fun i t v ht hv => ?_
  · rcases Nat.eq_zero_or_pos j with h0 | h0
    · exact .inl (List.eq_nil_of_length_eq_zero (by omega))
    · obtain ⟨b, C, rfl, hb1, hb2, hC, hcs⟩ := own_at h2 h0
      refine .inr ⟨b, 0, C, rfl, by omega, (hUs b hb1 hb2).trans hC, fun i v hv => ?_⟩
      obtain ⟨x, hx⟩ : ∃ x, xs[i]? = some x := ⟨xs[i]'(by have := (List.getElem?_eq_some_iff.1 hv).1; omega), List.getElem?_eq_getElem (by have := (List.getElem?_eq_some_iff.1 hv).1; omega)⟩
      obtain ⟨k, n, s, A', m, c', e, _, e0, e1, e2, e3⟩ := hvs i x v hx hv
      refine ⟨k, n, s, _, e, ?_, ?_, ?_, ?_⟩ <;> rw [Nat.zero_add] <;> apply hcs <;> assumption
  · obtain ⟨x, hx, rfl⟩ : ∃ x, xs[i]? = some x ∧ x.2 = t := by
      rw [List.getElem?_map] at ht
      exact Option.map_eq_some_iff.1 ht
    obtain ⟨_, _, _, _, _, _, _, q, _⟩ := hvs i x v hx hv
    exact q U (fun y h1 h2 _ => hUs y h1 h2) hi hhi
/-- Trees as elements of a row of nodes. -/
abbrev nds (ts : List TY.Nd) : List (List Value × TY.Nd) := ts.map fun t => ([], t)
theorem nds_snoc (ts : List TY.Nd) (t : TY.Nd) : nds (ts ++ [t]) = nds ts ++ [([], t)] := by simp [nds]
theorem nds_snd (ts : List TY.Nd) : (nds ts).map Prod.snd = ts := by simp [nds, Function.comp_def]
theorem grown_kept {w5 w6 : World} {B base n : Nat} {v : Value} {o : Obj} {C : Array Value} {t e : TypeId} {size : Nat} {xs : List Value} (hg : (w5.alloc o).grownBy w6 v.ownBlock) (hblk : w5.heap[B]? = some (.cells C t (0, 0))) (hown : (w5.alloc o).ownsRow base e size v n xs) (hB : B < base) :
    w6.heap[B]? = some (.cells C t (0, 0)) := by
  have hl := heap_lt hblk
  have hne : some B ≠ v.ownBlock := fun ee => by have := (hown.lt B ee.symm).1; omega
  exact ((hg.block B (by rw [World.size_alloc]; omega) hne).trans (Below.heap_alloc w5 _ B hl)).trans hblk
theorem grown_chg {w5 w6 : World} {base n : Nat} {v : Value} {o : Obj} {e : TypeId} {size : Nat} {xs : List Value} (hg : (w5.alloc o).grownBy w6 v.ownBlock) (hown : (w5.alloc o).ownsRow base e size v n xs) : Chg (base ≤ ·) w5 w6 :=
  ((Chg.refl (base ≤ ·) w5).alloc o).grown hg fun k ee _ => (hown.lt k ee).1
end Go.Proofs.YtlfpaemfhanpiaaGreatDoor

namespace Go.Proofs.YtlfpaemfhanpiaaGreatDoor
open Go Go.RowKit

def around (n m : Int) : Int := (if n < 0 then -(n + 1) else n) % m
theorem around_in (n m : Int) (hm : 0 < m) : 0 ≤ around n m ∧ around n m < m := ⟨Int.emod_nonneg _ (by omega), Int.emod_lt_of_pos _ hm⟩
set_option maxHeartbeats 400000 in
theorem around_any (n m : Int) (hn : I64 n) (hm : 0 < m) (hm2 : m ≤ 1099511627776) (w : World) :
    Calls Tryz.prog 64 #[.int .i64 n, .int .i64 m] w fun e w' => e = .returned (.int .i64 (around n m)) ∧ w = w' := by
  obtain ⟨n0, n1⟩ := hn
  have hz : (m == 0) = false := by simp; omega
  by_cases h : n < 0
  · have H := Lib.hid (show around n m = -((n + 1).tmod m) by unfold around; rw [if_pos h, ← Int.neg_tmod, Int.tmod_eq_emod_of_nonneg (by omega)])
    go_enter Tryz.func64, Tryz.ntmps64
    go_wp2
    go_ret
    exact ⟨by rw [H.out]; rfl, rfl⟩
  · have H := Lib.hid (show around n m = n % m by unfold around; rw [if_neg h])
    go_enter Tryz.func64, Tryz.ntmps64
    go_wp2
    go_ret
    exact ⟨by rw [H.out]; rfl, rfl⟩

end Go.Proofs.YtlfpaemfhanpiaaGreatDoor

namespace Go.Proofs.YtlfpaemfhanpiaaGreatDoor
open Go Go.RowKit Go.Proofs
attribute [local go_sem] Oper.semAt_some

/-- A generator in block b: its numbers L, below lo; the next place is i. -/
def GenV (W : World) (lo b : Nat) (L : List Int) (i : Nat) : Prop := lo ≤ b ∧ ∃ A c, W.heap[b]? = some (.cells #[.slice A L.length c, .int .i64 (i : Int)] 44 (0, 0)) ∧ L.length ≤ c ∧ c ≤ maxLen ∧ L.length ≤ 1000000 ∧ Ints .i64 lo W A L.length L ∧ ∀ z ∈ L, I64 z
theorem GenV.chg {W W' : World} {lo b i : Nat} {L : List Int} {S : Nat → Prop} (h : GenV W lo b L i) (hc : Chg S W W') (hb : ¬ S b) (hl : ∀ g, S g → lo ≤ g) : GenV W' lo b L i := by
  obtain ⟨h0, A, c, h1, h2, h3, h4, h5, h6⟩ := h
  have hlt := heap_lt h1
  refine ⟨h0, A, c, (hc.block b hlt hb).trans h1, h2, h3, h4, h5.below (hc.below (fun g _ hg => hl g hg) (by omega)), h6⟩
/-- Pick's answer. -/
def pk1 (L : List Int) (i : Nat) (m : Int) : Int := match L[i]? with | none => 0 | some z => around z m
theorem pk1_nx (L : List Int) (i m : Nat) : (pk1 L i 1000000).tmod (m : Int) = (PG.nx L i m : Int) := by
  unfold pk1 PG.nx around
  cases L[i]? with
  | none => simp
  | some z =>
    show (((if z < 0 then -(z + 1) else z) % 1000000 : Int).tmod (m : Int)) = ((((if z < 0 then -(z + 1) else z) % 1000000).toNat % m : Nat) : Int)
    obtain ⟨x, hx⟩ : ∃ x, (if z < 0 then -(z + 1) else z) = x := ⟨_, rfl⟩
    rw [hx]
    have h0 := Int.emod_nonneg x (b := 1000000) (by decide)
    rw [Int.tmod_eq_emod_of_nonneg h0, Int.natCast_emod, Int.toNat_of_nonneg h0]
set_option maxHeartbeats 2000000 in
theorem Pick_any (lo : Nat) (L : List Int) (i : Nat) (m : Int) (A : Option Addr) (c : Nat) (W : World) (hi : i ≤ 1000000000) (hm : 0 < m) (hm2 : m ≤ 1000000) (hL : Ints .i64 lo W A L.length L) (hz : ∀ z ∈ L, I64 z) :
    Calls Tryz.prog 35 #[.slice A L.length c, .int .i64 (i : Int), .int .i64 m] W fun e w' => e = .returned (.int .i64 (pk1 L i m)) ∧ w' = W := by
  have g0 : decide ((i : Int) < 0) = false := decide_eq_false (by omega)
  by_cases hil : i < L.length
  · obtain ⟨z, hzz⟩ : ∃ z, L[i]? = some z := ⟨L[i]'hil, List.getElem?_eq_getElem hil⟩
    obtain ⟨bz, oz, rfl, hbz, hcz⟩ := hL.2 (by omega)
    have ez := hcz i hil
    rw [hzz] at ez
    simp only [Option.getD_some] at ez
    have hR : pk1 L i m = around z m := by unfold pk1; rw [hzz]
    rw [hR]
    have HQ := Lib.hid (around_any z m (hz z (List.mem_of_getElem? hzz)) hm (by omega) W)
    have hg : decide ((L.length : Int) ≤ (i : Int)) = false := decide_eq_false (by omega)
    clear hcz hzz hz hL hR
    go_enter Tryz.func35, Tryz.ntmps35
    go_wp2_with (go_at_call 64; refine HQ.out.mono ?_; rintro e w2 ⟨rfl, hw⟩; have hw := hw.symm; subst hw)
    go_ret
    exact ⟨rfl, rfl⟩
  · have hR : pk1 L i m = 0 := by unfold pk1; rw [List.getElem?_eq_none (by omega)]
    rw [hR]
    have hg : decide ((L.length : Int) ≤ (i : Int)) = true := decide_eq_true (by omega)
    clear hL hz hR
    go_enter Tryz.func35, Tryz.ntmps35
    go_wp2_with fail
    go_ret
    exact ⟨rfl, rfl⟩
set_option maxHeartbeats 2000000 in
theorem pick_any (W : World) (lo b : Nat) (L : List Int) (i m : Nat) (h : GenV W lo b L i) (hi : i ≤ 1000000000) (hm : 0 < m) (hm2 : m ≤ 1000) :
    Calls Tryz.prog 17 #[.pointer (some ⟨b, 0, none⟩), .int .i64 (m : Int)] W fun e w' => e = .returned (.int .i64 (PG.nx L i m : Int)) ∧ GenV w' lo b L (i + 1) ∧ Chg (· = b) W w' := by
  obtain ⟨h0, A, c, h1, h2, h3, h4, h5, h6⟩ := h
  have hlt := heap_lt h1
  have c0 : W.cell? ⟨b, 0, none⟩ = some (.slice A L.length c) := cell_of_row W b 0 _ _ (0, 0) h1
  have c1 : W.cell? ⟨b, 1, none⟩ = some (.int .i64 (i : Int)) := cell_of_row W b 1 _ _ (0, 0) h1
  have f1 : W.frozen? ⟨b, 1, none⟩ = false := by simp [World.frozen?, h1]
  have HQ := Lib.hid (show ∀ q q2, Calls Tryz.prog 35 #[.slice A L.length c, .int .i64 (i : Int), .int .i64 1000000] ((W.drewN q).drewN q2) fun e w' => e = .returned (.int .i64 (pk1 L i 1000000)) ∧ w' = (W.drewN q).drewN q2 from fun q q2 => Pick_any lo L i 1000000 A c ((W.drewN q).drewN q2) hi (by decide) (by decide) h5 h6)
  have HF := Lib.hid (show ∀ q U, (W.drewN q).setCell ⟨b, 1, none⟩ (.int .i64 ((i : Int) + 1)) = U → GenV U lo b L (i + 1) ∧ Chg (· = b) W U from fun q U hU => by
    have g1 : U.heap[b]? = some (.cells #[.slice A L.length c, .int .i64 (((i + 1 : Nat)) : Int)] 44 (0, 0)) := by
      rw [← hU]
      simp only [World.setCell, Array.getElem?_modify]
      simp [World.drewN, h1]
    have hc1 : Chg (· = b) W U := by rw [← hU]; exact ((Chg.refl (· = b) W).drewN q).setCell (p := ⟨b, 1, none⟩) (fun _ => rfl) _
    exact ⟨⟨h0, A, c, g1, h2, h3, h4, h5.below (hc1.below (fun g _ e => by omega) (by omega)), h6⟩, hc1⟩)
  have hmod := pk1_nx L i m
  have hmz : ((m : Int) == 0) = false := by simp; omega
  have hlt2 := PG.nx_lt L i hm
  obtain ⟨y, hy⟩ : ∃ y, pk1 L i 1000000 = y := ⟨_, rfl⟩
  rw [hy] at HQ hmod
  rw [← hmod]
  have hwr : IntKind.i64.wrap (y.tmod (m : Int)) = y.tmod (m : Int) := by
    rw [hmod]
    exact IntWalk.i64_in _ (by omega)
  clear h5 h6 h1 hy hmod hlt2
  go_enter Tryz.func17, Tryz.ntmps17
  go_wp2_with fail
  go_quiet (first | (go_at_call 35; refine Calls.quiet_of_same (HQ.out 0 _)))
  have c1' : (W.drewN nq).cell? ⟨b, 1, none⟩ = some (.int .i64 (i : Int)) := c1
  have f1' : (W.drewN nq).frozen? ⟨b, 1, none⟩ = false := f1
  have HG := Lib.hid (HF.out nq)
  generalize W.drewN nq = W2 at *
  clear c0 c1 f1 HQ HF
  go_wp2_with fail
  go_ret
  exact ⟨rfl, HG.out _ rfl⟩
set_option maxHeartbeats 2000000 in
theorem variable_any (W : World) (lo b : Nat) (L : List Int) (i : Nat) (h : GenV W lo b L i) (hi : i ≤ 1000000000) :
    Calls Tryz.prog 65 #[.pointer (some ⟨b, 0, none⟩)] W fun e w' => e = .returned (.string (TY.pick PG.vars (PG.nx L i 4))) ∧ GenV w' lo b L (i + 1) ∧ Chg (· = b) W w' := by
  have hb : b < W.heap.size := heap_lt (Classical.choose_spec (Classical.choose_spec h.2)).1
  obtain ⟨W1, hW1⟩ : ∃ U, W.alloc (.cells #[.string ⟨#[100]⟩, .string ⟨#[100, 100, 49]⟩, .string ⟨#[118]⟩, .string ⟨#[119, 50]⟩] 9) = U := ⟨_, rfl⟩
  have k1 : Chg (fun _ => False) W W1 := by rw [← hW1]; exact (Chg.refl _ _).alloc _
  have g1 : W1.heap[W.heap.size]? = some (.cells #[.string ⟨#[100]⟩, .string ⟨#[100, 100, 49]⟩, .string ⟨#[118]⟩, .string ⟨#[119, 50]⟩] 9 (0, 0)) := by rw [← hW1]; exact World.alloc_heap_new W _
  have h1 := h.chg k1 (fun e => e) (fun _ e => e.elim)
  have HN := Lib.hid (pick_any W1 lo b L i 4 h1 hi (by decide) (by decide))
  have hlt := PG.nx_lt L i (m := 4) (by decide)
  have HK := Lib.hid (show ∀ V, Chg (· = b) W1 V → V.cell? ⟨W.heap.size, PG.nx L i 4, none⟩ = some (.string (TY.pick PG.vars (PG.nx L i 4))) from fun V hV => by
    rw [cell_of_row V W.heap.size _ _ _ (0, 0) ((hV.block _ (heap_lt g1) (by omega)).trans g1)]
    generalize PG.nx L i 4 = x at hlt
    match x, hlt with
    | 0, _ => rfl
    | 1, _ => rfl
    | 2, _ => rfl
    | 3, _ => rfl)
  have HC := Lib.hid (show ∀ V, Chg (· = b) W1 V → Chg (· = b) W V from fun V hV => (k1.mono (T := (· = b)) (fun _ _ e => e.elim)).trans hV fun _ _ e => e)
  have HW1 := Lib.hid hW1
  obtain ⟨x, hx⟩ : ∃ x, PG.nx L i 4 = x := ⟨_, rfl⟩
  obtain ⟨s, hs⟩ : ∃ s, TY.pick PG.vars x = s := ⟨_, rfl⟩
  rw [hx, hs] at HK
  rw [hx] at HN hlt
  rw [hx, hs]
  clear h hx hs g1 k1 h1 hW1 hb
  go_enter Tryz.func65, Tryz.ntmps65
  go_wp2_with (first
    | (rw [HW1.out]; go_at_call 17; refine HN.out.mono ?_; clear HN; rintro e w2 ⟨rfl, hs2, hc2⟩; have hcx := HK.out _ hc2; have HS2 := Lib.hid hs2; have HC2 := Lib.hid (HC.out _ hc2); clear hs2 hc2))
  go_ret
  exact ⟨rfl, HS2.out, HC2.out⟩
end Go.Proofs.YtlfpaemfhanpiaaGreatDoor

namespace Go.Proofs.YtlfpaemfhanpiaaGreatDoor
open Go Go.RowKit Go.Proofs
attribute [local go_sem] Oper.semAt_some

/-- Between two draws of a call that began at W and has its result's cells in the first new block. -/
structure ExG (W V : World) (lo b : Nat) (L : List Int) (i : Nat) : Prop where
  src : GenV V lo b L i
  box : V.heap[W.heap.size]? = some (.cells #[.int .i64 0, .int .i64 0, .string ⟨#[]⟩, .slice none 0 0] 33 (0, 0))
  chg : Chg (· = b) W V
  lt : b < W.heap.size
section
variable {W V V' : World} {lo b i i' : Nat} {L : List Int}
theorem ExG.big (h : ExG W V lo b L i) : W.heap.size + 1 ≤ V.heap.size := heap_lt h.box
theorem ExG.step (h : ExG W V lo b L i) (hs : GenV V' lo b L i') (hc : Chg (· = b) V V') : ExG W V' lo b L i' := ⟨hs, (hc.block _ (heap_lt h.box) (by have := h.lt; omega)).trans h.box, h.chg.trans hc (fun _ _ e => e), h.lt⟩
theorem ExG.alloc (h : ExG W V lo b L i) (o : Obj) : ExG W (V.alloc o) lo b L i := by
  have hc : Chg (fun _ => False) V (V.alloc o) := (Chg.refl _ _).alloc o
  exact ⟨h.src.chg hc (fun e => e) (fun _ e => e.elim), (Below.heap_alloc V o _ (heap_lt h.box)).trans h.box, h.chg.trans hc (fun _ _ e => e.elim), h.lt⟩
theorem ExG.begin (h : GenV W lo b L i) : ExG W (W.alloc (.cells #[.int .i64 0, .int .i64 0, .string ⟨#[]⟩, .slice none 0 0] 33)) lo b L i := by
  have hc : Chg (fun _ => False) W (W.alloc (.cells #[.int .i64 0, .int .i64 0, .string ⟨#[]⟩, .slice none 0 0] 33)) := (Chg.refl _ _).alloc _
  obtain ⟨h0, A, c, h1, _⟩ := id h
  exact ⟨h.chg hc (fun e => e) (fun _ e => e.elim), World.alloc_heap_new W _, hc.mono (fun _ _ e => e.elim), heap_lt h1⟩
theorem ExG.cells (h : ExG W V lo b L i) : V.cell? ⟨W.heap.size, 0, none⟩ = some (.int .i64 0) ∧ V.cell? ⟨W.heap.size, 1, none⟩ = some (.int .i64 0) ∧ V.cell? ⟨W.heap.size, 2, none⟩ = some (.string ⟨#[]⟩) ∧ V.cell? ⟨W.heap.size, 3, none⟩ = some (.slice none 0 0) ∧ V.frozen? ⟨W.heap.size, 0, none⟩ = false ∧ V.frozen? ⟨W.heap.size, 1, none⟩ = false ∧ V.frozen? ⟨W.heap.size, 2, none⟩ = false ∧ V.frozen? ⟨W.heap.size, 3, none⟩ = false :=
  ⟨cell_of_row V _ 0 _ _ (0, 0) h.box, cell_of_row V _ 1 _ _ (0, 0) h.box, cell_of_row V _ 2 _ _ (0, 0) h.box, cell_of_row V _ 3 _ _ (0, 0) h.box, by simp [World.frozen?, h.box], by simp [World.frozen?, h.box], by simp [World.frozen?, h.box], by simp [World.frozen?, h.box]⟩
/-- Behind the store of the result. -/
theorem ExG.fin (h : ExG W V lo b L i) {t : TY.Nd} (k n : Int) (s : ByteArray) (K : Value) (ht : Nw (W.heap.size + 1) V t (ndv k n s K)) {U : World} (hU : (((V.setCell ⟨W.heap.size, 0, none⟩ (.int .i64 k)).setCell ⟨W.heap.size, 1, none⟩ (.int .i64 n)).setCell ⟨W.heap.size, 2, none⟩ (.string s)).setCell ⟨W.heap.size, 3, none⟩ K = U) :
    U.heap[W.heap.size]? = some (.cells #[.int .i64 k, .int .i64 n, .string s, K] 33 (0, 0)) ∧ Nw W.heap.size U t (ndv k n s K) ∧ GenV U lo b L i ∧ Chg (· = b) W U := by
  subst hU
  have hlt := h.lt
  have hb := h.box
  have keep : ∀ g, g ≠ W.heap.size → ((((V.setCell ⟨W.heap.size, 0, none⟩ (.int .i64 k)).setCell ⟨W.heap.size, 1, none⟩ (.int .i64 n)).setCell ⟨W.heap.size, 2, none⟩ (.string s)).setCell ⟨W.heap.size, 3, none⟩ K).heap[g]? = V.heap[g]? := fun g hg => (Below.heap_setCell _ _ _ _ hg).trans ((Below.heap_setCell _ _ _ _ hg).trans ((Below.heap_setCell _ _ _ _ hg).trans (Below.heap_setCell _ _ _ _ hg)))
  have hc : Chg (· = W.heap.size) V ((((V.setCell ⟨W.heap.size, 0, none⟩ (.int .i64 k)).setCell ⟨W.heap.size, 1, none⟩ (.int .i64 n)).setCell ⟨W.heap.size, 2, none⟩ (.string s)).setCell ⟨W.heap.size, 3, none⟩ K) :=
    ((((Chg.refl (· = W.heap.size) V).setCell (p := ⟨W.heap.size, 0, none⟩) (fun _ => rfl) _).setCell (p := ⟨W.heap.size, 1, none⟩) (fun _ => rfl) _).setCell (p := ⟨W.heap.size, 2, none⟩) (fun _ => rfl) _).setCell (p := ⟨W.heap.size, 3, none⟩) (fun _ => rfl) _
  have hlo : lo ≤ b := h.src.1
  refine ⟨?_, (ht.keep (fun c h1 _ => keep c (by omega)) hc.size).lower (by omega), h.src.chg hc (by omega) (fun g e => by omega), h.chg.trans hc (fun x hx e => by omega)⟩
  simp only [World.setCell, Array.getElem?_modify]
  simp [hb]
end
theorem gpk {W V : World} {lo b i : Nat} {L : List Int} (h : ExG W V lo b L i) (hi : i ≤ 1000000000) (m x : Nat) (mi : Int) (hm : 0 < m) (hm2 : m ≤ 1000) (hmi : (m : Int) = mi) (hx : PG.nx L i m = x) :
    Calls Tryz.prog 17 #[.pointer (some ⟨b, 0, none⟩), .int .i64 mi] V fun e w' => e = .returned (.int .i64 (x : Int)) ∧ ExG W w' lo b L (i + 1) ∧ Chg (· = b) V w' := by
  subst hmi hx
  exact (pick_any V lo b L i m h.src hi hm hm2).mono fun e w' ⟨h1, h2, h3⟩ => ⟨h1, h.step h2 h3, h3⟩
theorem gpc {W V : World} {lo b i : Nat} {L : List Int} (h : ExG W V lo b L i) (hi : i ≤ 1000000000) (C : Array Value) (T : TypeId) (m x : Nat) (mi : Int) (P : Nat → Value) (hm : 0 < m) (hm2 : m ≤ 1000) (hmi : (m : Int) = mi) (hx : PG.nx L i m = x) (hP : ∀ j, j < m → C[j]? = some (P j)) :
    Calls Tryz.prog 17 #[.pointer (some ⟨b, 0, none⟩), .int .i64 mi] (V.alloc (.cells C T)) fun e w' => e = .returned (.int .i64 (x : Int)) ∧ ExG W w' lo b L (i + 1) ∧ w'.cell? ⟨V.heap.size, x, none⟩ = some (P x) ∧ Chg (· = b) V w' := by
  have hlt : x < m := hx ▸ PG.nx_lt L i hm
  have hb := h.lt
  have hbig := h.big
  refine (gpk (h.alloc (.cells C T)) hi m x mi hm hm2 hmi hx).mono ?_
  rintro e w' ⟨h1, h2, h3⟩
  refine ⟨h1, h2, ?_, ((Chg.refl (· = b) V).alloc _).trans h3 fun _ _ e => e⟩
  rw [cell_of_row w' V.heap.size _ C _ (0, 0) ((h3.block _ (by rw [World.size_alloc]; omega) (by omega)).trans (World.alloc_heap_new V _))]
  exact hP x hlt
theorem gvr {W V : World} {lo b i : Nat} {L : List Int} (h : ExG W V lo b L i) (hi : i ≤ 1000000000) {s : ByteArray} (hs : TY.pick PG.vars (PG.nx L i 4) = s) :
    Calls Tryz.prog 65 #[.pointer (some ⟨b, 0, none⟩)] V fun e w' => e = .returned (.string s) ∧ ExG W w' lo b L (i + 1) ∧ Chg (· = b) V w' := by
  subst hs
  exact (variable_any V lo b L i h.src hi).mono fun e w' ⟨h1, h2, h3⟩ => ⟨h1, h.step h2 h3, h3⟩
/-- What a builder of trees does; the arguments behind the generator. -/
def GAt (f : FuncId) (L : List Int) (xs : List Int) (g : PG.Gen) (e : Nat) : Prop := ∀ (W : World) (lo b i : Nat), GenV W lo b L i → i + e ≤ 1000000000 →
  Calls Tryz.prog f (#[.pointer (some ⟨b, 0, none⟩)] ++ (xs.map (Value.int .i64)).toArray) W fun r w' => ∃ v, r = .returned v ∧ Nw W.heap.size w' (g i).1 v ∧ GenV w' lo b L (g i).2 ∧ (g i).2 ≤ i + e ∧ Chg (· = b) W w'
theorem gsb {f : FuncId} {W V : World} {lo b i e : Nat} {L : List Int} {xs : List Int} {sub : PG.Gen} (hE : GAt f L xs sub e) (h : ExG W V lo b L i) (hi : i + e ≤ 1000000000) {t1 : TY.Nd} {j1 : Nat} (hs : sub i = (t1, j1)) :
    Calls Tryz.prog f (#[.pointer (some ⟨b, 0, none⟩)] ++ (xs.map (Value.int .i64)).toArray) V fun r w' => ∃ (k n : Int) (s : ByteArray) (A : Option Addr) (m c : Nat), r = .returned (ndv k n s (.slice A m c)) ∧ Nw V.heap.size w' t1 (ndv k n s (.slice A m c)) ∧ ExG W w' lo b L j1 ∧ j1 ≤ i + e ∧ Chg (· = b) V w' := by
  refine (hE V lo b i h.src hi).mono ?_
  rw [hs]
  rintro r w' ⟨v, h1, h2, h3, h4, h5⟩
  obtain ⟨k, n, s, A, m, c, rfl⟩ := h2.shape
  exact ⟨k, n, s, A, m, c, h1, h2, h.step h3 h5, h4, h5⟩
set_option maxRecDepth 100000 in
theorem Builtins_any (W : World) : Calls Tryz.prog 87 #[] W fun e w' => e = .returned (.slice (some ⟨W.heap.size, 0, none⟩) 9 9) ∧ w' = W.alloc (.cells (TY.bNames.map Value.string).toArray 9) := by
  go_enter Tryz.func87, Tryz.ntmps87
  go_wp2
  go_ret
  exact ⟨rfl, rfl⟩
theorem pick_small {l : List ByteArray} (h : (l.all fun s => decide (s.size ≤ 1000)) = true) (n : Nat) : (TY.pick l n).size ≤ 1000 := by
  unfold TY.pick
  cases hx : l[n]? with
  | none => exact Nat.zero_le _
  | some x =>
    have := List.all_eq_true.1 h _ (List.mem_of_getElem? hx)
    rwa [decide_eq_true_iff] at this
/-- A box of a tree, laid behind the call that gave it: its cells. -/
theorem box_cells (w : World) (a0 a1 a2 a3 : Value) {W' : World} (h : W'.heap[w.heap.size]? = some (.cells #[a0, a1, a2, a3] 33 (0, 0))) : W'.cell? ⟨w.heap.size, 0, none⟩ = some a0 ∧ W'.cell? ⟨w.heap.size, 1, none⟩ = some a1 ∧ W'.cell? ⟨w.heap.size, 2, none⟩ = some a2 ∧ W'.cell? ⟨w.heap.size, 3, none⟩ = some a3 :=
  ⟨cell_of_row W' _ 0 _ _ (0, 0) h, cell_of_row W' _ 1 _ _ (0, 0) h, cell_of_row W' _ 2 _ _ (0, 0) h, cell_of_row W' _ 3 _ _ (0, 0) h⟩
theorem box_cellsG {W' : World} {g : Nat} {a0 a1 a2 a3 : Value} (h : W'.heap[g]? = some (.cells #[a0, a1, a2, a3] 33 (0, 0))) : W'.cell? ⟨g, 0, none⟩ = some a0 ∧ W'.cell? ⟨g, 1, none⟩ = some a1 ∧ W'.cell? ⟨g, 2, none⟩ = some a2 ∧ W'.cell? ⟨g, 3, none⟩ = some a3 :=
  ⟨cell_of_row W' _ 0 _ _ (0, 0) h, cell_of_row W' _ 1 _ _ (0, 0) h, cell_of_row W' _ 2 _ _ (0, 0) h, cell_of_row W' _ 3 _ _ (0, 0) h⟩
theorem Nw.mk1 {B : Nat} {w : World} {k n : Int} {s : ByteArray} {t0 : TY.Nd} {k0 n0 : Int} {s0 : ByteArray} {K0 : Value} (hB : B ≤ w.heap.size) (hs : s.size ≤ 1000) (h : Nw B w t0 (ndv k0 n0 s0 K0)) : Nw B (w.alloc (.cells #[.int .i64 k0, .int .i64 n0, .string s0, K0] 33)) (.mk k n s [t0]) (ndv k n s (.slice (some ⟨w.heap.size, 0, none⟩) 1 1)) := Nw.one hB hs h
theorem Nw.mk2 {B : Nat} {w : World} {k n : Int} {s : ByteArray} {t0 t1 : TY.Nd} {k0 n0 k1 n1 : Int} {s0 s1 : ByteArray} {K0 K1 : Value} (hB : B ≤ w.heap.size) (hs : s.size ≤ 1000) (h : Nw B w t0 (ndv k0 n0 s0 K0)) (h' : Nw B w t1 (ndv k1 n1 s1 K1)) : Nw B (w.alloc (.cells #[.int .i64 k0, .int .i64 n0, .string s0, K0, .int .i64 k1, .int .i64 n1, .string s1, K1] 33)) (.mk k n s [t0, t1]) (ndv k n s (.slice (some ⟨w.heap.size, 0, none⟩) 2 2)) := fun V hV hi hh => by
  rw [World.size_alloc] at hV hh
  have hk : ∀ c, B ≤ c → c < w.heap.size → V.heap[c]? = w.heap[c]? := fun c h1 h2 => (hV c h1 (by omega)).trans (Below.heap_alloc w _ c h2)
  exact NdV.two ((hV _ hB (by omega)).trans (World.alloc_heap_new w _)) (by omega) hs (h V hk hi (by omega)) (h' V hk hi (by omega))
theorem Nw.mk3 {B : Nat} {w : World} {k n : Int} {s : ByteArray} {t0 t1 t2 : TY.Nd} {k0 n0 k1 n1 k2 n2 : Int} {s0 s1 s2 : ByteArray} {K0 K1 K2 : Value} (hB : B ≤ w.heap.size) (hs : s.size ≤ 1000) (h : Nw B w t0 (ndv k0 n0 s0 K0)) (h' : Nw B w t1 (ndv k1 n1 s1 K1)) (h'' : Nw B w t2 (ndv k2 n2 s2 K2)) : Nw B (w.alloc (.cells #[.int .i64 k0, .int .i64 n0, .string s0, K0, .int .i64 k1, .int .i64 n1, .string s1, K1, .int .i64 k2, .int .i64 n2, .string s2, K2] 33)) (.mk k n s [t0, t1, t2]) (ndv k n s (.slice (some ⟨w.heap.size, 0, none⟩) 3 3)) := fun V hV hi hh => by
  rw [World.size_alloc] at hV hh
  have hk : ∀ c, B ≤ c → c < w.heap.size → V.heap[c]? = w.heap[c]? := fun c h1 h2 => (hV c h1 (by omega)).trans (Below.heap_alloc w _ c h2)
  exact NdV.three ((hV _ hB (by omega)).trans (World.alloc_heap_new w _)) (by omega) hs (h V hk hi (by omega)) (h' V hk hi (by omega)) (h'' V hk hi (by omega))
end Go.Proofs.YtlfpaemfhanpiaaGreatDoor

namespace Go.Proofs.YtlfpaemfhanpiaaGreatDoor
open Go Go.RowKit

theorem info_intG : (Tryz.prog.info? 3).map (fun i => (i.zero, i.size, i.bytes)) = some (some (.int .i64 0), 1, 8) := by kernel_rfl
/-- A slice that the call made, of the integers zs. -/
def MkG (t : TypeId) (k : IntKind) (w : World) (zs : List Int) (e : Ending) (w' : World) : Prop :=
  ∃ A n c, e = .returned (.slice A n c) ∧ zs.length = n ∧ Lst t k w'.heap.size w' A n c zs ∧ w'.ownsRow w.heap.size t 1 (.slice A n c) n (zs.map (Value.int k)) ∧ Below w.heap.size w w'
theorem mkG_own {t : TypeId} {k : IntKind} {w w1 : World} {v : Value} {m : Nat} {zs : List Int} (h : w1.ownsRow w.heap.size t 1 v m (zs.map (Value.int k))) (hb : Below w.heap.size w w1) : MkG t k w zs (.returned v) w1 := by
  have hl : zs.length = m := by have := h.1; simpa using this
  obtain ⟨A, c, rfl, h1, h2⟩ := own_slice h
  exact ⟨A, m, c, rfl, hl, Lst.of_own h, h, hb⟩
theorem mkG_of {t : TypeId} {k : IntKind} {w w1 : World} {v : Value} {m : Nat} {zs : List Int} (h : w1.ownsRow w.heap.size t 1 v (0 + m) ([] ++ zs.map (Value.int k))) (hb : Below w.heap.size w w1) : MkG t k w zs (.returned v) w1 := by
  rw [Nat.zero_add, List.nil_append] at h
  exact mkG_own h hb
theorem mkG_none (t : TypeId) (k : IntKind) (w : World) (zs : List Int) (h : zs = []) : MkG t k w zs (.returned (.slice none 0 0)) w := by
  subst h
  exact mkG_own (m := 0) ⟨rfl, .inl ⟨rfl, rfl⟩⟩ (Below.refl _ _)

set_option maxHeartbeats 400000 in
theorem intsG_any (a : Option Addr) (n c : Nat) (zs : List Int) (k : Int) (h0 : 0 ≤ k) (hk : k ≤ 1000) (w : World) (hS : Slc .i64 w a n c zs) :
    Calls Tryz.prog 16 #[.slice a n c, .int .i64 k] w (MkG 3 .i64 w (zs.take k.toNat)) := by
  obtain ⟨k, rfl⟩ := Int.eq_ofNat_of_zero_le h0
  obtain ⟨i0, hi, hz0, hz1, hz2⟩ := info_parts info_intG
  obtain ⟨hl, hnc, hcm, hx⟩ := hS
  have hlt : (zs.take k).length = min k n := by rw [List.length_take, hl]
  have HL := Lib.hid hlt
  unfold maxLen at hcm
  rcases hx with ⟨rfl, rfl⟩ | ⟨x, rfl, hc⟩
  · obtain rfl : n = 0 := by omega
    obtain rfl : zs = [] := List.eq_nil_of_length_eq_zero hl
    clear hlt
    go_enter Tryz.func16, Tryz.ntmps16
    go_wp2_with (at_builtin; refine wpList_append_own_none rfl _ _ 22 rfl w.heap.size 3 i0 1 Tryz.underlying22 hi (.slice none 0 0) 0 [] rfl ⟨rfl, .inl ⟨rfl, rfl⟩⟩ rfl ?_)
    go_ret
    exact mkG_none _ _ _ _ (by simp)
  · have hcs : ∀ j u, ((zs.take k).map (Value.int .i64))[j]? = some u → w.cell? (x.add j) = some u := fun j u hu => hc j u (by
      rw [List.map_take] at hu
      rw [← hu, List.getElem?_take_of_lt]
      rcases Nat.lt_or_ge j k with h | h
      · exact h
      · rw [List.getElem?_take_eq_none h] at hu; cases hu)
    have HC := Lib.hid hcs
    clear hc hcs hlt
    by_cases hkn : n ≤ k
    all_goals
      go_enter Tryz.func16, Tryz.ntmps16
      go_wp2_with (at_builtin
                   refine wpList_append_own _ rfl _ _ 22 rfl w.heap.size 3 i0 _ 1 8 Tryz.underlying22 hi hz0 hz1 hz2 rfl (by decide) (.slice none 0 0) 0 [] rfl ⟨rfl, .inl ⟨rfl, rfl⟩⟩ x _ _ ((zs.take k).map (Value.int .i64)) rfl (by rw [List.length_map, HL.out]; omega) HC.out (ints_oneCell _ _) (by simp only [maxLen]; omega) (by omega) (Nat.le_refl _) ?_
                   intro v' w1 hown' hgrow _)
      go_ret
      exact mkG_of hown' ((Below.refl _ w).grown hgrow (Nat.le_refl _) (fun k e => by cases e))

end Go.Proofs.YtlfpaemfhanpiaaGreatDoor
