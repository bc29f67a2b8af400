/-
  A region that draws its order, whose last two operations (a store and what follows it) wait for all others. No function of the program.
-/
import Derived.Test.YtepbppckhfiplaaRgX
import Derived.Test.YtepbppckhfiplaaRgU
namespace Go.Proofs.Ytepbppckhfiplaa.RgX
open Go Go.RowKit Go.Proofs Go.Proofs.Ytepbppckhfiplaa

def backsB (ops : Array Oper) : Bool := (List.range ops.size).all fun i => match ops[i]? with
  | some o => o.after.all fun e => !Region.binds .any e || decide (e.on < i)
  | none => true
theorem backsB_spec {ops : Array Oper} (h : backsB ops = true) {i : Nat} {o : Oper} (ho : ops[i]? = some o) {e : Edge} (he : e ∈ o.after) (hb : Region.binds .any e = true) : e.on < i := by
  unfold backsB at h
  rw [List.all_eq_true] at h
  have hi : i < ops.size := (Array.getElem?_eq_some_iff.1 ho).1
  have := h i (List.mem_range.2 hi)
  rw [ho] at this
  simp only at this
  rw [Array.all_eq_true_iff_forall_mem] at this
  have := this e he
  rw [hb] at this
  simpa using this
theorem allB_listed {ops : Array Oper} {listed : Array Bool} (hs : listed.size = ops.size) (hb : ∀ (i : Nat) (o : Oper), ops[i]? = some o → ∀ e ∈ o.after, Region.binds .any e = true → e.on < i) (hr : Region.ready .any ops listed = []) : ∀ i, i < ops.size → listed.getD i false = true := by
  intro i
  induction i using Nat.strongRecOn with
  | ind i ih =>
    intro hi
    rcases Bool.eq_false_or_eq_true (listed.getD i false) with h | h
    · exact h
    · exfalso
      have hm : i ∈ Region.ready .any ops listed := by
        unfold Region.ready
        rw [List.mem_filter, List.mem_range, Bool.and_eq_true, Bool.not_eq_true']
        have hl : i < listed.size := by omega
        refine ⟨hi, ?_, ?_⟩
        · simp only [Array.getD, hl, dif_pos] at h ⊢
          exact h
        · rw [Array.getElem?_eq_getElem hi]
          simp only [Option.map_some, Option.getD_some]
          rw [Array.all_eq_true_iff_forall_mem]
          intro e he
          cases hbd : Region.binds .any e with
          | false => simp
          | true =>
            have hlt := hb i _ (Array.getElem?_eq_getElem hi) e he hbd
            rw [ih e.on hlt (by omega)]
            simp
      rw [hr] at hm
      cases hm
section
variable {P : Program} {id : Nat} {ops : Array Oper} {Q : Exit → Act → World → Prop} {a0 : Act} {W : World}
/-- A region that draws its order, where only the edges that bind point back. -/
theorem regionB (N : Nat) (sl : Nat → Nat) (sp : Nat → Sp) (hm : P.follows .mixedOrders = true) (hN : ops.size = N) (hb : backsB ops = true)
    (hsl : ∀ i, i < N → sl i < a0.tmps.size) (hinj : ∀ i j, i < N → j < N → sl i = sl j → i = j)
    (step : ∀ (L : Nat → Bool) (a : Act) (w : World) (i : Nat) (o : Oper), RX N sl sp W a0 L a w → ops[i]? = some o → (∀ e ∈ o.after, Region.binds .any e = true → L e.on = true) → o.dst = some (sl i) ∧ Does P ops (sp i) a w o)
    (fin : ∀ (a : Act) (w : World), a.tmps.size = a0.tmps.size → a.defers = a0.defers → (∀ j, (∀ i, i < N → sl i ≠ j) → a.tmps[j]? = a0.tmps[j]?) → Below W.heap.size W w → (∀ i j s, i < N → sl i = j → sp i = s → ∃ y, a.tmps[j]? = some y ∧ s.p w y) → Q .normal a w) : (Code.region id ops true).wp P Q a0 W := by
  refine wp_region_any hm ?_
  refine wpAny_inv (fun listed => RX N sl sp W a0 (fun i => listed.getD i false)) (fun listed a w i hs hI hi => ?_) (fun listed a w hs hr hI => ?_) _ _ _ _ (by simp) (by simp) ⟨rfl, rfl, fun _ _ => rfl, (Below.refl _ W).drew, fun i hi hl => (getD_none hl).elim⟩
  · obtain ⟨h1, _, h3⟩ := ready_spec hi
    obtain ⟨o, ho⟩ : ∃ o, ops[i]? = some o := ⟨_, Array.getElem?_eq_getElem h1⟩
    obtain ⟨hd, hdo⟩ := step _ a w i o hI ho (ready_deps hi ho)
    refine hdo.upon ho fun v w' hV hv => ?_
    rw [hd]
    exact hI.put hsl hinj hV (by omega) hv fun j hj => getD_set hj
  · exact fin a w hI.size hI.defers hI.low hI.held fun i j s hi hj hs2 => by subst hj; subst hs2; exact hI.ok i hi (allB_listed hs (fun i o ho e he hbd => backsB_spec hb ho he hbd) hr i (by omega))
theorem tailS (N : Nat) (sl : Nat → Nat) (sp : Nat → Sp) (oL oM : Oper) (hm : P.follows .mixedOrders = true) (hN : ops.size = N + 2) (hL : ops[N]? = some oL) (hM : ops[N + 1]? = some oM) (hb : backsB ops = true) (ht : tailX ops N = true) (ht2 : (depsX ops (N + 1)).contains N = true)
    (hsl : ∀ i, i < N → sl i < a0.tmps.size) (hinj : ∀ i j, i < N → j < N → sl i = sl j → i = j)
    (step : ∀ (L : Nat → Bool) (a : Act) (w : World) (i : Nat) (o : Oper), i < N → RX N sl sp W a0 L a w → ops[i]? = some o → (∀ e ∈ o.after, Region.binds .any e = true → L e.on = true) → o.dst = some (sl i) ∧ Does P ops (sp i) a w o)
    (fin : ∀ (a : Act) (w : World), a.tmps.size = a0.tmps.size → a.defers = a0.defers → (∀ j, (∀ i, i < N → sl i ≠ j) → a.tmps[j]? = a0.tmps[j]?) → Below W.heap.size W w → (∀ i j s, i < N → sl i = j → sp i = s → ∃ y, a.tmps[j]? = some y ∧ s.p w y) → wpList P ops Q [oL, oM] a w) : (Code.region id ops true).wp P Q a0 W := by
  refine wp_region_any hm ?_
  refine wpAny_inv (fun listed a w => (listed.getD N false = false ∧ listed.getD (N + 1) false = false ∧ RX N sl sp W a0 (fun i => listed.getD i false) a w ∧ ∀ i, listed.getD i false = true → ∀ j ∈ depsX ops i, listed.getD j false = true) ∨ ((∀ j, j ≤ N → listed.getD j false = true) ∧ listed.getD (N + 1) false = false ∧ wpList P ops Q [oM] a w) ∨ ((∀ j, j ≤ N + 1 → listed.getD j false = true) ∧ Q .normal a w)) (fun listed a w i hs hI hi => ?_) (fun listed a w hs hr hI => ?_) _ _ _ _ (by simp) (by simp) (.inl ⟨?_, ?_, ⟨rfl, rfl, fun _ _ => rfl, (Below.refl _ W).drew, fun i hi hl => (getD_none hl).elim⟩, fun i hl => (getD_none hl).elim⟩)
  · obtain ⟨h1, h2, _⟩ := ready_spec hi
    have hdp := fun {o} (ho : ops[i]? = some o) => ready_deps hi ho
    have his : i < listed.size := by omega
    have hnot : listed.getD i false = true → False := fun h => by
      rw [Array.getD_eq_getD_getElem?] at h h2
      cases h3 : listed[i]? with
      | none => rw [h3] at h; simp at h
      | some b => rw [h3] at h h2; simp at h h2; rw [h] at h2; cases h2
    rcases hI with ⟨hn, hn1, hI, hc⟩ | ⟨hall, hn1, hq⟩ | ⟨hall, _⟩
    · have hcl : ∀ k, (listed.setIfInBounds i true).getD k false = true → ∀ j ∈ depsX ops k, (listed.setIfInBounds i true).getD j false = true := by
        intro k hk j hj
        rcases getD_set hk with rfl | hk
        · obtain ⟨o, ho⟩ : ∃ o, ops[k]? = some o := ⟨_, Array.getElem?_eq_getElem h1⟩
          obtain ⟨e, he, hbd, rfl⟩ := deps_of ho hj
          exact set_keep (hdp ho e he hbd)
        · exact set_keep (hc k hk j hj)
      by_cases hiM : i = N + 1
      · exfalso
        subst hiM
        obtain ⟨e, he, hbd, e2⟩ := deps_of hM (by simpa using ht2)
        have := hdp hM e he hbd
        rw [e2, hn] at this
        cases this
      by_cases hiN : i = N
      · subst hiN
        have hall : ∀ j, j < i → listed.getD j false = true := by
          intro j hj
          have h3 := coverX_listed (L := fun j => listed.getD j false) hc i (depsX ops i) (fun j hj => by
            obtain ⟨e, he, hbd, rfl⟩ := deps_of hL hj
            exact hdp hL e he hbd)
          unfold tailX at ht
          rw [List.all_eq_true] at ht
          exact h3 j (by simpa using ht j (List.mem_range.2 hj))
        have hf := fin a w hI.size hI.defers hI.low hI.held fun k j s hk hj hs2 => by subst hj; subst hs2; exact hI.ok k hk (hall k hk)
        have hQ : ∀ a w, wpList P ops Q [oM] a w → ((listed.setIfInBounds i true).getD i false = false ∧ (listed.setIfInBounds i true).getD (i + 1) false = false ∧ RX i sl sp W a0 (fun k => (listed.setIfInBounds i true).getD k false) a w ∧ ∀ k, (listed.setIfInBounds i true).getD k false = true → ∀ j ∈ depsX ops k, (listed.setIfInBounds i true).getD j false = true) ∨ ((∀ j, j ≤ i → (listed.setIfInBounds i true).getD j false = true) ∧ (listed.setIfInBounds i true).getD (i + 1) false = false ∧ wpList P ops Q [oM] a w) ∨ ((∀ j, j ≤ i + 1 → (listed.setIfInBounds i true).getD j false = true) ∧ Q .normal a w) := fun a w hq => .inr (.inl ⟨fun j hj => by
          by_cases e : j = i
          · subst e
            exact set_self his
          · rw [set_other e]
            exact hall j (by omega), by rw [set_other (by omega)]; exact hn1, hq⟩)
        unfold wpList at hf
        unfold wpOp
        rw [hL]
        simp only
        split
        · rename_i hw
          rw [if_pos hw] at hf
          exact hf.imp (Oper.wp_mono fun a w h => hQ a w h) (fun h => h)
        · rename_i hw
          rw [if_neg hw] at hf
          exact hQ _ _ hf
      · obtain ⟨o, ho⟩ : ∃ o, ops[i]? = some o := ⟨_, Array.getElem?_eq_getElem h1⟩
        obtain ⟨hd, hdo⟩ := step _ a w i o (by omega) hI ho (hdp ho)
        refine hdo.upon ho fun v w' hV hv => .inl ⟨?_, ?_, ?_, hcl⟩
        · rw [set_other (fun e => hiN e.symm)]
          exact hn
        · rw [set_other (fun e => hiM e.symm)]
          exact hn1
        · rw [hd]
          exact hI.put hsl hinj hV (by omega) hv fun j hj => getD_set hj
    · have hiM : i = N + 1 := by
        rcases Nat.lt_or_ge i (N + 1) with h | h
        · exact (hnot (hall i (by omega))).elim
        · omega
      subst hiM
      have hQ : ∀ a w, Q .normal a w → ((listed.setIfInBounds (N + 1) true).getD N false = false ∧ (listed.setIfInBounds (N + 1) true).getD (N + 1) false = false ∧ RX N sl sp W a0 (fun k => (listed.setIfInBounds (N + 1) true).getD k false) a w ∧ ∀ k, (listed.setIfInBounds (N + 1) true).getD k false = true → ∀ j ∈ depsX ops k, (listed.setIfInBounds (N + 1) true).getD j false = true) ∨ ((∀ j, j ≤ N → (listed.setIfInBounds (N + 1) true).getD j false = true) ∧ (listed.setIfInBounds (N + 1) true).getD (N + 1) false = false ∧ wpList P ops Q [oM] a w) ∨ ((∀ j, j ≤ N + 1 → (listed.setIfInBounds (N + 1) true).getD j false = true) ∧ Q .normal a w) := fun a w hq => .inr (.inr ⟨fun j hj => by
        by_cases e : j = N + 1
        · subst e
          exact set_self his
        · rw [set_other e]
          exact hall j (by omega), hq⟩)
      unfold wpList at hq
      unfold wpOp
      rw [hM]
      simp only
      split
      · rename_i hw
        rw [if_pos hw] at hq
        exact hq.imp (Oper.wp_mono fun a w h => hQ a w h) (fun h => h)
      · rename_i hw
        rw [if_neg hw] at hq
        exact hQ _ _ hq
    · exact (hnot (hall i (by omega))).elim
  · have hr2 := allB_listed hs (fun i o ho e he hbd => backsB_spec hb ho he hbd) hr
    rcases hI with ⟨hn, _⟩ | ⟨_, hn, _⟩ | ⟨_, hq⟩
    · have := hr2 N (by omega)
      rw [hn] at this
      cases this
    · have := hr2 (N + 1) (by omega)
      rw [hn] at this
      cases this
    · exact hq
  · cases h : (Array.replicate ops.size false).getD N false with
    | false => rfl
    | true => exact (getD_none h).elim
  · cases h : (Array.replicate ops.size false).getD (N + 1) false with
    | false => rfl
    | true => exact (getD_none h).elim
end
end Go.Proofs.Ytepbppckhfiplaa.RgX
