/-
  A region that draws its order in which one operation may turn memory that was there (an append onto a field's own row) and the last operation stores its result: all others come before the one, but for some that read no memory. No function of the program.
  A region that draws its order, whose last two operations (a store and what follows it) wait for all others. No function of the program.
  A region that draws its order, whose last two operations are a store and an assignment; some that read no memory may come behind the store. No function of the program.
  A region that draws its order, whose last operations (from N on) each wait for all before them. No function of the program.
-/
import Derived.Test.YtlomhoohmcnniaaDoorK8

namespace Go.Proofs.YtlomhoohmcnniaaDoor.RgX
open Go Go.RowKit Go.Proofs Go.Proofs.YtlomhoohmcnniaaDoor

def cover2 (ops : Array Oper) (N iA : Nat) (F : List Nat) : Bool := (List.range N).all fun j => j == iA || F.contains j || (coverX ops iA (depsX ops iA)).contains j
theorem set_self {A : Array Bool} {i : Nat} (h : i < A.size) : (A.setIfInBounds i true).getD i false = true := by
  rw [Array.getD_eq_getD_getElem?, Array.getElem?_setIfInBounds_self, if_pos h]
  rfl
theorem set_other {A : Array Bool} {i j : Nat} (h : j ≠ i) : (A.setIfInBounds i true).getD j false = A.getD j false := by
  rw [Array.getD_eq_getD_getElem?, Array.getElem?_setIfInBounds_ne (fun e2 => h e2.symm), ← Array.getD_eq_getD_getElem?]
theorem set_keep {A : Array Bool} {i j : Nat} (h : A.getD j false = true) : (A.setIfInBounds i true).getD j false = true := by
  by_cases e : j = i
  · subst e
    refine set_self ?_
    rcases Nat.lt_or_ge j A.size with h2 | h2
    · exact h2
    · rw [Array.getD_eq_getD_getElem?, Array.getElem?_eq_none h2] at h
      cases h
  · rw [set_other e]
    exact h
section
variable {P : Program} {id : Nat} {ops : Array Oper} {Q : Exit → Act → World → Prop} {a0 : Act} {W : World}
theorem tail2 (N iA : Nat) (sl : Nat → Nat) (sp : Nat → Sp) (F : List Nat) (vF : Nat → Value) (oA oL : Oper) (G : Value → World → Prop) (hm : P.follows .mixedOrders = true) (hN : ops.size = N + 1) (hA : ops[iA]? = some oA) (hiA : iA < N) (hL : ops[N]? = some oL) (hb : backsV ops = true) (ht : tailX ops N = true) (hc2 : cover2 ops N iA F = true) (hFN : ∀ i ∈ F, i < N ∧ i ≠ iA)
    (hsl : ∀ i, i < N → sl i < a0.tmps.size) (hinj : ∀ i j, i < N → j < N → sl i = sl j → i = j)
    (step : ∀ (L : Nat → Bool) (a : Act) (w : World) (i : Nat) (o : Oper), i < N → i ≠ iA → RX N sl sp W a0 L a w → ops[i]? = some o → (∀ e ∈ o.after, Region.binds .any e = true → L e.on = true) → o.dst = some (sl i) ∧ Does P ops (sp i) a w o)
    (app : ∀ (a : Act) (w : World), a.tmps.size = a0.tmps.size → (∀ j, (∀ i, i < N → sl i ≠ j) → a.tmps[j]? = a0.tmps[j]?) → Below W.heap.size W w → (∀ i j s, i < N → i ≠ iA → i ∉ F → sl i = j → sp i = s → ∃ y, a.tmps[j]? = some y ∧ s.p w y) → oA.dst = some (sl iA) ∧ Region.wanted oA (yielded ops a.tmps) = true ∧ ∃ v w', (execOp a.eval oA).run P w = .ok (.value v) w' ∧ G v w')
    (flo : ∀ (i : Nat) (o : Oper) (a : Act) (w : World), i ∈ F → ops[i]? = some o → (∀ j, (∀ i, i < N → sl i ≠ j) → a.tmps[j]? = a0.tmps[j]?) → o.dst = some (sl i) ∧ Region.wanted o (yielded ops a.tmps) = true ∧ (execOp a.eval o).run P w = .ok (.value (vF i)) w)
    (hF : ∀ i ∈ F, ∀ w y, (sp i).p w y → y = vF i)
    (fin : ∀ (a : Act) (w : World) (y : Value), a.tmps.size = a0.tmps.size → a.defers = a0.defers → (∀ j, (∀ i, i < N → sl i ≠ j) → a.tmps[j]? = a0.tmps[j]?) → a.tmps[sl iA]? = some y → G y w → (∀ i ∈ F, a.tmps[sl i]? = some (vF i)) → (∀ i j, i < N → sl i = j → ∃ z, a.tmps[j]? = some z) → wpList P ops Q [oL] a w) : (Code.region id ops true).wp P Q a0 W := by
  have cov : ∀ {L : Nat → Bool}, (∀ i, L i = true → ∀ j ∈ depsX ops i, L j = true) → (∀ j ∈ depsX ops iA, L j = true) → ∀ j, j < N → j ≠ iA → j ∉ F → L j = true := fun hc hd j hj h1 h2 => by
    have h3 := coverX_listed hc iA (depsX ops iA) hd
    unfold cover2 at hc2
    rw [List.all_eq_true] at hc2
    have := hc2 j (List.mem_range.2 hj)
    simp only [Bool.or_eq_true, beq_iff_eq, List.contains_eq_mem, decide_eq_true_eq] at this
    rcases this with (h | h) | h
    · exact absurd h h1
    · exact absurd h h2
    · exact h3 j h
  have covL : ∀ {L : Nat → Bool}, (∀ i, L i = true → ∀ j ∈ depsX ops i, L j = true) → (∀ j ∈ depsX ops N, L j = true) → ∀ j, j < N → L j = true := fun hc hd j hj => by
    have h3 := coverX_listed hc N (depsX ops N) hd
    unfold tailX at ht
    rw [List.all_eq_true] at ht
    exact h3 j (by simpa using ht j (List.mem_range.2 hj))
  refine wp_region_any hm ?_
  refine wpAny_inv (fun listed a w => (listed.getD iA false = false ∧ listed.getD N false = false ∧ RX N sl sp W a0 (fun i => listed.getD i false) a w ∧ ∀ i, listed.getD i false = true → ∀ j ∈ depsX ops i, listed.getD j false = true)
      ∨ (listed.getD N false = false ∧ (∀ i, listed.getD i false = true → ∀ j ∈ depsX ops i, listed.getD j false = true) ∧ (∀ j, j < N → j ∉ F → listed.getD j false = true) ∧ a.tmps.size = a0.tmps.size ∧ a.defers = a0.defers ∧ (∀ j, (∀ i, i < N → sl i ≠ j) → a.tmps[j]? = a0.tmps[j]?) ∧ (∃ y, a.tmps[sl iA]? = some y ∧ G y w) ∧ (∀ i ∈ F, listed.getD i false = true → a.tmps[sl i]? = some (vF i)) ∧ (∀ i, i < N → listed.getD i false = true → ∃ z, a.tmps[sl i]? = some z))
      ∨ ((∀ j, j ≤ N → listed.getD j false = true) ∧ Q .normal a w)) (fun listed a w i hs hI hi => ?_) (fun listed a w hs hr hI => ?_) _ _ _ _ (by simp) (by simp) (.inl ⟨?_, ?_, ⟨rfl, rfl, fun _ _ => rfl, (Below.refl _ W).drew, fun i hi hl => (getD_none hl).elim⟩, fun i hl => (getD_none hl).elim⟩)
  · obtain ⟨h1, h2, _⟩ := ready_spec hi
    have hdp := fun {o} (ho : ops[i]? = some o) => ready_deps hi ho
    have hnot : listed.getD i false = false := by
      rw [Array.getD_eq_getD_getElem?] at h2 ⊢
      cases h : listed[i]? with
      | none => rfl
      | some b => rw [h] at h2; exact h2
    have his : i < listed.size := by omega
    have hdeps : ∀ j ∈ depsX ops i, listed.getD j false = true := fun j hj => by
      obtain ⟨o, ho⟩ : ∃ o, ops[i]? = some o := ⟨_, Array.getElem?_eq_getElem h1⟩
      obtain ⟨e, he, hbd, rfl⟩ := deps_of ho hj
      exact hdp ho e he hbd
    rcases hI with ⟨hnA, hnN, hI, hc⟩ | ⟨hnN, hc, hall, hsz, hdf, hlow, ⟨y, hy, hG⟩, hfl, hex⟩ | ⟨hall, _⟩
    · have hcl : ∀ k, (listed.setIfInBounds i true).getD k false = true → ∀ j ∈ depsX ops k, (listed.setIfInBounds i true).getD j false = true := fun k hk j hj => by
        rcases getD_set hk with rfl | hk
        · exact set_keep (hdeps j hj)
        · exact set_keep (hc k hk j hj)
      by_cases hiN : i = N
      · subst hiN
        have := covL (L := fun j => listed.getD j false) hc hdeps iA hiA
        simp only [hnA] at this
        cases this
      · by_cases hi2 : i = iA
        · subst hi2
          have hcv := cov (L := fun j => listed.getD j false) hc hdeps
          obtain ⟨hd, hw, v, w', hr, hg⟩ := app a w hI.size hI.low hI.held fun k j s hk hne hnF hj hs2 => by subst hj; subst hs2; exact hI.ok k hk (hcv k hk hne hnF)
          unfold wpOp
          rw [hA]
          simp only
          rw [if_pos hw]
          refine .inl ?_
          unfold Oper.wp
          rw [hr]
          show _ ∨ _ ∨ _
          rw [hd]
          have hsz := hI.size
          have hput : ∀ k, k < N → k ≠ i → (a.put (some (sl i)) v).tmps[sl k]? = a.tmps[sl k]? := fun k hk hne => by
            simp only [Act.put]
            rw [Array.getElem?_setIfInBounds_ne (fun e => hne (hinj k i hk hiA e.symm))]
          refine .inr (.inl ⟨by rw [set_other (fun e => hiN e.symm)]; exact hnN, hcl, fun j hj hjF => ?_, by simp [Act.put, hsz], hI.defers, fun j hj => ?_, ⟨v, ?_, hg⟩, fun k hk hl => ?_, fun k hk hl => ?_⟩)
          · by_cases e : j = i
            · subst e; exact set_self his
            · exact set_keep (hcv j hj e hjF)
          · rw [← hI.low j hj]
            simp only [Act.put]
            rw [Array.getElem?_setIfInBounds_ne (hj i hiA)]
          · simp only [Act.put]
            rw [Array.getElem?_setIfInBounds_self, if_pos (by rw [hsz]; exact hsl i hiA)]
          · obtain ⟨hkN, hkA⟩ := hFN k hk
            rw [hput k hkN hkA]
            rw [set_other hkA] at hl
            obtain ⟨y, h5, h6⟩ := hI.ok k hkN hl
            rw [h5, hF k hk _ _ h6]
          · by_cases e : k = i
            · subst e
              exact ⟨v, by simp only [Act.put]; rw [Array.getElem?_setIfInBounds_self, if_pos (by rw [hsz]; exact hsl k hk)]⟩
            · rw [set_other e] at hl
              obtain ⟨y, h5, _⟩ := hI.ok k hk hl
              exact ⟨y, by rw [hput k hk e]; exact h5⟩
        · obtain ⟨o, ho⟩ : ∃ o, ops[i]? = some o := ⟨_, Array.getElem?_eq_getElem h1⟩
          obtain ⟨hd, hdo⟩ := step _ a w i o (by omega) hi2 hI ho (hdp ho)
          refine hdo.upon ho fun v w' hV hv => .inl ⟨?_, ?_, ?_, hcl⟩
          · rw [set_other (fun e => hi2 e.symm)]; exact hnA
          · rw [set_other (fun e => hiN e.symm)]; exact hnN
          · rw [hd]
            exact hI.put hsl hinj hV (by omega) hv fun j hj => getD_set hj
    · have hcl : ∀ k, (listed.setIfInBounds i true).getD k false = true → ∀ j ∈ depsX ops k, (listed.setIfInBounds i true).getD j false = true := fun k hk j hj => by
        rcases getD_set hk with rfl | hk
        · exact set_keep (hdeps j hj)
        · exact set_keep (hc k hk j hj)
      by_cases hiN : i = N
      · subst hiN
        have hal := covL (L := fun j => listed.getD j false) hc hdeps
        have hf := fin a w y hsz hdf hlow hy hG (fun k hk => hfl k hk (hal k (hFN k hk).1)) (fun k j hk hj => by subst hj; exact hex k hk (hal k hk))
        have hQ : ∀ a w, Q .normal a w → (∀ j, j ≤ i → (listed.setIfInBounds i true).getD j false = true) ∧ Q .normal a w := fun a w hq => ⟨fun j hj => by
          by_cases e : j = i
          · subst e; exact set_self his
          · exact set_keep (hal j (by omega)), hq⟩
        unfold wpList at hf
        unfold wpOp
        rw [hL]
        simp only
        split
        · rename_i hw
          rw [if_pos hw] at hf
          exact hf.imp (Oper.wp_mono fun a w h => .inr (.inr (hQ a w h))) (fun h => h)
        · rename_i hw
          rw [if_neg hw] at hf
          exact .inr (.inr (hQ _ _ hf))
      · have hiF : i ∈ F := by
          refine Classical.byContradiction fun h => ?_
          have := hall i (by omega) h
          rw [hnot] at this
          cases this
        obtain ⟨o, ho⟩ : ∃ o, ops[i]? = some o := ⟨_, Array.getElem?_eq_getElem h1⟩
        obtain ⟨hd, hw, hr⟩ := flo i o a w hiF ho hlow
        obtain ⟨hiN2, hiA2⟩ := hFN i hiF
        have hput : ∀ k, k < N → k ≠ i → (a.put (some (sl i)) (vF i)).tmps[sl k]? = a.tmps[sl k]? := fun k hk hne => by
          simp only [Act.put]
          rw [Array.getElem?_setIfInBounds_ne (fun e => hne (hinj k i hk hiN2 e.symm))]
        have hself : (a.put (some (sl i)) (vF i)).tmps[sl i]? = some (vF i) := by
          simp only [Act.put]
          rw [Array.getElem?_setIfInBounds_self, if_pos (by rw [hsz]; exact hsl i hiN2)]
        unfold wpOp
        rw [ho]
        simp only
        rw [if_pos hw]
        refine .inl ?_
        unfold Oper.wp
        rw [hr]
        show _ ∨ _ ∨ _
        rw [hd]
        refine .inr (.inl ⟨by rw [set_other (fun e => hiN e.symm)]; exact hnN, hcl, fun j hj hjF => set_keep (hall j hj hjF), by simp [Act.put, hsz], hdf, fun j hj => ?_, ⟨y, by rw [hput iA hiA (fun e => hiA2 e.symm)]; exact hy, hG⟩, fun k hk hl => ?_, fun k hk hl => ?_⟩)
        · rw [← hlow j hj]
          simp only [Act.put]
          rw [Array.getElem?_setIfInBounds_ne (hj i hiN2)]
        · by_cases e : k = i
          · subst e; exact hself
          · rw [hput k (hFN k hk).1 e]
            rw [set_other e] at hl
            exact hfl k hk hl
        · by_cases e : k = i
          · subst e; exact ⟨_, hself⟩
          · rw [hput k hk e]
            rw [set_other e] at hl
            exact hex k hk hl
    · rw [hall i (by omega)] at hnot
      cases hnot
  · have hal := all_listed hs (fun i o ho e he => backsV_spec hb ho he) hr
    rcases hI with ⟨_, hnN, _⟩ | ⟨hnN, _⟩ | ⟨_, hq⟩
    · rw [hal N (by omega)] at hnN
      cases hnN
    · rw [hal N (by omega)] at hnN
      cases hnN
    · exact hq
  · cases h : (Array.replicate ops.size false).getD iA false with
    | false => rfl
    | true => exact (getD_none h).elim
  · cases h : (Array.replicate ops.size false).getD N false with
    | false => rfl
    | true => exact (getD_none h).elim
end
end Go.Proofs.YtlomhoohmcnniaaDoor.RgX

namespace Go.Proofs.YtlomhoohmcnniaaDoor.RgX
open Go Go.RowKit Go.Proofs Go.Proofs.YtlomhoohmcnniaaDoor

def backsB (ops : Array Oper) : Bool := (List.range ops.size).all fun i => match ops[i]? with
  | some o => o.after.all fun e => !Region.binds .any e || decide (e.on < i)
  | none => true
theorem backsB_spec {ops : Array Oper} (h : backsB ops = true) {i : Nat} {o : Oper} (ho : ops[i]? = some o) {e : Edge} (he : e ∈ o.after) (hb : Region.binds .any e = true) : e.on < i := by
  unfold backsB at h
  rw [List.all_eq_true] at h
  have hi : i < ops.size := (Array.getElem?_eq_some_iff.1 ho).1
  have := h i (List.mem_range.2 hi)
  rw [ho] at this
  simp only at this
  rw [Array.all_eq_true_iff_forall_mem] at this
  have := this e he
  rw [hb] at this
  simpa using this
theorem allB_listed {ops : Array Oper} {listed : Array Bool} (hs : listed.size = ops.size) (hb : ∀ (i : Nat) (o : Oper), ops[i]? = some o → ∀ e ∈ o.after, Region.binds .any e = true → e.on < i) (hr : Region.ready .any ops listed = []) : ∀ i, i < ops.size → listed.getD i false = true := by
  intro i
  induction i using Nat.strongRecOn with
  | ind i ih =>
    intro hi
    rcases Bool.eq_false_or_eq_true (listed.getD i false) with h | h
    · exact h
    · exfalso
      have hm : i ∈ Region.ready .any ops listed := by
        unfold Region.ready
        rw [List.mem_filter, List.mem_range, Bool.and_eq_true, Bool.not_eq_true']
        have hl : i < listed.size := by omega
        refine ⟨hi, ?_, ?_⟩
        · simp only [Array.getD, hl, dif_pos] at h ⊢
          exact h
        · rw [Array.getElem?_eq_getElem hi]
          simp only [Option.map_some, Option.getD_some]
          rw [Array.all_eq_true_iff_forall_mem]
          intro e he
          cases hbd : Region.binds .any e with
          | false => simp
          | true =>
            have hlt := hb i _ (Array.getElem?_eq_getElem hi) e he hbd
            rw [ih e.on hlt (by omega)]
            simp
      rw [hr] at hm
      cases hm
section
variable {P : Program} {id : Nat} {ops : Array Oper} {Q : Exit → Act → World → Prop} {a0 : Act} {W : World}
/-- A region that draws its order, where only the edges that bind point back. -/
theorem regionB (N : Nat) (sl : Nat → Nat) (sp : Nat → Sp) (hm : P.follows .mixedOrders = true) (hN : ops.size = N) (hb : backsB ops = true)
    (hsl : ∀ i, i < N → sl i < a0.tmps.size) (hinj : ∀ i j, i < N → j < N → sl i = sl j → i = j)
    (step : ∀ (L : Nat → Bool) (a : Act) (w : World) (i : Nat) (o : Oper), RX N sl sp W a0 L a w → ops[i]? = some o → (∀ e ∈ o.after, Region.binds .any e = true → L e.on = true) → o.dst = some (sl i) ∧ Does P ops (sp i) a w o)
    (fin : ∀ (a : Act) (w : World), a.tmps.size = a0.tmps.size → a.defers = a0.defers → (∀ j, (∀ i, i < N → sl i ≠ j) → a.tmps[j]? = a0.tmps[j]?) → Below W.heap.size W w → (∀ i j s, i < N → sl i = j → sp i = s → ∃ y, a.tmps[j]? = some y ∧ s.p w y) → Q .normal a w) : (Code.region id ops true).wp P Q a0 W := by
  refine wp_region_any hm ?_
  refine wpAny_inv (fun listed => RX N sl sp W a0 (fun i => listed.getD i false)) (fun listed a w i hs hI hi => ?_) (fun listed a w hs hr hI => ?_) _ _ _ _ (by simp) (by simp) ⟨rfl, rfl, fun _ _ => rfl, (Below.refl _ W).drew, fun i hi hl => (getD_none hl).elim⟩
  · obtain ⟨h1, _, h3⟩ := ready_spec hi
    obtain ⟨o, ho⟩ : ∃ o, ops[i]? = some o := ⟨_, Array.getElem?_eq_getElem h1⟩
    obtain ⟨hd, hdo⟩ := step _ a w i o hI ho (ready_deps hi ho)
    refine hdo.upon ho fun v w' hV hv => ?_
    rw [hd]
    exact hI.put hsl hinj hV (by omega) hv fun j hj => getD_set hj
  · exact fin a w hI.size hI.defers hI.low hI.held fun i j s hi hj hs2 => by subst hj; subst hs2; exact hI.ok i hi (allB_listed hs (fun i o ho e he hbd => backsB_spec hb ho he hbd) hr i (by omega))
theorem tailS (N : Nat) (sl : Nat → Nat) (sp : Nat → Sp) (oL oM : Oper) (hm : P.follows .mixedOrders = true) (hN : ops.size = N + 2) (hL : ops[N]? = some oL) (hM : ops[N + 1]? = some oM) (hb : backsB ops = true) (ht : tailX ops N = true) (ht2 : (depsX ops (N + 1)).contains N = true)
    (hsl : ∀ i, i < N → sl i < a0.tmps.size) (hinj : ∀ i j, i < N → j < N → sl i = sl j → i = j)
    (step : ∀ (L : Nat → Bool) (a : Act) (w : World) (i : Nat) (o : Oper), i < N → RX N sl sp W a0 L a w → ops[i]? = some o → (∀ e ∈ o.after, Region.binds .any e = true → L e.on = true) → o.dst = some (sl i) ∧ Does P ops (sp i) a w o)
    (fin : ∀ (a : Act) (w : World), a.tmps.size = a0.tmps.size → a.defers = a0.defers → (∀ j, (∀ i, i < N → sl i ≠ j) → a.tmps[j]? = a0.tmps[j]?) → Below W.heap.size W w → (∀ i j s, i < N → sl i = j → sp i = s → ∃ y, a.tmps[j]? = some y ∧ s.p w y) → wpList P ops Q [oL, oM] a w) : (Code.region id ops true).wp P Q a0 W := by
  refine wp_region_any hm ?_
  refine wpAny_inv (fun listed a w => (listed.getD N false = false ∧ listed.getD (N + 1) false = false ∧ RX N sl sp W a0 (fun i => listed.getD i false) a w ∧ ∀ i, listed.getD i false = true → ∀ j ∈ depsX ops i, listed.getD j false = true) ∨ ((∀ j, j ≤ N → listed.getD j false = true) ∧ listed.getD (N + 1) false = false ∧ wpList P ops Q [oM] a w) ∨ ((∀ j, j ≤ N + 1 → listed.getD j false = true) ∧ Q .normal a w)) (fun listed a w i hs hI hi => ?_) (fun listed a w hs hr hI => ?_) _ _ _ _ (by simp) (by simp) (.inl ⟨?_, ?_, ⟨rfl, rfl, fun _ _ => rfl, (Below.refl _ W).drew, fun i hi hl => (getD_none hl).elim⟩, fun i hl => (getD_none hl).elim⟩)
  · obtain ⟨h1, h2, _⟩ := ready_spec hi
    have hdp := fun {o} (ho : ops[i]? = some o) => ready_deps hi ho
    have his : i < listed.size := by omega
    have hnot : listed.getD i false = true → False := fun h => by
      rw [Array.getD_eq_getD_getElem?] at h h2
      cases h3 : listed[i]? with
      | none => rw [h3] at h; simp at h
      | some b => rw [h3] at h h2; simp at h h2; rw [h] at h2; cases h2
    rcases hI with ⟨hn, hn1, hI, hc⟩ | ⟨hall, hn1, hq⟩ | ⟨hall, _⟩
    · have hcl : ∀ k, (listed.setIfInBounds i true).getD k false = true → ∀ j ∈ depsX ops k, (listed.setIfInBounds i true).getD j false = true := by
        intro k hk j hj
        rcases getD_set hk with rfl | hk
        · obtain ⟨o, ho⟩ : ∃ o, ops[k]? = some o := ⟨_, Array.getElem?_eq_getElem h1⟩
          obtain ⟨e, he, hbd, rfl⟩ := deps_of ho hj
          exact set_keep (hdp ho e he hbd)
        · exact set_keep (hc k hk j hj)
      by_cases hiM : i = N + 1
      · exfalso
        subst hiM
        obtain ⟨e, he, hbd, e2⟩ := deps_of hM (by simpa using ht2)
        have := hdp hM e he hbd
        rw [e2, hn] at this
        cases this
      by_cases hiN : i = N
      · subst hiN
        have hall : ∀ j, j < i → listed.getD j false = true := by
          intro j hj
          have h3 := coverX_listed (L := fun j => listed.getD j false) hc i (depsX ops i) (fun j hj => by
            obtain ⟨e, he, hbd, rfl⟩ := deps_of hL hj
            exact hdp hL e he hbd)
          unfold tailX at ht
          rw [List.all_eq_true] at ht
          exact h3 j (by simpa using ht j (List.mem_range.2 hj))
        have hf := fin a w hI.size hI.defers hI.low hI.held fun k j s hk hj hs2 => by subst hj; subst hs2; exact hI.ok k hk (hall k hk)
        have hQ : ∀ a w, wpList P ops Q [oM] a w → ((listed.setIfInBounds i true).getD i false = false ∧ (listed.setIfInBounds i true).getD (i + 1) false = false ∧ RX i sl sp W a0 (fun k => (listed.setIfInBounds i true).getD k false) a w ∧ ∀ k, (listed.setIfInBounds i true).getD k false = true → ∀ j ∈ depsX ops k, (listed.setIfInBounds i true).getD j false = true) ∨ ((∀ j, j ≤ i → (listed.setIfInBounds i true).getD j false = true) ∧ (listed.setIfInBounds i true).getD (i + 1) false = false ∧ wpList P ops Q [oM] a w) ∨ ((∀ j, j ≤ i + 1 → (listed.setIfInBounds i true).getD j false = true) ∧ Q .normal a w) := fun a w hq => .inr (.inl ⟨fun j hj => by
          by_cases e : j = i
          · subst e
            exact set_self his
          · rw [set_other e]
            exact hall j (by omega), by rw [set_other (by omega)]; exact hn1, hq⟩)
        unfold wpList at hf
        unfold wpOp
        rw [hL]
        simp only
        split
        · rename_i hw
          rw [if_pos hw] at hf
          exact hf.imp (Oper.wp_mono fun a w h => hQ a w h) (fun h => h)
        · rename_i hw
          rw [if_neg hw] at hf
          exact hQ _ _ hf
      · obtain ⟨o, ho⟩ : ∃ o, ops[i]? = some o := ⟨_, Array.getElem?_eq_getElem h1⟩
        obtain ⟨hd, hdo⟩ := step _ a w i o (by omega) hI ho (hdp ho)
        refine hdo.upon ho fun v w' hV hv => .inl ⟨?_, ?_, ?_, hcl⟩
        · rw [set_other (fun e => hiN e.symm)]
          exact hn
        · rw [set_other (fun e => hiM e.symm)]
          exact hn1
        · rw [hd]
          exact hI.put hsl hinj hV (by omega) hv fun j hj => getD_set hj
    · have hiM : i = N + 1 := by
        rcases Nat.lt_or_ge i (N + 1) with h | h
        · exact (hnot (hall i (by omega))).elim
        · omega
      subst hiM
      have hQ : ∀ a w, Q .normal a w → ((listed.setIfInBounds (N + 1) true).getD N false = false ∧ (listed.setIfInBounds (N + 1) true).getD (N + 1) false = false ∧ RX N sl sp W a0 (fun k => (listed.setIfInBounds (N + 1) true).getD k false) a w ∧ ∀ k, (listed.setIfInBounds (N + 1) true).getD k false = true → ∀ j ∈ depsX ops k, (listed.setIfInBounds (N + 1) true).getD j false = true) ∨ ((∀ j, j ≤ N → (listed.setIfInBounds (N + 1) true).getD j false = true) ∧ (listed.setIfInBounds (N + 1) true).getD (N + 1) false = false ∧ wpList P ops Q [oM] a w) ∨ ((∀ j, j ≤ N + 1 → (listed.setIfInBounds (N + 1) true).getD j false = true) ∧ Q .normal a w) := fun a w hq => .inr (.inr ⟨fun j hj => by
        by_cases e : j = N + 1
        · subst e
          exact set_self his
        · rw [set_other e]
          exact hall j (by omega), hq⟩)
      unfold wpList at hq
      unfold wpOp
      rw [hM]
      simp only
      split
      · rename_i hw
        rw [if_pos hw] at hq
        exact hq.imp (Oper.wp_mono fun a w h => hQ a w h) (fun h => h)
      · rename_i hw
        rw [if_neg hw] at hq
        exact hQ _ _ hq
    · exact (hnot (hall i (by omega))).elim
  · have hr2 := allB_listed hs (fun i o ho e he hbd => backsB_spec hb ho he hbd) hr
    rcases hI with ⟨hn, _⟩ | ⟨_, hn, _⟩ | ⟨_, hq⟩
    · have := hr2 N (by omega)
      rw [hn] at this
      cases this
    · have := hr2 (N + 1) (by omega)
      rw [hn] at this
      cases this
    · exact hq
  · cases h : (Array.replicate ops.size false).getD N false with
    | false => rfl
    | true => exact (getD_none h).elim
  · cases h : (Array.replicate ops.size false).getD (N + 1) false with
    | false => rfl
    | true => exact (getD_none h).elim
end
end Go.Proofs.YtlomhoohmcnniaaDoor.RgX

namespace Go.Proofs.YtlomhoohmcnniaaDoor.RgX
open Go Go.RowKit Go.Proofs Go.Proofs.YtlomhoohmcnniaaDoor

def coverF (ops : Array Oper) (N : Nat) (F : List Nat) : Bool := (List.range N).all fun j => F.contains j || (coverX ops N (depsX ops N)).contains j
def Agree (F : List Nat) (sl : Nat → Nat) (a a1 : Act) : Prop := ∀ j, (∀ i ∈ F, sl i ≠ j) → a.tmps[j]? = a1.tmps[j]?
section
variable {P : Program} {id : Nat} {ops : Array Oper} {Q : Exit → Act → World → Prop} {a0 : Act} {W : World}
theorem tailF (N : Nat) (sl : Nat → Nat) (sp : Nat → Sp) (F : List Nat) (vF : Nat → Value) (oL oM : Oper) (G : Act → World → Prop) (hm : P.follows .mixedOrders = true) (hN : ops.size = N + 2) (hL : ops[N]? = some oL) (hM : ops[N + 1]? = some oM) (hb : backsB ops = true) (ht : coverF ops N F = true) (htM : tailX ops (N + 1) = true) (hFN : ∀ i ∈ F, i < N)
    (hsl : ∀ i, i < N → sl i < a0.tmps.size) (hinj : ∀ i j, i < N → j < N → sl i = sl j → i = j)
    (step : ∀ (L : Nat → Bool) (a : Act) (w : World) (i : Nat) (o : Oper), i < N → RX N sl sp W a0 L a w → ops[i]? = some o → (∀ e ∈ o.after, Region.binds .any e = true → L e.on = true) → o.dst = some (sl i) ∧ Does P ops (sp i) a w o)
    (sto : ∀ (a : Act) (w : World), a.tmps.size = a0.tmps.size → (∀ j, (∀ i, i < N → sl i ≠ j) → a.tmps[j]? = a0.tmps[j]?) → Below W.heap.size W w → (∀ i j s, i < N → i ∉ F → sl i = j → sp i = s → ∃ y, a.tmps[j]? = some y ∧ s.p w y) → oL.dst = none ∧ Region.wanted oL (yielded ops a.tmps) = true ∧ ∃ w', (execOp a.eval oL).run P w = .ok .skip w' ∧ G a w')
    (flo : ∀ (i : Nat) (o : Oper) (a a1 : Act) (w : World), i ∈ F → ops[i]? = some o → G a1 w → Agree F sl a a1 → o.dst = some (sl i) ∧ Region.wanted o (yielded ops a.tmps) = true ∧ (execOp a.eval o).run P w = .ok (.value (vF i)) w)
    (hF : ∀ i ∈ F, ∀ w y, (sp i).p w y → y = vF i)
    (fin : ∀ (a a1 : Act) (w : World), a.tmps.size = a0.tmps.size → a.defers = a0.defers → (∀ j, (∀ i, i < N → sl i ≠ j) → a.tmps[j]? = a0.tmps[j]?) → G a1 w → Agree F sl a a1 → (∀ i ∈ F, a.tmps[sl i]? = some (vF i)) → (∀ i j, i < N → sl i = j → ∃ z, a.tmps[j]? = some z) → wpList P ops Q [oM] a w) : (Code.region id ops true).wp P Q a0 W := by
  have cov : ∀ {L : Nat → Bool}, (∀ i, L i = true → ∀ j ∈ depsX ops i, L j = true) → (∀ j ∈ depsX ops N, L j = true) → ∀ j, j < N → j ∉ F → L j = true := fun hc hd j hj h2 => by
    have h3 := coverX_listed hc N (depsX ops N) hd
    unfold coverF at ht
    rw [List.all_eq_true] at ht
    have := ht j (List.mem_range.2 hj)
    simp only [Bool.or_eq_true, List.contains_eq_mem, decide_eq_true_eq] at this
    rcases this with h | h
    · exact absurd h h2
    · exact h3 j h
  have covM : ∀ {L : Nat → Bool}, (∀ i, L i = true → ∀ j ∈ depsX ops i, L j = true) → (∀ j ∈ depsX ops (N + 1), L j = true) → ∀ j, j < N + 1 → L j = true := fun hc hd j hj => by
    have h3 := coverX_listed hc (N + 1) (depsX ops (N + 1)) hd
    unfold tailX at htM
    rw [List.all_eq_true] at htM
    exact h3 j (by simpa using htM j (List.mem_range.2 hj))
  refine wp_region_any hm ?_
  refine wpAny_inv (fun listed a w => (listed.getD N false = false ∧ listed.getD (N + 1) false = false ∧ RX N sl sp W a0 (fun i => listed.getD i false) a w ∧ ∀ i, listed.getD i false = true → ∀ j ∈ depsX ops i, listed.getD j false = true)
      ∨ ((∀ j, j ≤ N → j ∉ F → listed.getD j false = true) ∧ listed.getD (N + 1) false = false ∧ (∀ i, listed.getD i false = true → ∀ j ∈ depsX ops i, listed.getD j false = true) ∧ a.tmps.size = a0.tmps.size ∧ a.defers = a0.defers ∧ (∀ j, (∀ i, i < N → sl i ≠ j) → a.tmps[j]? = a0.tmps[j]?) ∧ (∃ a1, G a1 w ∧ Agree F sl a a1) ∧ (∀ i ∈ F, listed.getD i false = true → a.tmps[sl i]? = some (vF i)) ∧ (∀ i, i < N → listed.getD i false = true → ∃ z, a.tmps[sl i]? = some z))
      ∨ ((∀ j, j ≤ N + 1 → listed.getD j false = true) ∧ Q .normal a w)) (fun listed a w i hs hI hi => ?_) (fun listed a w hs hr hI => ?_) _ _ _ _ (by simp) (by simp) (.inl ⟨?_, ?_, ⟨rfl, rfl, fun _ _ => rfl, (Below.refl _ W).drew, fun i hi hl => (getD_none hl).elim⟩, fun i hl => (getD_none hl).elim⟩)
  · obtain ⟨h1, h2, _⟩ := ready_spec hi
    have hdp := fun {o} (ho : ops[i]? = some o) => ready_deps hi ho
    have his : i < listed.size := by omega
    have hnot : listed.getD i false = true → False := fun h => by
      rw [Array.getD_eq_getD_getElem?] at h h2
      cases h3 : listed[i]? with
      | none => rw [h3] at h; simp at h
      | some b => rw [h3] at h h2; simp at h h2; rw [h] at h2; cases h2
    have hdeps : ∀ j ∈ depsX ops i, listed.getD j false = true := fun j hj => by
      obtain ⟨o, ho⟩ : ∃ o, ops[i]? = some o := ⟨_, Array.getElem?_eq_getElem h1⟩
      obtain ⟨e, he, hbd, rfl⟩ := deps_of ho hj
      exact hdp ho e he hbd
    rcases hI with ⟨hn, hn1, hI, hc⟩ | ⟨hall, hn1, hc, hsz, hdf, hlow, ⟨a1, hG, hag⟩, hfl, hex⟩ | ⟨hall, _⟩
    · have hcl : ∀ k, (listed.setIfInBounds i true).getD k false = true → ∀ j ∈ depsX ops k, (listed.setIfInBounds i true).getD j false = true := fun k hk j hj => by
        rcases getD_set hk with rfl | hk
        · exact set_keep (hdeps j hj)
        · exact set_keep (hc k hk j hj)
      by_cases hiM : i = N + 1
      · exfalso
        subst hiM
        have := covM (L := fun j => listed.getD j false) hc hdeps N (by omega)
        simp only [hn] at this
        cases this
      by_cases hiN : i = N
      · subst hiN
        have hcv := cov (L := fun j => listed.getD j false) hc hdeps
        obtain ⟨hd, hw, w', hr, hg⟩ := sto a w hI.size hI.low hI.held fun k j s hk hnF hj hs2 => by subst hj; subst hs2; exact hI.ok k hk (hcv k hk hnF)
        unfold wpOp
        rw [hL]
        simp only
        rw [if_pos hw]
        refine .inl ?_
        unfold Oper.wp
        rw [hr]
        show _ ∨ _ ∨ _
        rw [hd]
        refine .inr (.inl ⟨fun j hj hjF => ?_, by rw [set_other (by omega)]; exact hn1, hcl, hI.size, hI.defers, hI.low, ⟨a, hg, fun _ _ => rfl⟩, fun k hk hl => ?_, fun k hk hl => ?_⟩)
        · by_cases e : j = i
          · subst e; exact set_self his
          · exact set_keep (hcv j (by omega) hjF)
        · have hkN := hFN k hk
          rw [set_other (by omega)] at hl
          obtain ⟨y, h5, h6⟩ := hI.ok k hkN hl
          show a.tmps[sl k]? = _
          rw [h5, hF k hk _ _ h6]
        · rw [set_other (by omega)] at hl
          obtain ⟨y, h5, _⟩ := hI.ok k hk hl
          exact ⟨y, h5⟩
      · obtain ⟨o, ho⟩ : ∃ o, ops[i]? = some o := ⟨_, Array.getElem?_eq_getElem h1⟩
        obtain ⟨hd, hdo⟩ := step _ a w i o (by omega) hI ho (hdp ho)
        refine hdo.upon ho fun v w' hV hv => .inl ⟨?_, ?_, ?_, hcl⟩
        · rw [set_other (fun e => hiN e.symm)]; exact hn
        · rw [set_other (fun e => hiM e.symm)]; exact hn1
        · rw [hd]
          exact hI.put hsl hinj hV (by omega) hv fun j hj => getD_set hj
    · have hcl : ∀ k, (listed.setIfInBounds i true).getD k false = true → ∀ j ∈ depsX ops k, (listed.setIfInBounds i true).getD j false = true := fun k hk j hj => by
        rcases getD_set hk with rfl | hk
        · exact set_keep (hdeps j hj)
        · exact set_keep (hc k hk j hj)
      by_cases hiM : i = N + 1
      · subst hiM
        have hal := covM (L := fun j => listed.getD j false) hc hdeps
        have hf := fin a a1 w hsz hdf hlow hG hag (fun k hk => hfl k hk (hal k (by have := hFN k hk; omega))) (fun k j hk hj => by subst hj; exact hex k hk (hal k (by omega)))
        have hQ : ∀ a w, Q .normal a w → (∀ j, j ≤ N + 1 → (listed.setIfInBounds (N + 1) true).getD j false = true) ∧ Q .normal a w := fun a w hq => ⟨fun j hj => by
          by_cases e : j = N + 1
          · subst e; exact set_self his
          · exact set_keep (hal j (by omega)), hq⟩
        unfold wpList at hf
        unfold wpOp
        rw [hM]
        simp only
        split
        · rename_i hw
          rw [if_pos hw] at hf
          exact hf.imp (Oper.wp_mono fun a w h => .inr (.inr (hQ a w h))) (fun h => h)
        · rename_i hw
          rw [if_neg hw] at hf
          exact .inr (.inr (hQ _ _ hf))
      · have hiF : i ∈ F := by
          refine Classical.byContradiction fun h => ?_
          exact hnot (hall i (by omega) h)
        obtain ⟨o, ho⟩ : ∃ o, ops[i]? = some o := ⟨_, Array.getElem?_eq_getElem h1⟩
        obtain ⟨hd, hw, hr⟩ := flo i o a a1 w hiF ho hG hag
        have hiN := hFN i hiF
        have hput : ∀ k, k < N → k ≠ i → (a.put (some (sl i)) (vF i)).tmps[sl k]? = a.tmps[sl k]? := fun k hk hne => by
          simp only [Act.put]
          rw [Array.getElem?_setIfInBounds_ne (fun e => hne (hinj k i hk hiN e.symm))]
        have hself : (a.put (some (sl i)) (vF i)).tmps[sl i]? = some (vF i) := by
          simp only [Act.put]
          rw [Array.getElem?_setIfInBounds_self, if_pos (by rw [hsz]; exact hsl i hiN)]
        unfold wpOp
        rw [ho]
        simp only
        rw [if_pos hw]
        refine .inl ?_
        unfold Oper.wp
        rw [hr]
        show _ ∨ _ ∨ _
        rw [hd]
        refine .inr (.inl ⟨fun j hj hjF => set_keep (hall j hj hjF), by rw [set_other (fun e => hiM e.symm)]; exact hn1, hcl, by simp [Act.put, hsz], hdf, fun j hj => ?_, ⟨a1, hG, fun j hj => ?_⟩, fun k hk hl => ?_, fun k hk hl => ?_⟩)
        · rw [← hlow j hj]
          simp only [Act.put]
          rw [Array.getElem?_setIfInBounds_ne (hj i hiN)]
        · rw [← hag j hj]
          simp only [Act.put]
          rw [Array.getElem?_setIfInBounds_ne (hj i hiF)]
        · by_cases e : k = i
          · subst e; exact hself
          · rw [hput k (hFN k hk) e]
            rw [set_other e] at hl
            exact hfl k hk hl
        · by_cases e : k = i
          · subst e; exact ⟨_, hself⟩
          · rw [hput k hk e]
            rw [set_other e] at hl
            exact hex k hk hl
    · exact (hnot (hall i (by omega))).elim
  · have hr2 := allB_listed hs (fun i o ho e he hbd => backsB_spec hb ho he hbd) hr
    rcases hI with ⟨hn, _⟩ | ⟨_, hn, _⟩ | ⟨_, hq⟩
    · have := hr2 N (by omega)
      rw [hn] at this
      cases this
    · have := hr2 (N + 1) (by omega)
      rw [hn] at this
      cases this
    · exact hq
  · cases h : (Array.replicate ops.size false).getD N false with
    | false => rfl
    | true => exact (getD_none h).elim
  · cases h : (Array.replicate ops.size false).getD (N + 1) false with
    | false => rfl
    | true => exact (getD_none h).elim
end
end Go.Proofs.YtlomhoohmcnniaaDoor.RgX

namespace Go.Proofs.YtlomhoohmcnniaaDoor.RgX
open Go Go.RowKit Go.Proofs Go.Proofs.YtlomhoohmcnniaaDoor

def tailsX (ops : Array Oper) (N : Nat) : Bool := (List.range ops.size).all fun k => decide (k < N) || tailX ops k
section
variable {P : Program} {id : Nat} {ops : Array Oper} {Q : Exit → Act → World → Prop} {a0 : Act} {W : World}
theorem getD_set_ne {L : Array Bool} {i j : Nat} (h : j ≠ i) : (L.setIfInBounds i true).getD j false = L.getD j false := by
  rw [Array.getD_eq_getD_getElem?, Array.getElem?_setIfInBounds_ne (fun e2 => h e2.symm), ← Array.getD_eq_getD_getElem?]
theorem getD_set_self {L : Array Bool} {i : Nat} (h : i < L.size) : (L.setIfInBounds i true).getD i false = true := by
  rw [Array.getD_eq_getD_getElem?, Array.getElem?_setIfInBounds_self, if_pos h]
  rfl
theorem tailK (N M : Nat) (sl : Nat → Nat) (sp : Nat → Sp) (hm : P.follows .mixedOrders = true) (hN : ops.size = M) (hNM : N < M) (hb : backsV ops = true) (ht : tailsX ops N = true)
    (hsl : ∀ i, i < N → sl i < a0.tmps.size) (hinj : ∀ i j, i < N → j < N → sl i = sl j → i = j)
    (step : ∀ (L : Nat → Bool) (a : Act) (w : World) (i : Nat) (o : Oper), i < N → RX N sl sp W a0 L a w → ops[i]? = some o → (∀ e ∈ o.after, Region.binds .any e = true → L e.on = true) → o.dst = some (sl i) ∧ Does P ops (sp i) a w o)
    (fin : ∀ (a : Act) (w : World), a.tmps.size = a0.tmps.size → a.defers = a0.defers → (∀ j, (∀ i, i < N → sl i ≠ j) → a.tmps[j]? = a0.tmps[j]?) → Below W.heap.size W w → (∀ i j s, i < N → sl i = j → sp i = s → ∃ y, a.tmps[j]? = some y ∧ s.p w y) → wpList P ops Q (ops.toList.drop N) a w) : (Code.region id ops true).wp P Q a0 W := by
  have ht1 : ∀ i, N ≤ i → i < ops.size → ∀ {L : Nat → Bool}, (∀ k, L k = true → ∀ j ∈ depsX ops k, L j = true) → (∀ j ∈ depsX ops i, L j = true) → ∀ j, j < i → L j = true := by
    intro i h1 h2 L hc hd j hj
    have h3 := coverX_listed (L := L) hc i (depsX ops i) hd
    unfold tailsX at ht
    rw [List.all_eq_true] at ht
    have h4 := ht i (List.mem_range.2 h2)
    rw [decide_eq_false (by omega), Bool.false_or] at h4
    unfold tailX at h4
    rw [List.all_eq_true] at h4
    exact h3 j (by simpa using h4 j (List.mem_range.2 hj))
  refine wp_region_any hm ?_
  refine wpAny_inv (fun listed a w => (∀ i, listed.getD i false = true → ∀ j ∈ depsX ops i, listed.getD j false = true) ∧ (((∀ j, N ≤ j → listed.getD j false = false) ∧ RX N sl sp W a0 (fun i => listed.getD i false) a w) ∨ ∃ k, N < k ∧ k ≤ M ∧ (∀ j, j < k → listed.getD j false = true) ∧ (∀ j, k ≤ j → listed.getD j false = false) ∧ wpList P ops Q (ops.toList.drop k) a w)) (fun listed a w i hs hI hi => ?_) (fun listed a w hs hr hI => ?_) _ _ _ _ (by simp) (by simp) ⟨fun i hi => (getD_none hi).elim, .inl ⟨fun j _ => ?_, ⟨rfl, rfl, fun _ _ => rfl, (Below.refl _ W).drew, fun i hi hl => (getD_none hl).elim⟩⟩⟩
  · obtain ⟨h1, h2, _⟩ := ready_spec hi
    have hdp := fun {o} (ho : ops[i]? = some o) => ready_deps hi ho
    have h2' : listed.getD i false = false := by
      cases h : listed.getD i false with
      | false => rfl
      | true =>
        rw [Array.getD_eq_getD_getElem?] at h h2
        cases h3 : listed[i]? with
        | none => rw [h3] at h; cases h
        | some b => rw [h3] at h h2; simp at h2 h; rw [h] at h2; cases h2
    obtain ⟨hc, hI⟩ := hI
    have hdd : ∀ j ∈ depsX ops i, listed.getD j false = true := fun j hj => by
      obtain ⟨o, ho⟩ : ∃ o, ops[i]? = some o := ⟨_, Array.getElem?_eq_getElem h1⟩
      obtain ⟨e, he, hbd, rfl⟩ := deps_of ho hj
      exact hdp ho e he hbd
    have hcl : ∀ k, (listed.setIfInBounds i true).getD k false = true → ∀ j ∈ depsX ops k, (listed.setIfInBounds i true).getD j false = true := by
      intro k hk j hj
      have hput : ∀ {j}, listed.getD j false = true → (listed.setIfInBounds i true).getD j false = true := fun {j} h => by
        by_cases e : j = i
        · subst e
          exact getD_set_self (by omega)
        · rw [getD_set_ne e]
          exact h
      rcases getD_set hk with rfl | hk
      · exact hput (hdd j hj)
      · exact hput (hc k hk j hj)
    -- an operation of the tail runs
    have run : ∀ k, k = i → k < M → (∀ j, j < k → listed.getD j false = true) → (∀ j, k ≤ j → listed.getD j false = false) → N ≤ k → wpList P ops Q (ops.toList.drop k) a w → wpOp P ops Q i (fun a w => ((∀ i_1, (listed.setIfInBounds i true).getD i_1 false = true → ∀ j ∈ depsX ops i_1, (listed.setIfInBounds i true).getD j false = true) ∧ (((∀ j, N ≤ j → (listed.setIfInBounds i true).getD j false = false) ∧ RX N sl sp W a0 (fun i_1 => (listed.setIfInBounds i true).getD i_1 false) a w) ∨ ∃ k, N < k ∧ k ≤ M ∧ (∀ j, j < k → (listed.setIfInBounds i true).getD j false = true) ∧ (∀ j, k ≤ j → (listed.setIfInBounds i true).getD j false = false) ∧ wpList P ops Q (ops.toList.drop k) a w))) a w := by
      rintro k rfl hkM hlo hhi hNk hf
      obtain ⟨o, ho⟩ : ∃ o, ops[k]? = some o := ⟨_, Array.getElem?_eq_getElem h1⟩
      have hdrop : ops.toList.drop k = o :: ops.toList.drop (k + 1) := by
        rw [List.drop_eq_getElem_cons (by simpa using h1)]
        congr 1
        have := Array.getElem?_eq_some_iff.1 ho
        obtain ⟨_, h⟩ := this
        simpa using h
      rw [hdrop] at hf
      have hQ : ∀ a w, wpList P ops Q (ops.toList.drop (k + 1)) a w → ((∀ i_1, (listed.setIfInBounds k true).getD i_1 false = true → ∀ j ∈ depsX ops i_1, (listed.setIfInBounds k true).getD j false = true) ∧ (((∀ j, N ≤ j → (listed.setIfInBounds k true).getD j false = false) ∧ RX N sl sp W a0 (fun i_1 => (listed.setIfInBounds k true).getD i_1 false) a w) ∨ ∃ k_1, N < k_1 ∧ k_1 ≤ M ∧ (∀ j, j < k_1 → (listed.setIfInBounds k true).getD j false = true) ∧ (∀ j, k_1 ≤ j → (listed.setIfInBounds k true).getD j false = false) ∧ wpList P ops Q (ops.toList.drop k_1) a w)) := fun a w hq => ⟨hcl, .inr ⟨k + 1, by omega, by omega, fun j hj => by
          by_cases e : j = k
          · subst e
            exact getD_set_self (by omega)
          · rw [getD_set_ne e]
            exact hlo j (by omega), fun j hj => by
          rw [getD_set_ne (by omega)]
          exact hhi j (by omega), hq⟩⟩
      unfold wpList at hf
      unfold wpOp
      rw [ho]
      simp only
      split
      · rename_i hw
        rw [if_pos hw] at hf
        exact hf.imp (Oper.wp_mono fun a w h => hQ a w h) (fun h => h)
      · rename_i hw
        rw [if_neg hw] at hf
        exact hQ _ _ hf
    rcases hI with ⟨hn, hI⟩ | ⟨k, hk1, hk2, hlo, hhi, hf⟩
    · by_cases hiN : i < N
      · obtain ⟨o, ho⟩ : ∃ o, ops[i]? = some o := ⟨_, Array.getElem?_eq_getElem h1⟩
        obtain ⟨hd, hdo⟩ := step _ a w i o hiN hI ho (hdp ho)
        refine hdo.upon ho fun v w' hV hv => ⟨hcl, .inl ⟨fun j hj => ?_, ?_⟩⟩
        · rw [getD_set_ne (by omega)]
          exact hn j hj
        · rw [hd]
          exact hI.put hsl hinj hV hiN hv fun j hj => getD_set hj
      · have hall := ht1 i (by omega) h1 hc hdd
        obtain rfl : N = i := by
          rcases Nat.lt_or_ge N i with h | h
          · have := hall N h
            rw [hn N (Nat.le_refl _)] at this
            cases this
          · omega
        exact run N rfl hNM hall hn (Nat.le_refl _) (fin a w hI.size hI.defers hI.low hI.held fun k j s hk hj hs2 => by subst hj; subst hs2; exact hI.ok k hk (hall k hk))
    · have hik : k ≤ i := by
        rcases Nat.lt_or_ge i k with h | h
        · rw [hlo i h] at h2'
          cases h2'
        · exact h
      have hall := ht1 i (by omega) h1 hc hdd
      obtain rfl : k = i := by
        rcases Nat.lt_or_ge k i with h | h
        · have := hall k h
          rw [hhi k (Nat.le_refl _)] at this
          cases this
        · omega
      exact run k rfl (by omega) hlo hhi (by omega) hf
  · have hal := fun i (hi : i < ops.size) => all_listed hs (fun i o ho e he => backsV_spec hb ho he) hr i hi
    rcases hI.2 with ⟨hn, _⟩ | ⟨k, hk1, hk2, hlo, hhi, hf⟩
    · have := hal N (by omega)
      rw [hn N (Nat.le_refl _)] at this
      cases this
    · obtain rfl : k = M := by
        rcases Nat.lt_or_ge k M with h | h
        · have := hal k (by omega)
          rw [hhi k (Nat.le_refl _)] at this
          cases this
        · omega
      rw [List.drop_of_length_le (by simp; omega)] at hf
      exact hf
  · cases h : (Array.replicate ops.size false).getD j false with
    | false => rfl
    | true => exact (getD_none h).elim
end
end Go.Proofs.YtlomhoohmcnniaaDoor.RgX
