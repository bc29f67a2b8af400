/-
  A region that draws its order, whose last two operations are a store and an assignment; some that read no memory may come behind the store. No function of the program.
-/
import Derived.Test.YtepbppckhfiplaaRgY
namespace Go.Proofs.Ytepbppckhfiplaa.RgX
open Go Go.RowKit Go.Proofs Go.Proofs.Ytepbppckhfiplaa

def coverF (ops : Array Oper) (N : Nat) (F : List Nat) : Bool := (List.range N).all fun j => F.contains j || (coverX ops N (depsX ops N)).contains j
def Agree (F : List Nat) (sl : Nat → Nat) (a a1 : Act) : Prop := ∀ j, (∀ i ∈ F, sl i ≠ j) → a.tmps[j]? = a1.tmps[j]?
section
variable {P : Program} {id : Nat} {ops : Array Oper} {Q : Exit → Act → World → Prop} {a0 : Act} {W : World}
theorem tailF (N : Nat) (sl : Nat → Nat) (sp : Nat → Sp) (F : List Nat) (vF : Nat → Value) (oL oM : Oper) (G : Act → World → Prop) (hm : P.follows .mixedOrders = true) (hN : ops.size = N + 2) (hL : ops[N]? = some oL) (hM : ops[N + 1]? = some oM) (hb : backsB ops = true) (ht : coverF ops N F = true) (htM : tailX ops (N + 1) = true) (hFN : ∀ i ∈ F, i < N)
    (hsl : ∀ i, i < N → sl i < a0.tmps.size) (hinj : ∀ i j, i < N → j < N → sl i = sl j → i = j)
    (step : ∀ (L : Nat → Bool) (a : Act) (w : World) (i : Nat) (o : Oper), i < N → RX N sl sp W a0 L a w → ops[i]? = some o → (∀ e ∈ o.after, Region.binds .any e = true → L e.on = true) → o.dst = some (sl i) ∧ Does P ops (sp i) a w o)
    (sto : ∀ (a : Act) (w : World), a.tmps.size = a0.tmps.size → (∀ j, (∀ i, i < N → sl i ≠ j) → a.tmps[j]? = a0.tmps[j]?) → Below W.heap.size W w → (∀ i j s, i < N → i ∉ F → sl i = j → sp i = s → ∃ y, a.tmps[j]? = some y ∧ s.p w y) → oL.dst = none ∧ Region.wanted oL (yielded ops a.tmps) = true ∧ ∃ w', (execOp a.eval oL).run P w = .ok .skip w' ∧ G a w')
    (flo : ∀ (i : Nat) (o : Oper) (a a1 : Act) (w : World), i ∈ F → ops[i]? = some o → G a1 w → Agree F sl a a1 → o.dst = some (sl i) ∧ Region.wanted o (yielded ops a.tmps) = true ∧ (execOp a.eval o).run P w = .ok (.value (vF i)) w)
    (hF : ∀ i ∈ F, ∀ w y, (sp i).p w y → y = vF i)
    (fin : ∀ (a a1 : Act) (w : World), a.tmps.size = a0.tmps.size → a.defers = a0.defers → (∀ j, (∀ i, i < N → sl i ≠ j) → a.tmps[j]? = a0.tmps[j]?) → G a1 w → Agree F sl a a1 → (∀ i ∈ F, a.tmps[sl i]? = some (vF i)) → (∀ i j, i < N → sl i = j → ∃ z, a.tmps[j]? = some z) → wpList P ops Q [oM] a w) : (Code.region id ops true).wp P Q a0 W := by
  have cov : ∀ {L : Nat → Bool}, (∀ i, L i = true → ∀ j ∈ depsX ops i, L j = true) → (∀ j ∈ depsX ops N, L j = true) → ∀ j, j < N → j ∉ F → L j = true := fun hc hd j hj h2 => by
    have h3 := coverX_listed hc N (depsX ops N) hd
    unfold coverF at ht
    rw [List.all_eq_true] at ht
    have := ht j (List.mem_range.2 hj)
    simp only [Bool.or_eq_true, List.contains_eq_mem, decide_eq_true_eq] at this
    rcases this with h | h
    · exact absurd h h2
    · exact h3 j h
  have covM : ∀ {L : Nat → Bool}, (∀ i, L i = true → ∀ j ∈ depsX ops i, L j = true) → (∀ j ∈ depsX ops (N + 1), L j = true) → ∀ j, j < N + 1 → L j = true := fun hc hd j hj => by
    have h3 := coverX_listed hc (N + 1) (depsX ops (N + 1)) hd
    unfold tailX at htM
    rw [List.all_eq_true] at htM
    exact h3 j (by simpa using htM j (List.mem_range.2 hj))
  refine wp_region_any hm ?_
  refine wpAny_inv (fun listed a w => (listed.getD N false = false ∧ listed.getD (N + 1) false = false ∧ RX N sl sp W a0 (fun i => listed.getD i false) a w ∧ ∀ i, listed.getD i false = true → ∀ j ∈ depsX ops i, listed.getD j false = true)
      ∨ ((∀ j, j ≤ N → j ∉ F → listed.getD j false = true) ∧ listed.getD (N + 1) false = false ∧ (∀ i, listed.getD i false = true → ∀ j ∈ depsX ops i, listed.getD j false = true) ∧ a.tmps.size = a0.tmps.size ∧ a.defers = a0.defers ∧ (∀ j, (∀ i, i < N → sl i ≠ j) → a.tmps[j]? = a0.tmps[j]?) ∧ (∃ a1, G a1 w ∧ Agree F sl a a1) ∧ (∀ i ∈ F, listed.getD i false = true → a.tmps[sl i]? = some (vF i)) ∧ (∀ i, i < N → listed.getD i false = true → ∃ z, a.tmps[sl i]? = some z))
      ∨ ((∀ j, j ≤ N + 1 → listed.getD j false = true) ∧ Q .normal a w)) (fun listed a w i hs hI hi => ?_) (fun listed a w hs hr hI => ?_) _ _ _ _ (by simp) (by simp) (.inl ⟨?_, ?_, ⟨rfl, rfl, fun _ _ => rfl, (Below.refl _ W).drew, fun i hi hl => (getD_none hl).elim⟩, fun i hl => (getD_none hl).elim⟩)
  · obtain ⟨h1, h2, _⟩ := ready_spec hi
    have hdp := fun {o} (ho : ops[i]? = some o) => ready_deps hi ho
    have his : i < listed.size := by omega
    have hnot : listed.getD i false = true → False := fun h => by
      rw [Array.getD_eq_getD_getElem?] at h h2
      cases h3 : listed[i]? with
      | none => rw [h3] at h; simp at h
      | some b => rw [h3] at h h2; simp at h h2; rw [h] at h2; cases h2
    have hdeps : ∀ j ∈ depsX ops i, listed.getD j false = true := fun j hj => by
      obtain ⟨o, ho⟩ : ∃ o, ops[i]? = some o := ⟨_, Array.getElem?_eq_getElem h1⟩
      obtain ⟨e, he, hbd, rfl⟩ := deps_of ho hj
      exact hdp ho e he hbd
    rcases hI with ⟨hn, hn1, hI, hc⟩ | ⟨hall, hn1, hc, hsz, hdf, hlow, ⟨a1, hG, hag⟩, hfl, hex⟩ | ⟨hall, _⟩
    · have hcl : ∀ k, (listed.setIfInBounds i true).getD k false = true → ∀ j ∈ depsX ops k, (listed.setIfInBounds i true).getD j false = true := fun k hk j hj => by
        rcases getD_set hk with rfl | hk
        · exact set_keep (hdeps j hj)
        · exact set_keep (hc k hk j hj)
      by_cases hiM : i = N + 1
      · exfalso
        subst hiM
        have := covM (L := fun j => listed.getD j false) hc hdeps N (by omega)
        simp only [hn] at this
        cases this
      by_cases hiN : i = N
      · subst hiN
        have hcv := cov (L := fun j => listed.getD j false) hc hdeps
        obtain ⟨hd, hw, w', hr, hg⟩ := sto a w hI.size hI.low hI.held fun k j s hk hnF hj hs2 => by subst hj; subst hs2; exact hI.ok k hk (hcv k hk hnF)
        unfold wpOp
        rw [hL]
        simp only
        rw [if_pos hw]
        refine .inl ?_
        unfold Oper.wp
        rw [hr]
        show _ ∨ _ ∨ _
        rw [hd]
        refine .inr (.inl ⟨fun j hj hjF => ?_, by rw [set_other (by omega)]; exact hn1, hcl, hI.size, hI.defers, hI.low, ⟨a, hg, fun _ _ => rfl⟩, fun k hk hl => ?_, fun k hk hl => ?_⟩)
        · by_cases e : j = i
          · subst e; exact set_self his
          · exact set_keep (hcv j (by omega) hjF)
        · have hkN := hFN k hk
          rw [set_other (by omega)] at hl
          obtain ⟨y, h5, h6⟩ := hI.ok k hkN hl
          show a.tmps[sl k]? = _
          rw [h5, hF k hk _ _ h6]
        · rw [set_other (by omega)] at hl
          obtain ⟨y, h5, _⟩ := hI.ok k hk hl
          exact ⟨y, h5⟩
      · obtain ⟨o, ho⟩ : ∃ o, ops[i]? = some o := ⟨_, Array.getElem?_eq_getElem h1⟩
        obtain ⟨hd, hdo⟩ := step _ a w i o (by omega) hI ho (hdp ho)
        refine hdo.upon ho fun v w' hV hv => .inl ⟨?_, ?_, ?_, hcl⟩
        · rw [set_other (fun e => hiN e.symm)]; exact hn
        · rw [set_other (fun e => hiM e.symm)]; exact hn1
        · rw [hd]
          exact hI.put hsl hinj hV (by omega) hv fun j hj => getD_set hj
    · have hcl : ∀ k, (listed.setIfInBounds i true).getD k false = true → ∀ j ∈ depsX ops k, (listed.setIfInBounds i true).getD j false = true := fun k hk j hj => by
        rcases getD_set hk with rfl | hk
        · exact set_keep (hdeps j hj)
        · exact set_keep (hc k hk j hj)
      by_cases hiM : i = N + 1
      · subst hiM
        have hal := covM (L := fun j => listed.getD j false) hc hdeps
        have hf := fin a a1 w hsz hdf hlow hG hag (fun k hk => hfl k hk (hal k (by have := hFN k hk; omega))) (fun k j hk hj => by subst hj; exact hex k hk (hal k (by omega)))
        have hQ : ∀ a w, Q .normal a w → (∀ j, j ≤ N + 1 → (listed.setIfInBounds (N + 1) true).getD j false = true) ∧ Q .normal a w := fun a w hq => ⟨fun j hj => by
          by_cases e : j = N + 1
          · subst e; exact set_self his
          · exact set_keep (hal j (by omega)), hq⟩
        unfold wpList at hf
        unfold wpOp
        rw [hM]
        simp only
        split
        · rename_i hw
          rw [if_pos hw] at hf
          exact hf.imp (Oper.wp_mono fun a w h => .inr (.inr (hQ a w h))) (fun h => h)
        · rename_i hw
          rw [if_neg hw] at hf
          exact .inr (.inr (hQ _ _ hf))
      · have hiF : i ∈ F := by
          refine Classical.byContradiction fun h => ?_
          exact hnot (hall i (by omega) h)
        obtain ⟨o, ho⟩ : ∃ o, ops[i]? = some o := ⟨_, Array.getElem?_eq_getElem h1⟩
        obtain ⟨hd, hw, hr⟩ := flo i o a a1 w hiF ho hG hag
        have hiN := hFN i hiF
        have hput : ∀ k, k < N → k ≠ i → (a.put (some (sl i)) (vF i)).tmps[sl k]? = a.tmps[sl k]? := fun k hk hne => by
          simp only [Act.put]
          rw [Array.getElem?_setIfInBounds_ne (fun e => hne (hinj k i hk hiN e.symm))]
        have hself : (a.put (some (sl i)) (vF i)).tmps[sl i]? = some (vF i) := by
          simp only [Act.put]
          rw [Array.getElem?_setIfInBounds_self, if_pos (by rw [hsz]; exact hsl i hiN)]
        unfold wpOp
        rw [ho]
        simp only
        rw [if_pos hw]
        refine .inl ?_
        unfold Oper.wp
        rw [hr]
        show _ ∨ _ ∨ _
        rw [hd]
        refine .inr (.inl ⟨fun j hj hjF => set_keep (hall j hj hjF), by rw [set_other (fun e => hiM e.symm)]; exact hn1, hcl, by simp [Act.put, hsz], hdf, fun j hj => ?_, ⟨a1, hG, fun j hj => ?_⟩, fun k hk hl => ?_, fun k hk hl => ?_⟩)
        · rw [← hlow j hj]
          simp only [Act.put]
          rw [Array.getElem?_setIfInBounds_ne (hj i hiN)]
        · rw [← hag j hj]
          simp only [Act.put]
          rw [Array.getElem?_setIfInBounds_ne (hj i hiF)]
        · by_cases e : k = i
          · subst e; exact hself
          · rw [hput k (hFN k hk) e]
            rw [set_other e] at hl
            exact hfl k hk hl
        · by_cases e : k = i
          · subst e; exact ⟨_, hself⟩
          · rw [hput k hk e]
            rw [set_other e] at hl
            exact hex k hk hl
    · exact (hnot (hall i (by omega))).elim
  · have hr2 := allB_listed hs (fun i o ho e he hbd => backsB_spec hb ho he hbd) hr
    rcases hI with ⟨hn, _⟩ | ⟨_, hn, _⟩ | ⟨_, hq⟩
    · have := hr2 N (by omega)
      rw [hn] at this
      cases this
    · have := hr2 (N + 1) (by omega)
      rw [hn] at this
      cases this
    · exact hq
  · cases h : (Array.replicate ops.size false).getD N false with
    | false => rfl
    | true => exact (getD_none h).elim
  · cases h : (Array.replicate ops.size false).getD (N + 1) false with
    | false => rfl
    | true => exact (getD_none h).elim
end
end Go.Proofs.Ytepbppckhfiplaa.RgX
