/-
  A region that draws its order: a store in its midst, ahead of which all runs but some 'floats' that read no memory; behind it a chain of operations, each of which waits for all before it. No function of the program.
-/
import Derived.Test.YtlomhoohmcnniaaDoorK30

namespace Go.Proofs.YtlomhoohmcnniaaDoor.RgX
open Go Go.RowKit Go.Proofs Go.Proofs.YtlomhoohmcnniaaDoor

section
variable {P : Program} {id : Nat} {ops : Array Oper} {Q : Exit → Act → World → Prop} {a0 : Act} {W : World}
theorem tailFK (N M : Nat) (sl : Nat → Nat) (sp : Nat → Sp) (F : List Nat) (vF : Nat → Value) (oL : Oper) (G : Act → World → Prop) (hm : P.follows .mixedOrders = true) (hN : ops.size = M) (hNM : N + 1 < M) (hL : ops[N]? = some oL) (hb : backsB ops = true) (ht : coverF ops N F = true) (htM : tailsX ops (N + 1) = true) (hFN : ∀ i ∈ F, i < N)
    (hsl : ∀ i, i < N → sl i < a0.tmps.size) (hinj : ∀ i j, i < N → j < N → sl i = sl j → i = j)
    (step : ∀ (L : Nat → Bool) (a : Act) (w : World) (i : Nat) (o : Oper), i < N → RX N sl sp W a0 L a w → ops[i]? = some o → (∀ e ∈ o.after, Region.binds .any e = true → L e.on = true) → o.dst = some (sl i) ∧ Does P ops (sp i) a w o)
    (sto : ∀ (a : Act) (w : World), a.tmps.size = a0.tmps.size → (∀ j, (∀ i, i < N → sl i ≠ j) → a.tmps[j]? = a0.tmps[j]?) → Below W.heap.size W w → (∀ i j s, i < N → i ∉ F → sl i = j → sp i = s → ∃ y, a.tmps[j]? = some y ∧ s.p w y) → oL.dst = none ∧ Region.wanted oL (yielded ops a.tmps) = true ∧ ∃ w', (execOp a.eval oL).run P w = .ok .skip w' ∧ G a w')
    (flo : ∀ (i : Nat) (o : Oper) (a a1 : Act) (w : World), i ∈ F → ops[i]? = some o → G a1 w → Agree F sl a a1 → (∀ k ∈ F, k ∈ depsX ops i → a.tmps[sl k]? = some (vF k)) → o.dst = some (sl i) ∧ Region.wanted o (yielded ops a.tmps) = true ∧ (execOp a.eval o).run P w = .ok (.value (vF i)) w)
    (hF : ∀ i ∈ F, ∀ w y, (sp i).p w y → y = vF i)
    (fin : ∀ (a a1 : Act) (w : World), a.tmps.size = a0.tmps.size → a.defers = a0.defers → (∀ j, (∀ i, i < N → sl i ≠ j) → a.tmps[j]? = a0.tmps[j]?) → G a1 w → Agree F sl a a1 → (∀ i ∈ F, a.tmps[sl i]? = some (vF i)) → (∀ i j, i < N → sl i = j → ∃ z, a.tmps[j]? = some z) → wpList P ops Q (ops.toList.drop (N + 1)) a w) : (Code.region id ops true).wp P Q a0 W := by
  have cov : ∀ {L : Nat → Bool}, (∀ i, L i = true → ∀ j ∈ depsX ops i, L j = true) → (∀ j ∈ depsX ops N, L j = true) → ∀ j, j < N → j ∉ F → L j = true := fun hc hd j hj h2 => by
    have h3 := coverX_listed hc N (depsX ops N) hd
    unfold coverF at ht
    rw [List.all_eq_true] at ht
    have := ht j (List.mem_range.2 hj)
    simp only [Bool.or_eq_true, List.contains_eq_mem, decide_eq_true_eq] at this
    rcases this with h | h
    · exact absurd h h2
    · exact h3 j h
  have covM : ∀ i, N + 1 ≤ i → i < ops.size → ∀ {L : Nat → Bool}, (∀ k, L k = true → ∀ j ∈ depsX ops k, L j = true) → (∀ j ∈ depsX ops i, L j = true) → ∀ j, j < i → L j = true := by
    intro i h1 h2 L hc hd j hj
    have h3 := coverX_listed (L := L) hc i (depsX ops i) hd
    unfold tailsX at htM
    rw [List.all_eq_true] at htM
    have h4 := htM i (List.mem_range.2 h2)
    rw [decide_eq_false (by omega), Bool.false_or] at h4
    unfold tailX at h4
    rw [List.all_eq_true] at h4
    exact h3 j (by simpa using h4 j (List.mem_range.2 hj))
  refine wp_region_any hm ?_
  refine wpAny_inv (fun listed a w => (listed.getD N false = false ∧ (∀ j, N + 1 ≤ j → listed.getD j false = false) ∧ RX N sl sp W a0 (fun i => listed.getD i false) a w ∧ ∀ i, listed.getD i false = true → ∀ j ∈ depsX ops i, listed.getD j false = true)
      ∨ ((∀ j, j ≤ N → j ∉ F → listed.getD j false = true) ∧ (∀ j, N + 1 ≤ j → listed.getD j false = false) ∧ (∀ i, listed.getD i false = true → ∀ j ∈ depsX ops i, listed.getD j false = true) ∧ a.tmps.size = a0.tmps.size ∧ a.defers = a0.defers ∧ (∀ j, (∀ i, i < N → sl i ≠ j) → a.tmps[j]? = a0.tmps[j]?) ∧ (∃ a1, G a1 w ∧ Agree F sl a a1) ∧ (∀ i ∈ F, listed.getD i false = true → a.tmps[sl i]? = some (vF i)) ∧ (∀ i, i < N → listed.getD i false = true → ∃ z, a.tmps[sl i]? = some z))
      ∨ (∃ k, N + 1 < k ∧ k ≤ M ∧ (∀ j, j < k → listed.getD j false = true) ∧ (∀ j, k ≤ j → listed.getD j false = false) ∧ (∀ i, listed.getD i false = true → ∀ j ∈ depsX ops i, listed.getD j false = true) ∧ wpList P ops Q (ops.toList.drop k) a w)) (fun listed a w i hs hI hi => ?_) (fun listed a w hs hr hI => ?_) _ _ _ _ (by simp) (by simp) (.inl ⟨?_, ?_, ⟨rfl, rfl, fun _ _ => rfl, (Below.refl _ W).drew, fun i hi hl => (getD_none hl).elim⟩, fun i hl => (getD_none hl).elim⟩)
  · obtain ⟨h1, h2, _⟩ := ready_spec hi
    have hdp := fun {o} (ho : ops[i]? = some o) => ready_deps hi ho
    have his : i < listed.size := by omega
    have hnot : listed.getD i false = true → False := fun h => by
      rw [Array.getD_eq_getD_getElem?] at h h2
      cases h3 : listed[i]? with
      | none => rw [h3] at h; simp at h
      | some b => rw [h3] at h h2; simp at h h2; rw [h] at h2; cases h2
    have hdeps : ∀ j ∈ depsX ops i, listed.getD j false = true := fun j hj => by
      obtain ⟨o, ho⟩ : ∃ o, ops[i]? = some o := ⟨_, Array.getElem?_eq_getElem h1⟩
      obtain ⟨e, he, hbd, rfl⟩ := deps_of ho hj
      exact hdp ho e he hbd
    have run : ∀ (a : Act) (w : World) (kk : Nat), kk = i → kk < M → (∀ j, j < kk → listed.getD j false = true) → (∀ j, kk ≤ j → listed.getD j false = false) → N + 1 ≤ kk → (∀ k, (listed.setIfInBounds kk true).getD k false = true → ∀ j ∈ depsX ops k, (listed.setIfInBounds kk true).getD j false = true) → wpList P ops Q (ops.toList.drop kk) a w → wpOp P ops Q kk (fun a w => ((listed.setIfInBounds kk true).getD N false = false ∧ (∀ j, N + 1 ≤ j → (listed.setIfInBounds kk true).getD j false = false) ∧ RX N sl sp W a0 (fun i => (listed.setIfInBounds kk true).getD i false) a w ∧ ∀ i, (listed.setIfInBounds kk true).getD i false = true → ∀ j ∈ depsX ops i, (listed.setIfInBounds kk true).getD j false = true) ∨ ((∀ j, j ≤ N → j ∉ F → (listed.setIfInBounds kk true).getD j false = true) ∧ (∀ j, N + 1 ≤ j → (listed.setIfInBounds kk true).getD j false = false) ∧ (∀ i, (listed.setIfInBounds kk true).getD i false = true → ∀ j ∈ depsX ops i, (listed.setIfInBounds kk true).getD j false = true) ∧ a.tmps.size = a0.tmps.size ∧ a.defers = a0.defers ∧ (∀ j, (∀ i, i < N → sl i ≠ j) → a.tmps[j]? = a0.tmps[j]?) ∧ (∃ a1, G a1 w ∧ Agree F sl a a1) ∧ (∀ i ∈ F, (listed.setIfInBounds kk true).getD i false = true → a.tmps[sl i]? = some (vF i)) ∧ (∀ i, i < N → (listed.setIfInBounds kk true).getD i false = true → ∃ z, a.tmps[sl i]? = some z)) ∨ (∃ k, N + 1 < k ∧ k ≤ M ∧ (∀ j, j < k → (listed.setIfInBounds kk true).getD j false = true) ∧ (∀ j, k ≤ j → (listed.setIfInBounds kk true).getD j false = false) ∧ (∀ i, (listed.setIfInBounds kk true).getD i false = true → ∀ j ∈ depsX ops i, (listed.setIfInBounds kk true).getD j false = true) ∧ wpList P ops Q (ops.toList.drop k) a w)) a w := by
      rintro a w k rfl hkM hlo hhi hNk hcl hf
      obtain ⟨o, ho⟩ : ∃ o, ops[k]? = some o := ⟨_, Array.getElem?_eq_getElem h1⟩
      have hdrop : ops.toList.drop k = o :: ops.toList.drop (k + 1) := by
        rw [List.drop_eq_getElem_cons (by simpa using h1)]
        congr 1
        have := Array.getElem?_eq_some_iff.1 ho
        obtain ⟨_, h⟩ := this
        simpa using h
      rw [hdrop] at hf
      have hnx : ∀ j, j < k + 1 → (listed.setIfInBounds k true).getD j false = true := fun j hj => by
        by_cases e : j = k
        · subst e; exact set_self his
        · exact set_keep (hlo j (by omega))
      have hny : ∀ j, k + 1 ≤ j → (listed.setIfInBounds k true).getD j false = false := fun j hj => by
        rw [set_other (by omega)]
        exact hhi j (by omega)
      unfold wpList at hf
      unfold wpOp
      rw [ho]
      simp only
      split
      · rename_i hw
        rw [if_pos hw] at hf
        exact hf.imp (Oper.wp_mono fun a w h => .inr (.inr ⟨k + 1, by omega, by omega, hnx, hny, hcl, h⟩)) (fun h => h)
      · rename_i hw
        rw [if_neg hw] at hf
        exact .inr (.inr ⟨k + 1, by omega, by omega, hnx, hny, hcl, hf⟩)
    rcases hI with ⟨hn, hn1, hI, hc⟩ | ⟨hall, hn1, hc, hsz, hdf, hlow, ⟨a1, hG, hag⟩, hfl, hex⟩ | ⟨k, hk1, hk2, hlo, hhi, hc, hf⟩
    · have hcl : ∀ k, (listed.setIfInBounds i true).getD k false = true → ∀ j ∈ depsX ops k, (listed.setIfInBounds i true).getD j false = true := fun k hk j hj => by
        rcases getD_set hk with rfl | hk
        · exact set_keep (hdeps j hj)
        · exact set_keep (hc k hk j hj)
      by_cases hiM : N + 1 ≤ i
      · exfalso
        have := covM i hiM h1 (L := fun j => listed.getD j false) hc hdeps N (by omega)
        simp only [hn] at this
        cases this
      by_cases hiN : i = N
      · subst hiN
        have hcv := cov (L := fun j => listed.getD j false) hc hdeps
        obtain ⟨hd, hw, w', hr, hg⟩ := sto a w hI.size hI.low hI.held fun k j s hk hnF hj hs2 => by subst hj; subst hs2; exact hI.ok k hk (hcv k hk hnF)
        unfold wpOp
        rw [hL]
        simp only
        rw [if_pos hw]
        refine .inl ?_
        unfold Oper.wp
        rw [hr]
        show _ ∨ _ ∨ _
        rw [hd]
        refine .inr (.inl ⟨fun j hj hjF => ?_, fun j hj => by rw [set_other (by omega)]; exact hn1 j hj, hcl, hI.size, hI.defers, hI.low, ⟨a, hg, fun _ _ => rfl⟩, fun k hk hl => ?_, fun k hk hl => ?_⟩)
        · by_cases e : j = i
          · subst e; exact set_self his
          · exact set_keep (hcv j (by omega) hjF)
        · have hkN := hFN k hk
          rw [set_other (by omega)] at hl
          obtain ⟨y, h5, h6⟩ := hI.ok k hkN hl
          show a.tmps[sl k]? = _
          rw [h5, hF k hk _ _ h6]
        · rw [set_other (by omega)] at hl
          obtain ⟨y, h5, _⟩ := hI.ok k hk hl
          exact ⟨y, h5⟩
      · obtain ⟨o, ho⟩ : ∃ o, ops[i]? = some o := ⟨_, Array.getElem?_eq_getElem h1⟩
        obtain ⟨hd, hdo⟩ := step _ a w i o (by omega) hI ho (hdp ho)
        refine hdo.upon ho fun v w' hV hv => .inl ⟨?_, ?_, ?_, hcl⟩
        · rw [set_other (fun e => hiN e.symm)]; exact hn
        · intro j hj; rw [set_other (by omega)]; exact hn1 j hj
        · rw [hd]
          exact hI.put hsl hinj hV (by omega) hv fun j hj => getD_set hj
    · have hcl : ∀ k, (listed.setIfInBounds i true).getD k false = true → ∀ j ∈ depsX ops k, (listed.setIfInBounds i true).getD j false = true := fun k hk j hj => by
        rcases getD_set hk with rfl | hk
        · exact set_keep (hdeps j hj)
        · exact set_keep (hc k hk j hj)
      by_cases hiM : N + 1 ≤ i
      · have hal := covM i hiM h1 (L := fun j => listed.getD j false) hc hdeps
        obtain rfl : i = N + 1 := by
          rcases Nat.lt_or_ge (N + 1) i with h | h
          · have := hal (N + 1) h
            simp only [hn1 (N + 1) (Nat.le_refl _)] at this
            cases this
          · omega
        have hf := fin a a1 w hsz hdf hlow hG hag (fun k hk => hfl k hk (hal k (by have := hFN k hk; omega))) (fun k j hk hj => by subst hj; exact hex k hk (hal k (by omega)))
        exact run a w (N + 1) rfl hNM hal hn1 (Nat.le_refl _) hcl hf
      · have hiF : i ∈ F := by
          refine Classical.byContradiction fun h => ?_
          exact hnot (hall i (by omega) h)
        obtain ⟨o, ho⟩ : ∃ o, ops[i]? = some o := ⟨_, Array.getElem?_eq_getElem h1⟩
        obtain ⟨hd, hw, hr⟩ := flo i o a a1 w hiF ho hG hag fun k hk hd => hfl k hk (hdeps k hd)
        have hiN := hFN i hiF
        have hput : ∀ k, k < N → k ≠ i → (a.put (some (sl i)) (vF i)).tmps[sl k]? = a.tmps[sl k]? := fun k hk hne => by
          simp only [Act.put]
          rw [Array.getElem?_setIfInBounds_ne (fun e => hne (hinj k i hk hiN e.symm))]
        have hself : (a.put (some (sl i)) (vF i)).tmps[sl i]? = some (vF i) := by
          simp only [Act.put]
          rw [Array.getElem?_setIfInBounds_self, if_pos (by rw [hsz]; exact hsl i hiN)]
        unfold wpOp
        rw [ho]
        simp only
        rw [if_pos hw]
        refine .inl ?_
        unfold Oper.wp
        rw [hr]
        show _ ∨ _ ∨ _
        rw [hd]
        refine .inr (.inl ⟨fun j hj hjF => set_keep (hall j hj hjF), fun j hj => by rw [set_other (by omega)]; exact hn1 j hj, hcl, by simp [Act.put, hsz], hdf, fun j hj => ?_, ⟨a1, hG, fun j hj => ?_⟩, fun k hk hl => ?_, fun k hk hl => ?_⟩)
        · rw [← hlow j hj]
          simp only [Act.put]
          rw [Array.getElem?_setIfInBounds_ne (hj i hiN)]
        · rw [← hag j hj]
          simp only [Act.put]
          rw [Array.getElem?_setIfInBounds_ne (hj i hiF)]
        · by_cases e : k = i
          · subst e; exact hself
          · rw [hput k (hFN k hk) e]
            rw [set_other e] at hl
            exact hfl k hk hl
        · by_cases e : k = i
          · subst e; exact ⟨_, hself⟩
          · rw [hput k hk e]
            rw [set_other e] at hl
            exact hex k hk hl
    · have hcl : ∀ k, (listed.setIfInBounds i true).getD k false = true → ∀ j ∈ depsX ops k, (listed.setIfInBounds i true).getD j false = true := fun k hk j hj => by
        rcases getD_set hk with rfl | hk
        · exact set_keep (hdeps j hj)
        · exact set_keep (hc k hk j hj)
      have hik : k ≤ i := by
        rcases Nat.lt_or_ge i k with h | h
        · exact (hnot (hlo i h)).elim
        · exact h
      have hal := covM i (by omega) h1 (L := fun j => listed.getD j false) hc hdeps
      obtain rfl : k = i := by
        rcases Nat.lt_or_ge k i with h | h
        · have := hal k h
          simp only [hhi k (Nat.le_refl _)] at this
          cases this
        · omega
      exact run a w k rfl (by omega) hlo hhi (by omega) hcl hf
  · have hr2 := allB_listed hs (fun i o ho e he hbd => backsB_spec hb ho he hbd) hr
    rcases hI with ⟨hn, _⟩ | ⟨_, hn, _⟩ | ⟨k, hk1, hk2, hlo, hhi, _, hf⟩
    · have := hr2 N (by omega)
      rw [hn] at this
      cases this
    · have := hr2 (N + 1) (by omega)
      rw [hn (N + 1) (Nat.le_refl _)] at this
      cases this
    · obtain rfl : k = M := by
        rcases Nat.lt_or_ge k M with h | h
        · have := hr2 k (by omega)
          rw [hhi k (Nat.le_refl _)] at this
          cases this
        · omega
      rw [List.drop_of_length_le (by simp; omega)] at hf
      exact hf
  · cases h : (Array.replicate ops.size false).getD N false with
    | false => rfl
    | true => exact (getD_none h).elim
  · intro j _
    cases h : (Array.replicate ops.size false).getD j false with
    | false => rfl
    | true => exact (getD_none h).elim
end
end Go.Proofs.YtlomhoohmcnniaaDoor.RgX
