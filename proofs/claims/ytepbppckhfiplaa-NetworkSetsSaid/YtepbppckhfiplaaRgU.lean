/-
  A region that draws its order in which one operation may turn memory that was there (an append onto a field's own row) and the last operation stores its result: all others come before the one, but for some that read no memory. No function of the program.
-/
import Derived.Test.YtepbppckhfiplaaRgX
namespace Go.Proofs.Ytepbppckhfiplaa.RgX
open Go Go.RowKit Go.Proofs Go.Proofs.Ytepbppckhfiplaa

def cover2 (ops : Array Oper) (N iA : Nat) (F : List Nat) : Bool := (List.range N).all fun j => j == iA || F.contains j || (coverX ops iA (depsX ops iA)).contains j
theorem set_self {A : Array Bool} {i : Nat} (h : i < A.size) : (A.setIfInBounds i true).getD i false = true := by
  rw [Array.getD_eq_getD_getElem?, Array.getElem?_setIfInBounds_self, if_pos h]
  rfl
theorem set_other {A : Array Bool} {i j : Nat} (h : j ≠ i) : (A.setIfInBounds i true).getD j false = A.getD j false := by
  rw [Array.getD_eq_getD_getElem?, Array.getElem?_setIfInBounds_ne (fun e2 => h e2.symm), ← Array.getD_eq_getD_getElem?]
theorem set_keep {A : Array Bool} {i j : Nat} (h : A.getD j false = true) : (A.setIfInBounds i true).getD j false = true := by
  by_cases e : j = i
  · subst e
    refine set_self ?_
    rcases Nat.lt_or_ge j A.size with h2 | h2
    · exact h2
    · rw [Array.getD_eq_getD_getElem?, Array.getElem?_eq_none h2] at h
      cases h
  · rw [set_other e]
    exact h
section
variable {P : Program} {id : Nat} {ops : Array Oper} {Q : Exit → Act → World → Prop} {a0 : Act} {W : World}
theorem tail2 (N iA : Nat) (sl : Nat → Nat) (sp : Nat → Sp) (F : List Nat) (vF : Nat → Value) (oA oL : Oper) (G : Value → World → Prop) (hm : P.follows .mixedOrders = true) (hN : ops.size = N + 1) (hA : ops[iA]? = some oA) (hiA : iA < N) (hL : ops[N]? = some oL) (hb : backsV ops = true) (ht : tailX ops N = true) (hc2 : cover2 ops N iA F = true) (hFN : ∀ i ∈ F, i < N ∧ i ≠ iA)
    (hsl : ∀ i, i < N → sl i < a0.tmps.size) (hinj : ∀ i j, i < N → j < N → sl i = sl j → i = j)
    (step : ∀ (L : Nat → Bool) (a : Act) (w : World) (i : Nat) (o : Oper), i < N → i ≠ iA → RX N sl sp W a0 L a w → ops[i]? = some o → (∀ e ∈ o.after, Region.binds .any e = true → L e.on = true) → o.dst = some (sl i) ∧ Does P ops (sp i) a w o)
    (app : ∀ (a : Act) (w : World), a.tmps.size = a0.tmps.size → (∀ j, (∀ i, i < N → sl i ≠ j) → a.tmps[j]? = a0.tmps[j]?) → Below W.heap.size W w → (∀ i j s, i < N → i ≠ iA → i ∉ F → sl i = j → sp i = s → ∃ y, a.tmps[j]? = some y ∧ s.p w y) → oA.dst = some (sl iA) ∧ Region.wanted oA (yielded ops a.tmps) = true ∧ ∃ v w', (execOp a.eval oA).run P w = .ok (.value v) w' ∧ G v w')
    (flo : ∀ (i : Nat) (o : Oper) (a : Act) (w : World), i ∈ F → ops[i]? = some o → (∀ j, (∀ i, i < N → sl i ≠ j) → a.tmps[j]? = a0.tmps[j]?) → o.dst = some (sl i) ∧ Region.wanted o (yielded ops a.tmps) = true ∧ (execOp a.eval o).run P w = .ok (.value (vF i)) w)
    (hF : ∀ i ∈ F, ∀ w y, (sp i).p w y → y = vF i)
    (fin : ∀ (a : Act) (w : World) (y : Value), a.tmps.size = a0.tmps.size → a.defers = a0.defers → (∀ j, (∀ i, i < N → sl i ≠ j) → a.tmps[j]? = a0.tmps[j]?) → a.tmps[sl iA]? = some y → G y w → (∀ i ∈ F, a.tmps[sl i]? = some (vF i)) → (∀ i j, i < N → sl i = j → ∃ z, a.tmps[j]? = some z) → wpList P ops Q [oL] a w) : (Code.region id ops true).wp P Q a0 W := by
  have cov : ∀ {L : Nat → Bool}, (∀ i, L i = true → ∀ j ∈ depsX ops i, L j = true) → (∀ j ∈ depsX ops iA, L j = true) → ∀ j, j < N → j ≠ iA → j ∉ F → L j = true := fun hc hd j hj h1 h2 => by
    have h3 := coverX_listed hc iA (depsX ops iA) hd
    unfold cover2 at hc2
    rw [List.all_eq_true] at hc2
    have := hc2 j (List.mem_range.2 hj)
    simp only [Bool.or_eq_true, beq_iff_eq, List.contains_eq_mem, decide_eq_true_eq] at this
    rcases this with (h | h) | h
    · exact absurd h h1
    · exact absurd h h2
    · exact h3 j h
  have covL : ∀ {L : Nat → Bool}, (∀ i, L i = true → ∀ j ∈ depsX ops i, L j = true) → (∀ j ∈ depsX ops N, L j = true) → ∀ j, j < N → L j = true := fun hc hd j hj => by
    have h3 := coverX_listed hc N (depsX ops N) hd
    unfold tailX at ht
    rw [List.all_eq_true] at ht
    exact h3 j (by simpa using ht j (List.mem_range.2 hj))
  refine wp_region_any hm ?_
  refine wpAny_inv (fun listed a w => (listed.getD iA false = false ∧ listed.getD N false = false ∧ RX N sl sp W a0 (fun i => listed.getD i false) a w ∧ ∀ i, listed.getD i false = true → ∀ j ∈ depsX ops i, listed.getD j false = true)
      ∨ (listed.getD N false = false ∧ (∀ i, listed.getD i false = true → ∀ j ∈ depsX ops i, listed.getD j false = true) ∧ (∀ j, j < N → j ∉ F → listed.getD j false = true) ∧ a.tmps.size = a0.tmps.size ∧ a.defers = a0.defers ∧ (∀ j, (∀ i, i < N → sl i ≠ j) → a.tmps[j]? = a0.tmps[j]?) ∧ (∃ y, a.tmps[sl iA]? = some y ∧ G y w) ∧ (∀ i ∈ F, listed.getD i false = true → a.tmps[sl i]? = some (vF i)) ∧ (∀ i, i < N → listed.getD i false = true → ∃ z, a.tmps[sl i]? = some z))
      ∨ ((∀ j, j ≤ N → listed.getD j false = true) ∧ Q .normal a w)) (fun listed a w i hs hI hi => ?_) (fun listed a w hs hr hI => ?_) _ _ _ _ (by simp) (by simp) (.inl ⟨?_, ?_, ⟨rfl, rfl, fun _ _ => rfl, (Below.refl _ W).drew, fun i hi hl => (getD_none hl).elim⟩, fun i hl => (getD_none hl).elim⟩)
  · obtain ⟨h1, h2, _⟩ := ready_spec hi
    have hdp := fun {o} (ho : ops[i]? = some o) => ready_deps hi ho
    have hnot : listed.getD i false = false := by
      rw [Array.getD_eq_getD_getElem?] at h2 ⊢
      cases h : listed[i]? with
      | none => rfl
      | some b => rw [h] at h2; exact h2
    have his : i < listed.size := by omega
    have hdeps : ∀ j ∈ depsX ops i, listed.getD j false = true := fun j hj => by
      obtain ⟨o, ho⟩ : ∃ o, ops[i]? = some o := ⟨_, Array.getElem?_eq_getElem h1⟩
      obtain ⟨e, he, hbd, rfl⟩ := deps_of ho hj
      exact hdp ho e he hbd
    rcases hI with ⟨hnA, hnN, hI, hc⟩ | ⟨hnN, hc, hall, hsz, hdf, hlow, ⟨y, hy, hG⟩, hfl, hex⟩ | ⟨hall, _⟩
    · have hcl : ∀ k, (listed.setIfInBounds i true).getD k false = true → ∀ j ∈ depsX ops k, (listed.setIfInBounds i true).getD j false = true := fun k hk j hj => by
        rcases getD_set hk with rfl | hk
        · exact set_keep (hdeps j hj)
        · exact set_keep (hc k hk j hj)
      by_cases hiN : i = N
      · subst hiN
        have := covL (L := fun j => listed.getD j false) hc hdeps iA hiA
        simp only [hnA] at this
        cases this
      · by_cases hi2 : i = iA
        · subst hi2
          have hcv := cov (L := fun j => listed.getD j false) hc hdeps
          obtain ⟨hd, hw, v, w', hr, hg⟩ := app a w hI.size hI.low hI.held fun k j s hk hne hnF hj hs2 => by subst hj; subst hs2; exact hI.ok k hk (hcv k hk hne hnF)
          unfold wpOp
          rw [hA]
          simp only
          rw [if_pos hw]
          refine .inl ?_
          unfold Oper.wp
          rw [hr]
          show _ ∨ _ ∨ _
          rw [hd]
          have hsz := hI.size
          have hput : ∀ k, k < N → k ≠ i → (a.put (some (sl i)) v).tmps[sl k]? = a.tmps[sl k]? := fun k hk hne => by
            simp only [Act.put]
            rw [Array.getElem?_setIfInBounds_ne (fun e => hne (hinj k i hk hiA e.symm))]
          refine .inr (.inl ⟨by rw [set_other (fun e => hiN e.symm)]; exact hnN, hcl, fun j hj hjF => ?_, by simp [Act.put, hsz], hI.defers, fun j hj => ?_, ⟨v, ?_, hg⟩, fun k hk hl => ?_, fun k hk hl => ?_⟩)
          · by_cases e : j = i
            · subst e; exact set_self his
            · exact set_keep (hcv j hj e hjF)
          · rw [← hI.low j hj]
            simp only [Act.put]
            rw [Array.getElem?_setIfInBounds_ne (hj i hiA)]
          · simp only [Act.put]
            rw [Array.getElem?_setIfInBounds_self, if_pos (by rw [hsz]; exact hsl i hiA)]
          · obtain ⟨hkN, hkA⟩ := hFN k hk
            rw [hput k hkN hkA]
            rw [set_other hkA] at hl
            obtain ⟨y, h5, h6⟩ := hI.ok k hkN hl
            rw [h5, hF k hk _ _ h6]
          · by_cases e : k = i
            · subst e
              exact ⟨v, by simp only [Act.put]; rw [Array.getElem?_setIfInBounds_self, if_pos (by rw [hsz]; exact hsl k hk)]⟩
            · rw [set_other e] at hl
              obtain ⟨y, h5, _⟩ := hI.ok k hk hl
              exact ⟨y, by rw [hput k hk e]; exact h5⟩
        · obtain ⟨o, ho⟩ : ∃ o, ops[i]? = some o := ⟨_, Array.getElem?_eq_getElem h1⟩
          obtain ⟨hd, hdo⟩ := step _ a w i o (by omega) hi2 hI ho (hdp ho)
          refine hdo.upon ho fun v w' hV hv => .inl ⟨?_, ?_, ?_, hcl⟩
          · rw [set_other (fun e => hi2 e.symm)]; exact hnA
          · rw [set_other (fun e => hiN e.symm)]; exact hnN
          · rw [hd]
            exact hI.put hsl hinj hV (by omega) hv fun j hj => getD_set hj
    · have hcl : ∀ k, (listed.setIfInBounds i true).getD k false = true → ∀ j ∈ depsX ops k, (listed.setIfInBounds i true).getD j false = true := fun k hk j hj => by
        rcases getD_set hk with rfl | hk
        · exact set_keep (hdeps j hj)
        · exact set_keep (hc k hk j hj)
      by_cases hiN : i = N
      · subst hiN
        have hal := covL (L := fun j => listed.getD j false) hc hdeps
        have hf := fin a w y hsz hdf hlow hy hG (fun k hk => hfl k hk (hal k (hFN k hk).1)) (fun k j hk hj => by subst hj; exact hex k hk (hal k hk))
        have hQ : ∀ a w, Q .normal a w → (∀ j, j ≤ i → (listed.setIfInBounds i true).getD j false = true) ∧ Q .normal a w := fun a w hq => ⟨fun j hj => by
          by_cases e : j = i
          · subst e; exact set_self his
          · exact set_keep (hal j (by omega)), hq⟩
        unfold wpList at hf
        unfold wpOp
        rw [hL]
        simp only
        split
        · rename_i hw
          rw [if_pos hw] at hf
          exact hf.imp (Oper.wp_mono fun a w h => .inr (.inr (hQ a w h))) (fun h => h)
        · rename_i hw
          rw [if_neg hw] at hf
          exact .inr (.inr (hQ _ _ hf))
      · have hiF : i ∈ F := by
          refine Classical.byContradiction fun h => ?_
          have := hall i (by omega) h
          rw [hnot] at this
          cases this
        obtain ⟨o, ho⟩ : ∃ o, ops[i]? = some o := ⟨_, Array.getElem?_eq_getElem h1⟩
        obtain ⟨hd, hw, hr⟩ := flo i o a w hiF ho hlow
        obtain ⟨hiN2, hiA2⟩ := hFN i hiF
        have hput : ∀ k, k < N → k ≠ i → (a.put (some (sl i)) (vF i)).tmps[sl k]? = a.tmps[sl k]? := fun k hk hne => by
          simp only [Act.put]
          rw [Array.getElem?_setIfInBounds_ne (fun e => hne (hinj k i hk hiN2 e.symm))]
        have hself : (a.put (some (sl i)) (vF i)).tmps[sl i]? = some (vF i) := by
          simp only [Act.put]
          rw [Array.getElem?_setIfInBounds_self, if_pos (by rw [hsz]; exact hsl i hiN2)]
        unfold wpOp
        rw [ho]
        simp only
        rw [if_pos hw]
        refine .inl ?_
        unfold Oper.wp
        rw [hr]
        show _ ∨ _ ∨ _
        rw [hd]
        refine .inr (.inl ⟨by rw [set_other (fun e => hiN e.symm)]; exact hnN, hcl, fun j hj hjF => set_keep (hall j hj hjF), by simp [Act.put, hsz], hdf, fun j hj => ?_, ⟨y, by rw [hput iA hiA (fun e => hiA2 e.symm)]; exact hy, hG⟩, fun k hk hl => ?_, fun k hk hl => ?_⟩)
        · rw [← hlow j hj]
          simp only [Act.put]
          rw [Array.getElem?_setIfInBounds_ne (hj i hiN2)]
        · by_cases e : k = i
          · subst e; exact hself
          · rw [hput k (hFN k hk).1 e]
            rw [set_other e] at hl
            exact hfl k hk hl
        · by_cases e : k = i
          · subst e; exact ⟨_, hself⟩
          · rw [hput k hk e]
            rw [set_other e] at hl
            exact hex k hk hl
    · rw [hall i (by omega)] at hnot
      cases hnot
  · have hal := all_listed hs (fun i o ho e he => backsV_spec hb ho he) hr
    rcases hI with ⟨_, hnN, _⟩ | ⟨hnN, _⟩ | ⟨_, hq⟩
    · rw [hal N (by omega)] at hnN
      cases hnN
    · rw [hal N (by omega)] at hnN
      cases hnN
    · exact hq
  · cases h : (Array.replicate ops.size false).getD iA false with
    | false => rfl
    | true => exact (getD_none h).elim
  · cases h : (Array.replicate ops.size false).getD N false with
    | false => rfl
    | true => exact (getD_none h).elim
end
end Go.Proofs.Ytepbppckhfiplaa.RgX
