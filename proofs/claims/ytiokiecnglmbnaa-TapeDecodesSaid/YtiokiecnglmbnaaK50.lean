/-
  A region that draws its order, with two appends one behind the other: the first onto an own row that was there, the second (which waits for all others) onto what the first left; the last operation takes its result. No function of the program.
-/
import Derived.Test.YtiokiecnglmbnaaK15

namespace Go.Proofs.Ytiokiecnglmbnaa.RgX
open Go Go.RowKit Go.Proofs Go.Proofs.Ytiokiecnglmbnaa

def free2 (ops : Array Oper) (N iA : Nat) : Bool := (List.range N).all fun j => j == iA || !(depsX ops j).contains iA
theorem mem_deps {ops : Array Oper} {i : Nat} {o : Oper} (ho : ops[i]? = some o) {e : _} (he : e ∈ o.after) (hbd : Region.binds .any e = true) : e.on ∈ depsX ops i := by
  unfold depsX
  rw [ho]
  exact List.mem_map.2 ⟨e, List.mem_filter.2 ⟨by simpa using he, hbd⟩, rfl⟩
section
variable {P : Program} {id : Nat} {ops : Array Oper} {Q : Exit → Act → World → Prop} {a0 : Act} {W : World}
theorem own2 (N iA : Nat) (sl : Nat → Nat) (sp : Option Nat → Nat → Sp) (oA oB oL : Oper) (v0 : Value) (own : Bool → World → Value → Prop)
    (hm : P.follows .mixedOrders = true) (hN : ops.size = N + 2) (hA : ops[iA]? = some oA) (hiA : iA < N) (hB : ops[N]? = some oB) (hL : ops[N + 1]? = some oL)
    (hb : backsV ops = true) (ht : tailX ops N = true) (hlast : (depsX ops (N + 1)).contains N = true) (hfree : free2 ops N iA = true)
    (hsl : ∀ i, i < N → sl i < a0.tmps.size) (hinj : ∀ i j, i < N → j < N → sl i = sl j → i = j)
    (h0 : own false W v0) (hk : ∀ b w w' v, own b w v → Below w.heap.size w w' → own b w' v)
    (step : ∀ (L : Nat → Bool) (a : Act) (w : World) (y : Value) (i : Nat) (o : Oper), i < N → i ≠ iA → (∃ b, own b w y) → RX N sl (sp y.ownBlock) w a0 L a w → ops[i]? = some o → (∀ e ∈ o.after, Region.binds .any e = true → L e.on = true) → o.dst = some (sl i) ∧ Does P ops (sp y.ownBlock i) a w o)
    (app : ∀ (L : Nat → Bool) (a : Act) (w : World), own false w v0 → RX N sl (sp v0.ownBlock) w a0 L a w → (∀ e ∈ oA.after, Region.binds .any e = true → L e.on = true) → oA.dst = some (sl iA) ∧ Region.wanted oA (yielded ops a.tmps) = true ∧ ∃ v w', (execOp a.eval oA).run P w = .ok (.value v) w' ∧ own true w' v ∧ ∀ i x, i < N → i ≠ iA → (sp v0.ownBlock i).p w x → (sp v.ownBlock i).p w' x)
    (fin : ∀ (a : Act) (w : World) (y : Value), a.tmps.size = a0.tmps.size → a.defers = a0.defers → (∀ j, (∀ i, i < N → sl i ≠ j) → a.tmps[j]? = a0.tmps[j]?) → own true w y → a.tmps[sl iA]? = some y → (∀ i j s, i < N → i ≠ iA → sl i = j → sp y.ownBlock i = s → ∃ x, a.tmps[j]? = some x ∧ s.p w x) → Region.wanted oB (yielded ops a.tmps) = true ∧ ∃ v w', (execOp a.eval oB).run P w = .ok (.value v) w' ∧ wpList P ops Q [oL] (a.put oB.dst v) w') :
    (Code.region id ops true).wp P Q a0 W := by
  have covL : ∀ {L : Nat → Bool}, (∀ i, L i = true → ∀ j ∈ depsX ops i, L j = true) → (∀ j ∈ depsX ops N, L j = true) → ∀ j, j < N → L j = true := fun hc hd j hj => by
    have h3 := coverX_listed hc N (depsX ops N) hd
    unfold tailX at ht
    rw [List.all_eq_true] at ht
    exact h3 j (by simpa using ht j (List.mem_range.2 hj))
  have hfr : ∀ j, j < N → j ≠ iA → iA ∉ depsX ops j := fun j hj hne hmem => by
    unfold free2 at hfree
    rw [List.all_eq_true] at hfree
    have := hfree j (List.mem_range.2 hj)
    simp only [Bool.or_eq_true, beq_iff_eq, Bool.not_eq_true', List.contains_eq_mem, decide_eq_false_iff_not] at this
    rcases this with h | h
    · exact hne h
    · exact h hmem
  have hlast' : N ∈ depsX ops (N + 1) := by simpa using hlast
  refine wp_region_any hm ?_
  refine wpAny_inv (fun listed a w => (listed.getD N false = false ∧ listed.getD (N + 1) false = false ∧ (∀ i, listed.getD i false = true → ∀ j ∈ depsX ops i, listed.getD j false = true) ∧ ∃ y, own (listed.getD iA false) w y ∧ (listed.getD iA false = false → y = v0) ∧ (listed.getD iA false = true → a.tmps[sl iA]? = some y) ∧ RX N sl (sp y.ownBlock) w a0 (fun i => listed.getD i false && i != iA) a w)
      ∨ (listed.getD (N + 1) false = false ∧ (∀ j, j ≤ N → listed.getD j false = true) ∧ wpList P ops Q [oL] a w)
      ∨ ((∀ j, j ≤ N + 1 → listed.getD j false = true) ∧ Q .normal a w)) (fun listed a w i hs hI hi => ?_) (fun listed a w hs hr hI => ?_) _ _ _ _ (by simp) (by simp) (.inl ⟨?_, ?_, fun i hl => (getD_none hl).elim, v0, ?_, fun _ => rfl, fun h => (getD_none h).elim, ⟨rfl, rfl, fun _ _ => rfl, Below.refl _ _, fun i hi hl => ?_⟩⟩)
  · obtain ⟨h1, h2, _⟩ := ready_spec hi
    have hdp := fun {o} (ho : ops[i]? = some o) => ready_deps hi ho
    have hnot : listed.getD i false = false := by
      rw [Array.getD_eq_getD_getElem?] at h2 ⊢
      cases h : listed[i]? with
      | none => rfl
      | some b => rw [h] at h2; exact h2
    have his : i < listed.size := by omega
    have hdeps : ∀ j ∈ depsX ops i, listed.getD j false = true := fun j hj => by
      obtain ⟨o, ho⟩ : ∃ o, ops[i]? = some o := ⟨_, Array.getElem?_eq_getElem h1⟩
      obtain ⟨e, he, hbd, rfl⟩ := deps_of ho hj
      exact hdp ho e he hbd
    rcases hI with ⟨hnN, hnL, hc, y, ho, hy0, hy1, hX⟩ | ⟨hnL, hall, hf⟩ | ⟨hall, _⟩
    · have hcl : ∀ k, (listed.setIfInBounds i true).getD k false = true → ∀ j ∈ depsX ops k, (listed.setIfInBounds i true).getD j false = true := fun k hk j hj => by
        rcases getD_set hk with rfl | hk
        · exact set_keep (hdeps j hj)
        · exact set_keep (hc k hk j hj)
      by_cases hiL : i = N + 1
      · subst hiL
        have := hdeps N hlast'
        rw [hnN] at this
        cases this
      by_cases hiN : i = N
      · have hal := covL (L := fun j => listed.getD j false) hc (by rw [← hiN]; exact hdeps)
        have hlA : listed.getD iA false = true := hal iA hiA
        rw [hlA] at ho
        obtain ⟨hw, v, w', hr, hf⟩ := fin a w y hX.size hX.defers hX.low ho (hy1 hlA) (fun k j s hk hne hj hs2 => by
          subst hj
          subst hs2
          have := hal k hk
          exact hX.ok k hk (by simp [this, hne]))
        unfold wpOp
        rw [hiN, hB]
        simp only
        rw [if_pos hw]
        refine .inl ?_
        unfold Oper.wp
        rw [hr]
        show _ ∨ _ ∨ _
        refine .inr (.inl ⟨by rw [set_other (by omega)]; exact hnL, fun j hj => ?_, hf⟩)
        by_cases e : j = N
        · subst e
          exact set_self (by omega)
        · exact set_keep (hal j (by omega))
      by_cases hi2 : i = iA
      · subst hi2
        rw [hnot] at ho
        obtain rfl := hy0 hnot
        obtain ⟨hd, hw, v, w', hr, hg, hsh⟩ := app _ a w ho hX (fun e he hbd => by
          have h5 := backsV_spec hb hA he
          have h6 := hdp hA e he hbd
          have h7 : e.on ≠ i := by omega
          simp [h6, h7])
        unfold wpOp
        rw [hA]
        simp only
        rw [if_pos hw]
        refine .inl ?_
        unfold Oper.wp
        rw [hr]
        show _ ∨ _ ∨ _
        rw [hd]
        refine .inl ⟨by rw [set_other (by omega)]; exact hnN, by rw [set_other (by omega)]; exact hnL, hcl, v, ?_, fun h => ?_, fun _ => ?_, ⟨by simp [Act.put, hX.size], hX.defers, fun j hj => ?_, Below.refl _ _, fun k hk hl => ?_⟩⟩
        · rw [set_self his]
          exact hg
        · rw [set_self his] at h
          cases h
        · simp only [Act.put]
          rw [Array.getElem?_setIfInBounds_self, if_pos (by rw [hX.size]; exact hsl i hiA)]
        · rw [← hX.low j hj]
          simp only [Act.put]
          rw [Array.getElem?_setIfInBounds_ne (hj i hiA)]
        · have hne : k ≠ i := by
            rintro rfl
            simp at hl
          rw [set_other hne, Bool.and_eq_true] at hl
          obtain ⟨x, h5, h6⟩ := hX.ok k hk (by rw [Bool.and_eq_true]; exact hl)
          refine ⟨x, ?_, hsh k x hk hne h6⟩
          simp only [Act.put]
          rw [Array.getElem?_setIfInBounds_ne (fun e => hne (hinj k i hk hiA e.symm))]
          exact h5
      · obtain ⟨o, ho'⟩ : ∃ o, ops[i]? = some o := ⟨_, Array.getElem?_eq_getElem h1⟩
        obtain ⟨hd, hdo⟩ := step _ a w y i o (by omega) hi2 ⟨_, ho⟩ hX ho' (fun e he hbd => by
          have h6 := hdp ho' e he hbd
          have h7 : e.on ≠ iA := fun h => hfr i (by omega) hi2 (h ▸ mem_deps ho' he hbd)
          simp [h6, h7])
        have hA2 : (listed.setIfInBounds i true).getD iA false = listed.getD iA false := set_other (fun e => hi2 e.symm)
        refine hdo.upon ho' fun v w' hV hv => .inl ⟨by rw [set_other (by omega)]; exact hnN, by rw [set_other (by omega)]; exact hnL, hcl, y, ?_, fun h => ?_, fun h => ?_, ?_⟩
        · rw [hA2]
          exact hk _ _ _ _ ho hV
        · rw [hA2] at h
          exact hy0 h
        · rw [hA2] at h
          rw [hd]
          simp only [Act.put]
          rw [Array.getElem?_setIfInBounds_ne (fun e => hi2 (hinj i iA (by omega) hiA e))]
          exact hy1 h
        · rw [hd]
          have hp := hX.put (L' := fun j => (listed.setIfInBounds i true).getD j false && j != iA) hsl hinj hV (by omega) hv (fun j hj => by
            rw [Bool.and_eq_true] at hj
            rcases getD_set hj.1 with h | h
            · exact .inl h
            · exact .inr (by rw [Bool.and_eq_true]; exact ⟨h, hj.2⟩))
          exact ⟨hp.size, hp.defers, hp.low, Below.refl _ _, hp.ok⟩
    · by_cases hiL : i = N + 1
      · subst hiL
        have hQ : ∀ a w, Q .normal a w → (∀ j, j ≤ N + 1 → (listed.setIfInBounds (N + 1) true).getD j false = true) ∧ Q .normal a w := fun a w hq => ⟨fun j hj => by
          by_cases e : j = N + 1
          · subst e; exact set_self his
          · exact set_keep (hall j (by omega)), hq⟩
        unfold wpList at hf
        unfold wpOp
        rw [hL]
        simp only
        split
        · rename_i hw
          rw [if_pos hw] at hf
          exact hf.imp (Oper.wp_mono fun a w h => .inr (.inr (hQ a w h))) (fun h => h)
        · rename_i hw
          rw [if_neg hw] at hf
          exact .inr (.inr (hQ _ _ hf))
      · rw [hall i (by omega)] at hnot
        cases hnot
    · rw [hall i (by omega)] at hnot
      cases hnot
  · have hal := all_listed hs (fun i o ho e he => backsV_spec hb ho he) hr
    rcases hI with ⟨hnN, _⟩ | ⟨hnL, _⟩ | ⟨_, hq⟩
    · rw [hal N (by omega)] at hnN
      cases hnN
    · rw [hal (N + 1) (by omega)] at hnL
      cases hnL
    · exact hq
  · cases h : (Array.replicate ops.size false).getD N false with
    | false => rfl
    | true => exact (getD_none h).elim
  · cases h : (Array.replicate ops.size false).getD (N + 1) false with
    | false => rfl
    | true => exact (getD_none h).elim
  · cases h : (Array.replicate ops.size false).getD iA false with
    | false => exact hk _ _ _ _ h0 (Below.refl _ W).drew
    | true => exact (getD_none h).elim
  · rw [Bool.and_eq_true] at hl
    exact (getD_none hl.1).elim
end
end Go.Proofs.Ytiokiecnglmbnaa.RgX
