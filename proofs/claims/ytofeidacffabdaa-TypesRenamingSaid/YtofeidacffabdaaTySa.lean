/-
  append of a slice of strings; the variables of a generated program are distinct. No function of the program.
-/
import Derived.Test.YtofeidacffabdaaTyUv
namespace Go.Proofs.Ytofeidacffabdaa
open Go Go.RowKit Go.Proofs Go.Shelf
attribute [local go_sem] Oper.semAt_some

theorem wpList_append_stn {ops : Array Oper} {rest : List Oper} {o : Oper} {a : Act} {W : World} {Q : Exit → Act → World → Prop} (hgd : o.guard = none) (s x : Operand) (ho : o.op = .call { callee := .builtin .append, args := #[s, x], argTypes := #[32, 32] }) (base : Nat) (v : Value) (n : Nat) (xs : List Value) (hs : a.eval s = v) (hown : W.ownsRow base 9 1 v n xs)
    (hi : Nat) (A : Option Addr) (c m : Nat) (l : List ByteArray) (hst : Stn hi W A c l) (hm : l.length = m) (hx : a.eval x = .slice A m c) (hb : n + m ≤ 100000) (hbase : base ≤ W.heap.size)
    (h : ∀ A' c' w', w'.ownsRow base 9 1 (.slice A' (n + m) c') (n + m) (xs ++ l.map Value.string) → W.grownBy w' v.ownBlock → wpList Try.prog ops Q rest (a.put o.dst (.slice A' (n + m) c')) w') : wpList Try.prog ops Q (o :: rest) a W := by
  obtain ⟨i0, hi0, hz0, hz1, hz2⟩ := info_parts info_str
  obtain ⟨h1, h2, ⟨rfl, rfl⟩ | ⟨b, off, rfl, hbb, hc⟩⟩ := hst
  · obtain rfl : l = [] := List.eq_nil_of_length_eq_zero (by omega)
    have hm0 : m = 0 := by rw [← hm]; rfl
    subst hm0
    obtain ⟨A1, c1, rfl, _, _⟩ := own_slice hown
    refine wpList_append_own_none hgd s x 32 ho base 9 i0 1 Try.underlying32 hi0 (.slice A1 n c1) n xs hs hown hx ?_
    exact h A1 c1 W (by simpa using hown) ⟨rfl, rfl, rfl, Nat.le_refl _, fun _ _ _ => rfl⟩
  · refine wpList_append_own _ hgd s x 32 ho base 9 i0 _ 1 16 Try.underlying32 hi0 hz0 hz1 hz2 rfl (by decide) v n xs hs hown ⟨b, off, none⟩ m c (l.map Value.string) hx (by rw [List.length_map]; omega) (fun j u hu => ?_) (fun u hu => ?_) (by simp only [maxLen]; omega) (by omega) hbase ?_
    · rw [List.getElem?_map] at hu
      obtain ⟨z, hz, rfl⟩ := Option.map_eq_some_iff.1 hu
      rw [Addr.add_lit]
      exact hc j z hz
    · obtain ⟨z, _, rfl⟩ := List.mem_map.1 hu
      rfl
    · intro v' w2 hown' hgrow _
      obtain ⟨A2, c2, rfl, _, _⟩ := own_slice hown'
      exact h A2 c2 w2 hown' hgrow

/-! ### The variables are distinct -/
theorem vName_inj : ∀ i, i < 10 → ∀ j, j < 10 → TY.vName i = TY.vName j → i = j := by decide +kernel
theorem nodup_map_on {α β : Type} {f : α → β} : ∀ {l : List α}, l.Nodup → (∀ x ∈ l, ∀ y ∈ l, f x = f y → x = y) → (l.map f).Nodup
  | [], _, _ => List.nodup_nil
  | a :: t, h, hi => by
    rw [List.nodup_cons] at h
    rw [List.map_cons, List.nodup_cons]
    refine ⟨fun hm => ?_, nodup_map_on h.2 fun x hx y hy => hi x (List.mem_cons_of_mem _ hx) y (List.mem_cons_of_mem _ hy)⟩
    obtain ⟨y, hy, e⟩ := List.mem_map.1 hm
    have := hi y (List.mem_cons_of_mem _ hy) a (by simp) e
    subst this
    exact h.1 hy
theorem vars_nodup (L : List Int) : (TY.unitG L).vars.Nodup := by
  unfold TY.unitG TY.Un.vars TY.varsG
  dsimp only
  rw [← List.map_append]
  refine nodup_map_on ?_ fun x hx y hy e => ?_
  · refine List.nodup_append.2 ⟨List.Pairwise.filter _ List.nodup_range, List.Pairwise.filter _ List.nodup_range, fun a ha b hb e => ?_⟩
    subst e
    rw [List.mem_filter, Bool.and_eq_true] at ha hb
    have h1 := ha.2.2
    have h2 := hb.2.2
    rw [h1] at h2
    cases h2
  · have hx' : x < 10 := by
      rcases List.mem_append.1 hx with h | h <;> exact List.mem_range.1 (List.mem_filter.1 h).1
    have hy' : y < 10 := by
      rcases List.mem_append.1 hy with h | h <;> exact List.mem_range.1 (List.mem_filter.1 h).1
    exact vName_inj x hx' y hy' e
theorem idx_nodup {l : List ByteArray} (h : l.Nodup) {j : Nat} {s : ByteArray} (hj : l[j]? = some s) : TY.idx l s = (j : Int) := by
  refine idx_at hj ?_
  rw [Bool.eq_false_iff]
  intro hi
  have hm := TY.inL_iff.1 hi
  obtain ⟨i, hi1⟩ := List.mem_iff_getElem?.1 hm
  have hil : i < j := by
    rcases Nat.lt_or_ge i j with h1 | h1
    · exact h1
    · rw [List.getElem?_take_eq_none h1] at hi1; cases hi1
  rw [List.getElem?_take_of_lt hil] at hi1
  have := (List.getElem?_inj (List.getElem?_eq_some_iff.1 hi1).1 h).1 (hi1.trans hj.symm)
  omega
end Go.Proofs.Ytofeidacffabdaa
