/-
  The walks that the searches of cycleFrom promise are there: from what the search marks. Plain mathematics; no function of the program.
  The contract of graph.shortestCycle for few vertices. Condition: the walks that the searches promise are there.
  What a depth-first search leaves: just what can be reached; and in which order (for the components). Plain mathematics; no function of the program.
  The parts that two searches give are the strongly connected components; in order they are one list. Plain mathematics; no function of the program.
-/
import Derived.Test.YtdebnnigbbjbcaaDoorK14
import Derived.Test.YtdebnnigbbjbcaaDoorK12
import Derived.Test.YtdebnnigbbjbcaaDoorK10

namespace Go.Proofs.YtdebnnigbbjbcaaDoor

theorem homeAt_set (D : List Nat) (u x c : Nat) : homeAt (D.set u c) x = if u = x ∧ u < D.length then c else homeAt D x := by
  unfold homeAt
  by_cases e : u = x
  · subst e
    by_cases hl : u < D.length
    · rw [if_pos ⟨rfl, hl⟩, List.getElem?_set_self hl]
      rfl
    · rw [if_neg (fun h => hl h.2), List.getElem?_eq_none (by simpa using Nat.le_of_not_lt hl), List.getElem?_eq_none (by omega)]
  · rw [if_neg (fun h => e h.1), List.getElem?_set_ne e]
/-- Each marked vertex but those of distance 1 has a successor that is nearer. -/
def Near (nd : List (List Nat)) (D : List Nat) : Prop := ∀ x r, 1 ≤ r → homeAt D x = r + 1 → ∃ y, y ∈ nb nd x ∧ homeAt D y = r
theorem leads_of {nd : List (List Nat)} {D : List Nat} (hN : Near nd D) : ∀ (r v : Nat), (r = 0 ∨ ∃ y, y ∈ nb nd v ∧ homeAt D y = r) → LeadsL nd D v r
  | 0, _, _ => trivial
  | r + 1, v, h => by
    rcases h with h | ⟨y, hy, hd⟩
    · omega
    · cases hf : stepTo nd D v (r + 1) with
      | none =>
        unfold stepTo at hf
        rw [List.find?_eq_none] at hf
        exact absurd (by simpa using hd) (hf y hy)
      | some x =>
        refine ⟨x, hf, leads_of hN r x ?_⟩
        unfold stepTo at hf
        have hx := List.find?_some hf
        simp only [decide_eq_true_eq] at hx
        rcases Nat.eq_zero_or_pos r with e | e
        · exact .inl e
        · exact .inr (hN x r e hx)
/-- One round of marks. -/
theorem setTo_near {nd : List (List Nat)} (s d v : Nat) : ∀ (us D : List Nat), (∀ u ∈ us, v ∈ nb nd u ∧ (homeAt D u = 0 ∨ homeAt D u = d + 1)) → (1 ≤ d → homeAt D v = d) → Near nd D →
    Near nd (setTo s (d + 1) us D).2 ∧ (1 ≤ d → homeAt (setTo s (d + 1) us D).2 v = d) ∧ (∀ x, homeAt (setTo s (d + 1) us D).2 x = homeAt D x ∨ (x ∈ us ∧ homeAt (setTo s (d + 1) us D).2 x = d + 1)) ∧ ((setTo s (d + 1) us D).1 = true → s ∈ us)
  | [], D, _, hv, hN => ⟨hN, hv, fun _ => .inl rfl, fun h => by cases h⟩
  | u :: us, D, hu, hv, hN => by
    unfold setTo
    by_cases h : u = s
    · rw [if_pos h]
      exact ⟨hN, hv, fun _ => .inl rfl, fun _ => by rw [h]; simp⟩
    · rw [if_neg h]
      obtain ⟨h1, h2⟩ := hu u (by simp)
      have hv1 : 1 ≤ d → homeAt (D.set u (d + 1)) v = d := fun hd => by
        rw [homeAt_set, if_neg]
        · exact hv hd
        · rintro ⟨rfl, _⟩
          have := hv hd
          omega
      obtain ⟨k1, k2, k3, k4⟩ := setTo_near s d v us (D.set u (d + 1)) (fun x hx => ⟨(hu x (by simp [hx])).1, by
        rw [homeAt_set]
        split
        · exact .inr rfl
        · exact (hu x (by simp [hx])).2⟩) hv1 (by
        intro x r hr hx
        rw [homeAt_set] at hx
        split at hx
        · rename_i hc
          obtain ⟨rfl, _⟩ := hc
          obtain rfl : d = r := by omega
          exact ⟨v, h1, hv1 hr⟩
        · obtain ⟨y, hy, hyr⟩ := hN x r hr hx
          refine ⟨y, hy, ?_⟩
          rw [homeAt_set]
          split
          · rename_i hc
            obtain ⟨rfl, _⟩ := hc
            omega
          · exact hyr)
      refine ⟨k1, k2, fun x => ?_, fun ht => by simp [k4 ht]⟩
      rcases k3 x with h3 | ⟨h3, h4⟩
      · rw [homeAt_set] at h3
        split at h3
        · rename_i hc
          exact .inr ⟨by rw [← hc.1]; simp, h3⟩
        · exact .inl h3
      · exact .inr ⟨by simp [h3], h4⟩
theorem bits_and_mem {u x : Nat} {l : List Nat} : x ∈ bitsL (u &&& mask l) ↔ x ∈ bitsL u ∧ x ∈ l := by
  unfold bitsL
  simp only [List.mem_filter, Nat.testBit_and, mask_bit, Bool.and_eq_true, decide_eq_true_eq]
  constructor
  · rintro ⟨h1, h2, h3⟩
    exact ⟨⟨h1, h2⟩, h3⟩
  · rintro ⟨⟨h1, h2⟩, h3⟩
    exact ⟨h1, h2, h3⟩
theorem bits_left_mem {u x : Nat} {l : List Nat} : x ∈ bitsL (u ^^^ (u &&& mask l)) ↔ x ∈ bitsL u ∧ x ∉ l := by
  unfold bitsL
  simp only [List.mem_filter, Nat.testBit_xor, Nat.testBit_and, mask_bit]
  cases hb : u.testBit x <;> by_cases hl : x ∈ l <;> simp [hl]
theorem bfs_near {nd srcs : List (List Nat)} (hs : ∀ u v, u ∈ nb srcs v ↔ v ∈ nb nd u) (s below : Nat) : ∀ (f i unf : Nat) (D Q : List Nat) (len : Nat) (D' : List Nat), Near nd D → (∀ x, homeAt D x ≠ 0 → x ∉ bitsL unf) →
    bfs srcs s below f i unf D Q = some (len, D') → Near nd D' ∧ 1 ≤ len ∧ ∃ v, v ∈ nb nd s ∧ (1 ≤ len - 1 → homeAt D' v = len - 1)
  | 0, _, _, _, _, _, _, _, _, h => by cases h
  | f + 1, i, unf, D, Q, len, D', hN, hU, h => by
    rw [bfs] at h
    split at h
    · split at h
      · cases h
      · obtain ⟨v, hv⟩ : ∃ v, homeAt Q i = v := ⟨_, rfl⟩
        rw [hv] at h
        obtain ⟨us, hus⟩ : ∃ us, bitsL (unf &&& mask (nb srcs v)) = us := ⟨_, rfl⟩
        have hmem : ∀ u, u ∈ us ↔ u ∈ bitsL unf ∧ u ∈ nb srcs v := fun u => by rw [← hus]; exact bits_and_mem
        obtain ⟨k1, k2, k3, k4⟩ := setTo_near s (homeAt D v) v us D (fun u hu => by
          obtain ⟨h1, h2⟩ := (hmem u).1 hu
          refine ⟨(hs u v).1 h2, .inl ?_⟩
          rcases Nat.eq_zero_or_pos (homeAt D u) with e | e
          · exact e
          · exact absurd h1 (hU u (by omega))) (fun _ => rfl) hN
        rw [hus] at h
        obtain ⟨t, Dn, hst⟩ : ∃ t Dn, setTo s (homeAt D v + 1) us D = (t, Dn) := ⟨_, _, rfl⟩
        rw [hst] at h k1 k2 k3 k4
        cases t with
        | true =>
          simp only [Option.some.injEq, Prod.mk.injEq] at h
          obtain ⟨rfl, rfl⟩ := h
          exact ⟨k1, by omega, v, (hs s v).1 ((hmem s).1 (k4 rfl)).2, fun hl => by
            rw [Nat.add_sub_cancel] at hl ⊢
            exact k2 hl⟩
        | false =>
          simp only at h
          refine bfs_near hs s below f (i + 1) _ Dn _ len D' k1 (fun x hx => ?_) h
          rw [bits_left_mem]
          rintro ⟨hx1, hx2⟩
          rcases k3 x with h3 | ⟨h3, _⟩
          · rw [h3] at hx
            exact hU x hx hx1
          · exact hx2 ((hmem x).1 h3).2
    · cases h
theorem homeAt_rep (n x : Nat) : homeAt (List.replicate n 0) x = 0 := by
  unfold homeAt
  rw [List.getElem?_replicate]
  split <;> rfl
/-- The walk is there. -/
theorem lead_any (nd : List (List Nat)) (hg : Good nd) (s n below len : Nat) (D : List Nat) (h : bfsL (preds nd) s n below = some (len, D)) : LeadsL nd D s (len - 1) := by
  obtain ⟨h1, h2, v, h3, h4⟩ := bfs_near (nd := nd) (srcs := preds nd) (fun u v => nb_preds nd hg u v) s below _ _ _ _ _ len D (fun x r hr hx => by
    rw [homeAt_rep] at hx
    omega) (fun x hx => absurd (homeAt_rep n x) hx) h
  refine leads_of h1 _ _ ?_
  rcases Nat.eq_zero_or_pos (len - 1) with e | e
  · exact .inl e
  · exact .inr ⟨v, h3, h4 e⟩
end Go.Proofs.YtdebnnigbbjbcaaDoor

namespace Go.Proofs.YtdebnnigbbjbcaaDoor
open Go Go.RowKit Go.Proofs

theorem walk_len (nx : List (List Nat)) (D : List Nat) : ∀ (r v : Nat), (walkL nx D v r).length ≤ r
  | 0, _ => by simp [walkL]
  | r + 1, v => by
    rw [walkL]
    split
    · exact Nat.zero_le _
    · rename_i x _
      have := walk_len nx D r x
      simp
      omega
theorem bfs_lt (srcs : List (List Nat)) (s below : Nat) : ∀ (f i unf : Nat) (D Q : List Nat) (len : Nat) (D' : List Nat), bfs srcs s below f i unf D Q = some (len, D') → 1 ≤ len ∧ len < below
  | 0, _, _, _, _, _, _, h => by cases h
  | f + 1, i, unf, D, Q, len, D', h => by
    rw [bfs] at h
    split at h
    · split at h
      · cases h
      · split at h
        · injection h with h
          injection h with h _
          omega
        · exact bfs_lt srcs s below f _ _ _ _ len D' h
    · cases h
theorem from_len {nx srcs : List (List Nat)} {s n below : Nat} : (fromL nx srcs s n below).length ≤ below := by
  unfold fromL
  split
  · exact Nat.zero_le _
  · rename_i len D h
    have h1 := bfs_lt srcs s below _ _ _ _ _ _ _ h
    have h2 := walk_len nx D (len - 1) s
    simp
    omega
theorem from_list (g lo hi gS c cS s n below : Nat) (cs : Array Value) (nx srcs : List (List Nat)) (w : World) (hnx : nx.length = n) (hn : n ≤ 10) (hR : Rows2 w lo hi g cs nx) (hh : hi ≤ w.heap.size) (hg : Good nx)
    (hS : Srcs w gS n srcs) (hsl : ∀ v x, x ∈ nb srcs v → x < n) (hs : s < n) (hbl : below ≤ 1000) (hT : Tab w) (hlead : ∀ len D, bfsL srcs s n below = some (len, D) → LeadsL nx D s (len - 1)) :
    Calls Tryd.prog 59 #[.int .i64 (s : Int), .slice (some ⟨g, 0, none⟩) n c, .slice (some ⟨gS, 0, none⟩) n cS, .int .i64 (below : Int)] w fun e w' => ∃ v CL, e = .returned v ∧ fromL nx srcs s n below = CL ∧ ((CL = [] ∧ v = .slice none 0 0) ∨ (0 < CL.length ∧ CL.length ≤ below ∧ Own w' w.heap.size v CL)) ∧ Below w.heap.size w w' := by
  refine (from_any g lo hi gS c cS s n below cs nx srcs w hnx hn hR hh hg hS hsl hs hbl hT hlead).mono ?_
  rintro e w' ⟨v, rfl, h, hB⟩
  refine ⟨v, _, rfl, rfl, ?_, hB⟩
  have hl := from_len (nx := nx) (srcs := srcs) (s := s) (n := n) (below := below)
  rcases h with ⟨h, rfl⟩ | ⟨len, D, h, ho⟩
  · left
    unfold fromL
    rw [h]
    exact ⟨rfl, rfl⟩
  · right
    unfold fromL at *
    rw [h] at hl ⊢
    exact ⟨by simp, hl, ho⟩

/-- The shortest cycle so far, and what is to be beaten. -/
def shortTo (nx srcs : List (List Nat)) (n : Nat) : Nat → List Nat × Nat
  | 0 => ([], n + 1)
  | k + 1 => if (nb nx k).length = 0 then shortTo nx srcs n k else
    match fromL nx srcs k n (shortTo nx srcs n k).2 with
    | [] => shortTo nx srcs n k
    | a :: l => (a :: l, (a :: l).length)
def shortL (nx srcs : List (List Nat)) (n : Nat) : List Nat := (shortTo nx srcs n n).1
theorem short_le (nx srcs : List (List Nat)) (n : Nat) : ∀ k, (shortTo nx srcs n k).2 ≤ n + 1
  | 0 => Nat.le_refl _
  | k + 1 => by
    have h1 := short_le nx srcs n k
    have h2 := from_len (nx := nx) (srcs := srcs) (s := k) (n := n) (below := (shortTo nx srcs n k).2)
    rw [shortTo]
    split
    · exact h1
    · split
      · exact h1
      · rename_i a l h
        rw [h] at h2
        show (a :: l).length ≤ _
        omega
theorem info_groups : (Tryd.prog.info? 87).map (fun i => (i.zero, i.size, i.bytes)) = some (some (.slice none 0 0), 1, 24) := by kernel_rfl
theorem make_groups (n : Nat) (hn : n ≤ 100000) : ∀ W : World, (Instr.makeSlice 86 (.int .i64 (n : Int)) (.int .i64 (n : Int))).run Tryd.prog W = .ok (.slice (some ⟨W.heap.size, 0, none⟩) n n) (W.alloc (.cells (Array.replicate n (.slice none 0 0)) 87)) := by
  obtain ⟨i, hi, hz, h1, h2⟩ := info_parts info_groups
  intro W
  have h := run_make_rowN 86 87 i _ Tryd.underlying86 hi hz .i64 .i64 n n (Nat.le_refl _) (by rw [h2]; omega) (by omega) W
  rw [h1, Nat.mul_one, made_one _ _ rfl] at h
  exact h
/-- The sources of the first k vertices stand in block gS. -/
def SrcTo (W : World) (gS n k : Nat) (srcs : List (List Nat)) : Prop := ∃ C : Array Value, W.heap[gS]? = some (.cells C 87 (0, 0)) ∧ C.size = n ∧ ∀ v, v < k → ∃ gv, C[v]? = some gv ∧ Groups W 0 gv (nb srcs v)
theorem SrcTo.all {W : World} {gS n : Nat} {srcs : List (List Nat)} (h : SrcTo W gS n n srcs) : Srcs W gS n srcs := fun v hv => by
  obtain ⟨C, h1, h2, h3⟩ := h
  obtain ⟨gv, h4, h5⟩ := h3 v hv
  exact ⟨gv, by rw [cell_of_row W gS v C _ (0, 0) h1, h4], h5⟩
theorem Groups.base0 {W : World} {B : Nat} {gv : Value} {l : List Nat} (h : Groups W B gv l) : Groups W 0 gv l := by
  rcases h with h | ⟨h1, gb, cap, h2, h3, h4⟩
  · exact .inl h
  · exact .inr ⟨h1, gb, cap, h2, Nat.zero_le _, h4⟩
theorem SrcTo.step {W W' : World} {gS n k : Nat} {srcs : List (List Nat)} {gv : Value} (h : SrcTo W gS n k srcs) (hk : k < n) (hB : Below W.heap.size W W') (hg : Groups W' W.heap.size gv (nb srcs k)) : SrcTo (W'.setCell ⟨gS, k, none⟩ gv) gS n (k + 1) srcs := by
  obtain ⟨C, h1, h2, h3⟩ := h
  have hl := heap_lt h1
  have hkeep : ∀ {x : Value} {l : List Nat}, Groups W' 0 x l → Groups (W'.setCell ⟨gS, k, none⟩ gv) 0 x l := by
    intro x l hx
    rcases hx with hx | ⟨e1, gb, cap, e2, e3, e4⟩
    · exact .inl hx
    · refine .inr ⟨e1, gb, cap, e2, e3, e4.keep (Below.heap_setCell W' _ _ gb ?_)⟩
      show gb ≠ gS
      rintro rfl
      obtain ⟨C', h5, _⟩ := e4
      rw [hB.block _ hl, h1] at h5
      injection h5 with h5
      injection h5 with _ h6
      cases h6
  refine ⟨C.setIfInBounds k gv, ?_, by simp [h2], fun v hv => ?_⟩
  · simp only [World.setCell, Array.getElem?_modify]
    rw [hB.block _ hl, h1]
    simp
  · rw [Array.getElem?_setIfInBounds]
    by_cases hvk : k = v
    · subst hvk
      exact ⟨gv, by rw [if_pos rfl, if_pos (by omega)], hkeep hg.base0⟩
    · obtain ⟨gx, h4, h5⟩ := h3 v (by omega)
      exact ⟨gx, by rw [if_neg hvk]; exact h4, hkeep (h5.keep fun b hb => hB.block b hb)⟩
end Go.Proofs.YtdebnnigbbjbcaaDoor

namespace Go.Proofs.YtdebnnigbbjbcaaDoor

/-- c can be reached from a. -/
inductive Rch (nx : List (List Nat)) : Nat → Nat → Prop
  | refl (a : Nat) : Rch nx a a
  | head {a b c : Nat} : b ∈ nb nx a → Rch nx b c → Rch nx a c
section
variable {nx : List (List Nat)} {a b c : Nat}
theorem Rch.trans (h : Rch nx a b) (k : Rch nx b c) : Rch nx a c := by
  induction h with
  | refl => exact k
  | head e _ ih => exact .head e (ih k)
theorem Rch.tail (h : Rch nx a b) (e : c ∈ nb nx b) : Rch nx a c := h.trans (.head e (.refl c))
theorem Rch.one (e : b ∈ nb nx a) : Rch nx a b := .head e (.refl b)
/-- What holds at a and goes along the edges holds at c. -/
theorem Rch.along {P : Nat → Prop} (h : Rch nx a c) (ha : P a) (hs : ∀ x y, P x → y ∈ nb nx x → P y) : P c := by
  induction h with
  | refl => exact ha
  | head e _ ih => exact ih (hs _ _ ha e)
/-- A way out of P leaves it by an edge. -/
theorem Rch.leaves {P : Nat → Prop} (h : Rch nx a c) (ha : P a) (hc : ¬ P c) : ∃ x y, Rch nx a x ∧ P x ∧ y ∈ nb nx x ∧ ¬ P y := by
  induction h with
  | refl => exact absurd ha hc
  | head e _ ih =>
    rename_i a' b' c' _
    rcases Classical.em (P b') with hb | hb
    · obtain ⟨x, y, h1, h2, h3, h4⟩ := ih hb hc
      exact ⟨x, y, .head e h1, h2, h3, h4⟩
    · exact ⟨a', b', .refl _, ha, e, hb⟩
theorem nb_lt (hg : Good nx) (e : b ∈ nb nx a) : b < nx.length := by
  unfold nb at e
  rcases Nat.lt_or_ge a nx.length with h | h
  · rw [List.getElem?_eq_getElem h] at e
    exact (hg _ (List.getElem_mem h)).2 b e
  · rw [List.getElem?_eq_none h] at e
    cases e
theorem Rch.lt (hg : Good nx) (h : Rch nx a c) (ha : a < nx.length) : c < nx.length := h.along (P := (· < nx.length)) ha fun _ _ _ e => nb_lt hg e
end
/-- Reachability against the edges. -/
theorem rch_preds {nx : List (List Nat)} (hg : Good nx) {a c : Nat} : Rch (preds nx) a c ↔ Rch nx c a := by
  constructor
  · intro h
    induction h with
    | refl => exact .refl _
    | head e _ ih => exact ih.tail ((nb_preds nx hg _ _).1 e)
  · intro h
    induction h with
    | refl => exact .refl _
    | head e _ ih => exact ih.tail ((nb_preds nx hg _ _).2 e)

/-- x is marked (what is no vertex is). -/
def Sn (s : List Bool × List Nat) (x : Nat) : Prop := s.1[x]?.getD true = true
theorem sn_set {s : List Bool × List Nat} {v : Nat} (x : Nat) (out : List Nat) : Sn (s.1.set v true, out) x ↔ x = v ∨ Sn s x := by
  unfold Sn
  by_cases e : v = x
  · subst e
    by_cases hl : v < s.1.length
    · rw [List.getElem?_set_self hl]
      simp
    · rw [List.getElem?_eq_none (by simpa using Nat.le_of_not_lt hl)]
      simp
  · rw [List.getElem?_set_ne e]
    constructor
    · exact fun h => .inr h
    · rintro (h | h)
      · exact absurd h.symm e
      · exact h
/-- What a search of the roots l from s to t leaves: seg. -/
structure Runs (nx : List (List Nat)) (l : List Nat) (s t : List Bool × List Nat) (seg : List Nat) : Prop where
  out : t.2 = s.2 ++ seg
  seen : ∀ x, Sn t x ↔ Sn s x ∨ x ∈ seg
  fresh : ∀ x ∈ seg, ¬ Sn s x
  nodup : seg.Nodup
  comes : ∀ x ∈ seg, ∃ v ∈ l, Rch nx v x
  closed : ∀ x ∈ seg, ∀ y ∈ nb nx x, Sn t y
  roots : ∀ v ∈ l, Sn t v
/-- All that is marked is grey, or its successors are marked. -/
def Cl (nx : List (List Nat)) (G : Nat → Prop) (s : List Bool × List Nat) : Prop := ∀ a, Sn s a → G a ∨ ∀ y ∈ nb nx a, Sn s y
/-- The order in which the search leaves. -/
def KQ (nx : List (List Nat)) (G : Nat → Prop) (seg : List Nat) : Prop := ∀ A r B, seg = A ++ r :: B → ∀ u ∈ A, Rch nx u r → Rch nx r u ∨ (∃ u' ∈ B, Rch nx u u' ∧ Rch nx u' u) ∨ ∃ g, G g ∧ Rch nx u g
theorem split_append {S T A B : List Nat} {r : Nat} (h : S ++ T = A ++ r :: B) : (∃ B1, S = A ++ r :: B1 ∧ B = B1 ++ T) ∨ ∃ A2, T = A2 ++ r :: B ∧ A = S ++ A2 := by
  rcases List.append_eq_append_iff.1 h with ⟨L1, h1, h2⟩ | ⟨bs, h1, h2⟩
  · exact .inr ⟨L1, h2, h1⟩
  · cases bs with
    | nil =>
      refine .inr ⟨[], ?_, ?_⟩
      · simpa using h2.symm
      · simpa using h1.symm
    | cons b bs =>
      rw [List.cons_append] at h2
      injection h2 with h3 h4
      subst h3
      exact .inl ⟨bs, h1, h4⟩
theorem Runs.mono {nx : List (List Nat)} {l seg : List Nat} {s t : List Bool × List Nat} (h : Runs nx l s t seg) (x : Nat) (hx : Sn s x) : Sn t x := (h.seen x).2 (.inl hx)
theorem Runs.cl {nx : List (List Nat)} {l seg : List Nat} {s t : List Bool × List Nat} {G : Nat → Prop} (h : Runs nx l s t seg) (hc : Cl nx G s) : Cl nx G t := fun a ha => by
  rcases (h.seen a).1 ha with h1 | h1
  · rcases hc a h1 with h2 | h2
    · exact .inl h2
    · exact .inr fun y hy => h.mono y (h2 y hy)
  · exact .inr fun y hy => h.closed a h1 y hy
theorem runs_nil (nx : List (List Nat)) (s : List Bool × List Nat) (l : List Nat) (hl : ∀ v ∈ l, Sn s v) : Runs nx l s s [] :=
  ⟨by simp, fun _ => by simp, (fun x h => by cases h), List.nodup_nil, (fun x h => by cases h), (fun x h => by cases h), hl⟩
theorem kq_nil (nx : List (List Nat)) (G : Nat → Prop) : KQ nx G [] := fun A r B h => by
  have := congrArg List.length h
  simp at this
theorem runs_list {nx : List (List Nat)} {f : Nat} (ih : ∀ v s (G : Nat → Prop), unv s.1 < f → Cl nx G s → ∃ seg, Runs nx [v] s (dfs nx f v s) seg ∧ KQ nx G seg) :
    ∀ l s (G : Nat → Prop), unv s.1 < f → Cl nx G s → ∃ seg, Runs nx l s (dfsL nx f l s) seg ∧ KQ nx G seg
  | [], s, G, _, _ => ⟨[], runs_nil nx s [] (fun v h => by cases h), kq_nil nx G⟩
  | v :: vs, s, G, hu, hc => by
    obtain ⟨s1, hs1⟩ : ∃ s1, dfs nx f v s = s1 := ⟨_, rfl⟩
    obtain ⟨g1, r1, q1⟩ := ih v s G hu hc
    have hst := (dfs_step nx f v s).unv_
    rw [hs1] at r1 hst
    obtain ⟨g2, r2, q2⟩ := runs_list ih vs s1 G (by omega) (r1.cl hc)
    have hL : dfsL nx f (v :: vs) s = dfsL nx f vs s1 := by rw [← hs1]; rfl
    obtain ⟨t, ht⟩ : ∃ t, dfsL nx f vs s1 = t := ⟨_, rfl⟩
    rw [hL]
    rw [ht] at r2 ⊢
    refine ⟨g1 ++ g2, ⟨?_, ?_, ?_, ?_, ?_, ?_, ?_⟩, ?_⟩
    · rw [r2.out, r1.out, List.append_assoc]
    · intro x
      rw [r2.seen, r1.seen, List.mem_append]
      constructor
      · rintro ((h | h) | h)
        · exact .inl h
        · exact .inr (.inl h)
        · exact .inr (.inr h)
      · rintro (h | h | h)
        · exact .inl (.inl h)
        · exact .inl (.inr h)
        · exact .inr h
    · intro x hx
      rcases List.mem_append.1 hx with hx | hx
      · exact r1.fresh x hx
      · exact fun h => r2.fresh x hx (r1.mono x h)
    · rw [List.nodup_append]
      exact ⟨r1.nodup, r2.nodup, fun a ha b hb e => r2.fresh b hb ((r1.seen b).2 (.inr (e ▸ ha)))⟩
    · intro x hx
      rcases List.mem_append.1 hx with hx | hx
      · obtain ⟨w, hw, h⟩ := r1.comes x hx
        rw [List.mem_singleton] at hw
        exact ⟨w, by simp [hw], h⟩
      · obtain ⟨w, hw, h⟩ := r2.comes x hx
        exact ⟨w, by simp [hw], h⟩
    · intro x hx y hy
      rcases List.mem_append.1 hx with hx | hx
      · exact r2.mono y (r1.closed x hx y hy)
      · exact r2.closed x hx y hy
    · intro w hw
      rcases List.mem_cons.1 hw with hw | hw
      · exact r2.mono w (r1.roots w (by simp [hw]))
      · exact r2.roots w hw
    · intro A r B h u hA hr
      rcases split_append h with ⟨B1, h1, h2⟩ | ⟨A2, h1, h2⟩
      · rcases q1 A r B1 h1 u hA hr with h3 | ⟨u', h3, h4⟩ | h3
        · exact .inl h3
        · exact .inr (.inl ⟨u', by rw [h2]; exact List.mem_append_left _ h3, h4⟩)
        · exact .inr (.inr h3)
      · rw [h2] at hA
        rcases List.mem_append.1 hA with hA | hA
        · have hrf : ¬ Sn s1 r := r2.fresh r (by rw [h1]; simp)
          have hus : Sn s1 u := (r1.seen u).2 (.inr hA)
          obtain ⟨x, y, h3, h4, h5, h6⟩ := hr.leaves (P := Sn s1) hus hrf
          rcases r1.cl hc x h4 with h7 | h7
          · exact .inr (.inr ⟨x, h7, h3⟩)
          · exact absurd (h7 y h5) h6
        · exact q2 A2 r B h1 u hA hr
theorem dfs_runs (nx : List (List Nat)) : ∀ (f v : Nat) (s : List Bool × List Nat) (G : Nat → Prop), unv s.1 < f → Cl nx G s → ∃ seg, Runs nx [v] s (dfs nx f v s) seg ∧ KQ nx G seg
  | 0, _, _, _, h, _ => absurd h (by omega)
  | f + 1, v, s, G, hu, hc => by
    by_cases h : s.1[v]?.getD true = true
    · rw [dfs_seen nx f v s h]
      exact ⟨[], runs_nil nx s [v] (fun w hw => by rw [List.mem_singleton] at hw; subst hw; exact h), kq_nil nx G⟩
    · have hv : s.1[v]? = some false := by
        cases hs : s.1[v]? with
        | none => rw [hs] at h; simp at h
        | some b => rw [hs] at h; cases b <;> simp_all
      have h2 := unv_set s.1 v hv
      rw [dfs_new nx f v s hv]
      obtain ⟨s0, hs0⟩ : ∃ s0, (s.1.set v true, s.2) = s0 := ⟨_, rfl⟩
      have hsn : ∀ x, Sn s0 x ↔ x = v ∨ Sn s x := fun x => by rw [← hs0]; exact sn_set x s.2
      have hu0 : unv s0.1 < f := by rw [← hs0]; simp only; omega
      have ho0 : s0.2 = s.2 := by rw [← hs0]
      obtain ⟨seg, r, q⟩ := runs_list (dfs_runs nx f) (nb nx v) s0 (fun x => G x ∨ x = v) hu0 (fun a ha => by
        rcases (hsn a).1 ha with h3 | h3
        · exact .inl (.inr h3)
        · rcases hc a h3 with h4 | h4
          · exact .inl (.inl h4)
          · exact .inr fun y hy => (hsn y).2 (.inr (h4 y hy)))
      rw [hs0]
      obtain ⟨t, ht⟩ : ∃ t, dfsL nx f (nb nx v) s0 = t := ⟨_, rfl⟩
      rw [ht] at r ⊢
      have hcv : ∀ x ∈ seg, Rch nx v x := fun x hx => by
        obtain ⟨w, hw, h3⟩ := r.comes x hx
        exact .head hw h3
      have hvs : v ∉ seg := fun hm => r.fresh v hm ((hsn v).2 (.inl rfl))
      refine ⟨seg ++ [v], ⟨?_, ?_, ?_, ?_, ?_, ?_, ?_⟩, ?_⟩
      · show t.2 ++ [v] = s.2 ++ (seg ++ [v])
        rw [r.out, ho0, List.append_assoc]
      · intro x
        show Sn t x ↔ _
        rw [r.seen, hsn, List.mem_append, List.mem_singleton]
        constructor
        · rintro ((h3 | h3) | h3)
          · exact .inr (.inr h3)
          · exact .inl h3
          · exact .inr (.inl h3)
        · rintro (h3 | h3 | h3)
          · exact .inl (.inr h3)
          · exact .inr h3
          · exact .inl (.inl h3)
      · intro x hx
        rcases List.mem_append.1 hx with hx | hx
        · exact fun h3 => r.fresh x hx ((hsn x).2 (.inr h3))
        · rw [List.mem_singleton] at hx
          subst hx
          exact h
      · rw [List.nodup_append]
        exact ⟨r.nodup, by simp, fun a ha b hb e => by
          rw [List.mem_singleton] at hb
          subst hb
          exact hvs (e ▸ ha)⟩
      · intro x hx
        rcases List.mem_append.1 hx with hx | hx
        · exact ⟨v, by simp, hcv x hx⟩
        · rw [List.mem_singleton] at hx
          subst hx
          exact ⟨x, by simp, .refl _⟩
      · intro x hx y hy
        rcases List.mem_append.1 hx with hx | hx
        · exact r.closed x hx y hy
        · rw [List.mem_singleton] at hx
          subst hx
          exact r.roots y hy
      · intro w hw
        rw [List.mem_singleton] at hw
        subst hw
        exact r.mono w ((hsn w).2 (.inl rfl))
      · intro A r' B hs u hA hr
        rcases split_append hs with ⟨B1, h3, h4⟩ | ⟨A2, h3, h4⟩
        · rcases q A r' B1 h3 u hA hr with h5 | ⟨u', h5, h6⟩ | ⟨g, h5 | h5, h6⟩
          · exact .inl h5
          · exact .inr (.inl ⟨u', by rw [h4]; exact List.mem_append_left _ h5, h6⟩)
          · exact .inr (.inr ⟨g, h5, h6⟩)
          · subst h5
            exact .inr (.inl ⟨g, by rw [h4]; simp, h6, hcv u (by rw [h3]; exact List.mem_append_left _ hA)⟩)
        · have hA2 : A2 = [] ∧ r' = v := by
            cases A2 with
            | nil =>
              rw [List.nil_append] at h3
              injection h3 with h5 h6
              exact ⟨rfl, h5.symm⟩
            | cons x xs =>
              have := congrArg List.length h3
              simp at this
          obtain ⟨rfl, rfl⟩ := hA2
          rw [h4, List.append_nil] at hA
          exact .inl (hcv u hA)
theorem dfsL_runs (nx : List (List Nat)) (f : Nat) (l : List Nat) (s : List Bool × List Nat) (G : Nat → Prop) (hu : unv s.1 < f) (hc : Cl nx G s) : ∃ seg, Runs nx l s (dfsL nx f l s) seg ∧ KQ nx G seg := runs_list (dfs_runs nx f) l s G hu hc

theorem sn_rep (n x : Nat) : Sn (List.replicate n false, []) x ↔ n ≤ x := by
  unfold Sn
  simp only [List.getElem?_replicate]
  by_cases h : x < n
  · rw [if_pos h]
    simp
    exact h
  · rw [if_neg h]
    simp
    omega
theorem cl_rep {nx : List (List Nat)} {n : Nat} (hl : nx.length = n) (G : Nat → Prop) : Cl nx G (List.replicate n false, []) := fun a ha => .inr fun y hy => by
  rw [sn_rep] at ha
  unfold nb at hy
  rw [List.getElem?_eq_none (by omega)] at hy
  cases hy
/-- A search from the roots l leaves just what can be reached from them, each once. -/
theorem dfsL_reach (nx : List (List Nat)) (n : Nat) (hl : nx.length = n) (l : List Nat) (hr : ∀ v ∈ l, v < n) (hg : Good nx) (x : Nat) : x ∈ (dfsL nx (n + 1) l (List.replicate n false, [])).2 ↔ ∃ v ∈ l, Rch nx v x := by
  obtain ⟨seg, r, _⟩ := dfsL_runs nx (n + 1) l (List.replicate n false, []) (fun _ => False) (by rw [unv_rep]; omega) (cl_rep hl _)
  rw [r.out]
  simp only [List.nil_append]
  constructor
  · exact r.comes x
  · rintro ⟨v, hv, h⟩
    have hcl := r.cl (cl_rep (G := fun _ => False) hl)
    have h1 := h.along (P := Sn _) (r.roots v hv) (fun a b ha hb => (hcl a ha).elim (fun h => h.elim) fun h => h b hb)
    rcases (r.seen x).1 h1 with h2 | h2
    · rw [sn_rep] at h2
      have := h.lt hg (by rw [hl]; exact hr v hv)
      omega
    · exact h2
theorem dfsL_nodup (nx : List (List Nat)) (n : Nat) (hl : nx.length = n) (l : List Nat) : (dfsL nx (n + 1) l (List.replicate n false, [])).2.Nodup := by
  obtain ⟨seg, r, _⟩ := dfsL_runs nx (n + 1) l (List.replicate n false, []) (fun _ => False) (by rw [unv_rep]; omega) (cl_rep hl _)
  rw [r.out]
  exact r.nodup
end Go.Proofs.YtdebnnigbbjbcaaDoor

namespace Go.Proofs.YtdebnnigbbjbcaaDoor

/-- Each can be reached from the other. -/
def Both (nx : List (List Nat)) (a b : Nat) : Prop := Rch nx a b ∧ Rch nx b a
theorem Both.refl (nx : List (List Nat)) (a : Nat) : Both nx a a := ⟨.refl a, .refl a⟩
theorem Both.symm {nx : List (List Nat)} {a b : Nat} (h : Both nx a b) : Both nx b a := ⟨h.2, h.1⟩
theorem Both.trans {nx : List (List Nat)} {a b c : Nat} (h : Both nx a b) (k : Both nx b c) : Both nx a c := ⟨h.1.trans k.1, k.2.trans h.2⟩
/-- The component of v. -/
noncomputable def cls (nx : List (List Nat)) (v : Nat) : List Nat := (List.range nx.length).filter fun w => @decide (Both nx v w) (Classical.propDecidable _)
theorem cls_mem {nx : List (List Nat)} {v w : Nat} : w ∈ cls nx v ↔ w < nx.length ∧ Both nx v w := by
  unfold cls
  rw [List.mem_filter, List.mem_range]
  constructor
  · exact fun h => ⟨h.1, @of_decide_eq_true _ (Classical.propDecidable _) h.2⟩
  · exact fun h => ⟨h.1, @decide_eq_true _ (Classical.propDecidable _) h.2⟩
theorem cls_sorted (nx : List (List Nat)) (v : Nat) : (cls nx v).Pairwise (· < ·) := List.Pairwise.filter _ (range_sorted _)
theorem cls_eq {nx : List (List Nat)} {v w : Nat} (h : Both nx v w) : cls nx v = cls nx w := sorted_ext_nat _ _ (cls_sorted nx v) (cls_sorted nx w) fun x => by
  rw [cls_mem, cls_mem]
  exact ⟨fun k => ⟨k.1, h.symm.trans k.2⟩, fun k => ⟨k.1, h.trans k.2⟩⟩
theorem cls_of_eq {nx : List (List Nat)} {v w : Nat} (hv : v < nx.length) (h : cls nx v = cls nx w) : Both nx w v := by
  have : v ∈ cls nx v := cls_mem.2 ⟨hv, .refl nx v⟩
  rw [h] at this
  exact (cls_mem.1 this).2
theorem sortN_sorted {l : List Nat} (h : l.Nodup) : (sortN l).Pairwise (· < ·) := by
  unfold sortN
  have h1 := List.pairwise_mergeSort (le := fun x y : Nat => decide (x ≤ y)) (by intro a b c h1 h2; simp at *; omega) (by intro a b; simp; omega) l
  have h2 : (l.mergeSort fun x y => decide (x ≤ y)).Nodup := (List.mergeSort_perm l _).nodup_iff.2 h
  have h3 := h1.and h2
  refine h3.imp ?_
  intro a b ⟨h4, h5⟩
  simp only [decide_eq_true_eq] at h4
  omega
theorem sortN_mem {l : List Nat} {x : Nat} : x ∈ sortN l ↔ x ∈ l := by
  unfold sortN
  exact (List.mergeSort_perm l _).mem_iff

theorem left_mem (nx : List (List Nat)) (hg : Good nx) (x : Nat) : x ∈ leftOf nx ↔ x < nx.length := by
  unfold leftOf
  rw [dfsL_reach nx nx.length rfl _ (fun v hv => List.mem_range.1 hv) hg]
  constructor
  · rintro ⟨v, hv, h⟩
    exact h.lt hg (List.mem_range.1 hv)
  · exact fun h => ⟨x, List.mem_range.2 h, .refl x⟩
theorem left_kq (nx : List (List Nat)) : KQ nx (fun _ => False) (leftOf nx) := by
  obtain ⟨seg, r, q⟩ := dfsL_runs nx (nx.length + 1) (List.range nx.length) (List.replicate nx.length false, []) (fun _ => False) (by rw [unv_rep]; omega) (cl_rep rfl _)
  have := r.out
  rw [List.nil_append] at this
  unfold leftOf
  rw [this]
  exact q
/-- What reaches a vertex of the beginning lies in a component of the beginning. -/
theorem left_before {nx : List (List Nat)} (hg : Good nx) {P rest : List Nat} (h : P ++ rest = (leftOf nx).reverse) {p y : Nat} (hp : p ∈ P) (hy : y < nx.length) (hr : Rch nx y p) : ∃ q ∈ P, Both nx y q := by
  have hm : y ∈ P ++ rest := by rw [h, List.mem_reverse]; exact (left_mem nx hg y).2 hy
  rcases List.mem_append.1 hm with hm | hm
  · exact ⟨y, hm, .refl nx y⟩
  · obtain ⟨P1, P2, e⟩ := List.append_of_mem hp
    have hl : leftOf nx = (rest.reverse ++ P2.reverse) ++ p :: P1.reverse := by
      rw [← List.reverse_reverse (leftOf nx), ← h, e]
      simp
    rcases left_kq nx _ p _ hl y (by simp [hm]) hr with h1 | ⟨u, h1, h2⟩ | ⟨_, h1, _⟩
    · exact ⟨p, hp, hr, h1⟩
    · exact ⟨u, by rw [e]; simp at h1; simp [h1], h2⟩
    · exact h1.elim
/-- What holds after the roots P. -/
structure CF (nx : List (List Nat)) (P : List Nat) (st : List Bool × List (List Nat)) : Prop where
  len : st.1.length = nx.length
  seen : ∀ x, x < nx.length → (Sn (st.1, []) x ↔ ∃ p ∈ P, Both nx x p)
  mem : ∀ c, c ∈ st.2 ↔ ∃ p ∈ P, c = cls nx p
  nodup : st.2.Nodup
theorem sn_out {m : List Bool} {x : Nat} (h : m.length ≤ x) : Sn (m, []) x := by
  unfold Sn
  rw [List.getElem?_eq_none h]
  rfl
theorem unv_le (m : List Bool) : unv m ≤ m.length := List.length_filter_le _ _
theorem CF.step {nx : List (List Nat)} (hg : Good nx) {P rest : List Nat} {v : Nat} {st : List Bool × List (List Nat)} (h : CF nx P st) (hl : P ++ v :: rest = (leftOf nx).reverse) : CF nx (P ++ [v]) (compStep (preds nx) nx.length st v) := by
  have hl2 : (P ++ [v]) ++ rest = (leftOf nx).reverse := by rw [← hl]; simp
  have hvn : v < nx.length := (left_mem nx hg v).1 (by rw [← List.mem_reverse, ← hl]; simp)
  have hcl : Cl (preds nx) (fun _ => False) (st.1, []) := fun a ha => .inr fun y hy => by
    have hya := (nb_preds nx hg y a).1 hy
    have hyn : y < nx.length := by
      have := nb_lt (preds_good nx) hy
      rwa [preds_len] at this
    have han : a < nx.length := nb_lt hg hya
    obtain ⟨p, hp, hap⟩ := (h.seen a han).1 ha
    obtain ⟨q, hq, hyq⟩ := left_before hg hl hp hyn ((Rch.one hya).trans hap.1)
    exact (h.seen y hyn).2 ⟨q, hq, hyq⟩
  obtain ⟨seg, r, _⟩ := dfs_runs (preds nx) (nx.length + 1) v (st.1, []) (fun _ => False) (by have := unv_le st.1; have := h.len; simp only; omega) hcl
  have hst := (dfs_step (preds nx) (nx.length + 1) v (st.1, [])).len
  unfold compStep
  obtain ⟨t, ht⟩ : ∃ t, dfs (preds nx) (nx.length + 1) v (st.1, []) = t := ⟨_, rfl⟩
  rw [ht] at r hst ⊢
  have ho : t.2 = seg := by rw [r.out]; rfl
  have htn : t.1.length = nx.length := hst.trans h.len
  have hsn : ∀ x, Sn (t.1, []) x ↔ Sn t x := fun x => Iff.rfl
  by_cases hv : Sn (st.1, []) v
  · have hs : seg = [] := by
      have h1 := dfs_seen (preds nx) nx.length v (st.1, []) hv
      rw [ht] at h1
      rw [← ho, h1]
    have hts : t.1 = st.1 := by
      have h1 := dfs_seen (preds nx) nx.length v (st.1, []) hv
      rw [ht] at h1
      rw [h1]
    obtain ⟨p, hp, hvp⟩ := (h.seen v hvn).1 hv
    rw [ho, hs, if_pos rfl, hts]
    refine ⟨h.len, fun x hx => ?_, fun c => ?_, h.nodup⟩
    · rw [h.seen x hx]
      constructor
      · rintro ⟨q, hq, hb⟩
        exact ⟨q, List.mem_append_left _ hq, hb⟩
      · rintro ⟨q, hq, hb⟩
        rcases List.mem_append.1 hq with hq | hq
        · exact ⟨q, hq, hb⟩
        · rw [List.mem_singleton] at hq
          subst hq
          exact ⟨p, hp, hb.trans hvp⟩
    · rw [h.mem]
      constructor
      · rintro ⟨q, hq, hb⟩
        exact ⟨q, List.mem_append_left _ hq, hb⟩
      · rintro ⟨q, hq, hb⟩
        rcases List.mem_append.1 hq with hq | hq
        · exact ⟨q, hq, hb⟩
        · rw [List.mem_singleton] at hq
          subst hq
          exact ⟨p, hp, hb.trans (cls_eq hvp)⟩
  · have hseg : ∀ x, x ∈ seg ↔ x < nx.length ∧ Both nx v x := by
      intro x
      constructor
      · intro hx
        obtain ⟨w, hw, hr⟩ := r.comes x hx
        rw [List.mem_singleton] at hw
        subst hw
        have hrx := (rch_preds hg).1 hr
        have hxn : x < nx.length := by
          rcases Nat.lt_or_ge x nx.length with h1 | h1
          · exact h1
          · exact absurd (sn_out (by rw [h.len]; exact h1)) (r.fresh x hx)
        obtain ⟨q, hq, hb⟩ := left_before hg hl2 (p := w) (by simp) hxn hrx
        rcases List.mem_append.1 hq with hq | hq
        · exact absurd ((h.seen x hxn).2 ⟨q, hq, hb⟩) (r.fresh x hx)
        · rw [List.mem_singleton] at hq
          subst hq
          exact ⟨hxn, hb.symm⟩
      · rintro ⟨hxn, hb⟩
        have hct := r.cl hcl
        have h1 := ((rch_preds hg).2 hb.2).along (P := Sn t) (r.roots v (by simp)) (fun a b ha hb => (hct a ha).elim (fun h => h.elim) fun h => h b hb)
        rcases (r.seen x).1 h1 with h2 | h2
        · obtain ⟨p, hp, hxp⟩ := (h.seen x hxn).1 h2
          exact absurd ((h.seen v hvn).2 ⟨p, hp, hb.trans hxp⟩) hv
        · exact h2
    have hne : seg ≠ [] := fun e => by
      have := (hseg v).2 ⟨hvn, .refl nx v⟩
      rw [e] at this
      cases this
    have hcs : sortN seg = cls nx v := sorted_ext_nat _ _ (sortN_sorted r.nodup) (cls_sorted nx v) fun x => by rw [sortN_mem, hseg, cls_mem]
    rw [ho, if_neg hne, hcs]
    refine ⟨htn, fun x hx => ?_, fun c => ?_, ?_⟩
    · rw [hsn, r.seen, h.seen x hx, hseg]
      constructor
      · rintro (⟨q, hq, hb⟩ | ⟨_, hb⟩)
        · exact ⟨q, List.mem_append_left _ hq, hb⟩
        · exact ⟨v, by simp, hb.symm⟩
      · rintro ⟨q, hq, hb⟩
        rcases List.mem_append.1 hq with hq | hq
        · exact .inl ⟨q, hq, hb⟩
        · rw [List.mem_singleton] at hq
          subst hq
          exact .inr ⟨hx, hb.symm⟩
    · rw [List.mem_append, h.mem, List.mem_singleton]
      constructor
      · rintro (⟨q, hq, hb⟩ | hb)
        · exact ⟨q, List.mem_append_left _ hq, hb⟩
        · exact ⟨v, by simp, hb⟩
      · rintro ⟨q, hq, hb⟩
        rcases List.mem_append.1 hq with hq | hq
        · exact .inl ⟨q, hq, hb⟩
        · rw [List.mem_singleton] at hq
          subst hq
          exact .inr hb
    · rw [List.nodup_append]
      refine ⟨h.nodup, by simp, fun a ha b hb e => ?_⟩
      rw [List.mem_singleton] at hb
      subst hb
      subst e
      obtain ⟨p, hp, hc⟩ := (h.mem _).1 ha
      exact hv ((h.seen v hvn).2 ⟨p, hp, (cls_of_eq hvn hc).symm⟩)
theorem CF.all {nx : List (List Nat)} (hg : Good nx) : ∀ (rest P : List Nat) (st : List Bool × List (List Nat)), CF nx P st → P ++ rest = (leftOf nx).reverse → CF nx (leftOf nx).reverse (compFold (preds nx) nx.length rest st)
  | [], P, st, h, e => by
    rw [List.append_nil] at e
    rw [← e]
    exact h
  | v :: rest, P, st, h, e => CF.all hg rest (P ++ [v]) _ (h.step hg e) (by rw [← e]; simp)
/-- The parts are the components, each once. -/
theorem parts_are {nx : List (List Nat)} (hg : Good nx) : (∀ c, c ∈ partsOf nx ↔ ∃ v, v < nx.length ∧ c = cls nx v) ∧ (partsOf nx).Nodup := by
  have h := CF.all hg (leftOf nx).reverse [] (List.replicate nx.length false, []) ⟨by simp, fun x hx => by
    rw [sn_rep]
    simp
    omega, fun c => by simp, List.nodup_nil⟩ rfl
  refine ⟨fun c => ?_, h.nodup⟩
  unfold partsOf
  rw [h.mem]
  constructor
  · rintro ⟨p, hp, e⟩
    exact ⟨p, (left_mem nx hg p).1 (List.mem_reverse.1 hp), e⟩
  · rintro ⟨p, hp, e⟩
    exact ⟨p, List.mem_reverse.2 ((left_mem nx hg p).2 hp), e⟩

/-- The components by their smallest vertices. -/
noncomputable def comps (nx : List (List Nat)) : List (List Nat) := ((List.range nx.length).filter fun v => decide ((cls nx v)[0]? = some v)).map (cls nx)
theorem cls_form {nx : List (List Nat)} {v : Nat} (hv : v < nx.length) : ∃ x t, cls nx v = x :: t ∧ x < nx.length ∧ Both nx v x ∧ cls nx x = x :: t := by
  cases h : cls nx v with
  | nil =>
    have : v ∈ cls nx v := cls_mem.2 ⟨hv, .refl nx v⟩
    rw [h] at this
    cases this
  | cons x t =>
    have hx : x ∈ cls nx v := by rw [h]; simp
    have h1 := cls_mem.1 hx
    exact ⟨x, t, rfl, h1.1, h1.2, by rw [← cls_eq h1.2, h]⟩
theorem comps_mem {nx : List (List Nat)} (c : List Nat) : c ∈ comps nx ↔ ∃ v, v < nx.length ∧ c = cls nx v := by
  unfold comps
  rw [List.mem_map]
  constructor
  · rintro ⟨v, hv, rfl⟩
    exact ⟨v, List.mem_range.1 (List.mem_filter.1 hv).1, rfl⟩
  · rintro ⟨v, hv, rfl⟩
    obtain ⟨x, t, h1, h2, h3, h4⟩ := cls_form hv
    refine ⟨x, List.mem_filter.2 ⟨List.mem_range.2 h2, ?_⟩, (cls_eq h3).symm⟩
    rw [h4]
    simp
theorem comps_sorted (nx : List (List Nat)) : (comps nx).Pairwise (fun a b => cmpL a b < 0) := by
  unfold comps
  rw [List.pairwise_map]
  have h1 := List.Pairwise.filter (fun v => decide ((cls nx v)[0]? = some v)) (range_sorted nx.length)
  refine List.Pairwise.imp_of_mem ?_ h1
  intro a b ha hb hab
  have e1 := (List.mem_filter.1 ha).2
  have e2 := (List.mem_filter.1 hb).2
  simp only [decide_eq_true_eq] at e1 e2
  cases hA : cls nx a with
  | nil => rw [hA] at e1; cases e1
  | cons x t =>
    cases hB : cls nx b with
    | nil => rw [hB] at e2; cases e2
    | cons y u =>
      rw [hA] at e1
      rw [hB] at e2
      simp at e1 e2
      subst e1 e2
      simp [cmpL, hab]
/-- In order the parts are one list. -/
theorem parts_sorted {nx : List (List Nat)} (hg : Good nx) {ys : List (List Nat)} (hp : ys.Perm (partsOf nx)) (hs : ys.Pairwise (fun a b => cmpL a b ≤ 0)) : ys = comps nx := by
  obtain ⟨h1, h2⟩ := parts_are hg
  have hn : ys.Nodup := hp.nodup_iff.2 h2
  refine sorted_ext (fun a b => cmpL a b < 0) (fun x => by rw [cmpL_self]; omega) (fun x y z h3 h4 => ?_) ys (comps nx) ?_ (comps_sorted nx) fun c => by rw [hp.mem_iff, h1, comps_mem]
  · obtain ⟨h5, h6⟩ := cmpL_trans x y z (by omega) (by omega)
    rcases Int.lt_or_eq_of_le h5 with h7 | h7
    · exact h7
    · have := (h6 h7).1
      omega
  · refine (hs.and hn).imp ?_
    intro a b ⟨h3, h4⟩
    have := mt (cmpL_eq a b).1 h4
    omega
end Go.Proofs.YtdebnnigbbjbcaaDoor
