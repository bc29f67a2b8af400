/-
  The library's sort of a row of questions, in the words of lists. No function of the program but the sort.
-/
import Derived.Test.YtiokiecnglmbnaaK7
import Derived.Test.YtiokiecnglmbnaaK9
import Derived.Shelf.GgSortFunc.InsertionK
import Derived.Shelf.SlSortCmp.Insertion

namespace Go.Proofs.Ytiokiecnglmbnaa
open Go Go.RowKit Go.Sort Go.Proofs Go.Lib

instance : Inhabited NM.Qu := ⟨NM.q0⟩
def cfQ (x y : NM.Qu) : Int := NM.lexL (NM.quL x) (NM.quL y)
theorem ltOf_q (x y : NM.Qu) : ltOf cfQ x y = decide (TP.ltQ x y) := rfl
theorem swo_q : SWO (ltOf cfQ) where
  irrefl x := by rw [ltOf_q]; exact decide_eq_false (TP.ltQ_irr x)
  trans x y z h1 h2 := by
    rw [ltOf_q] at *
    exact decide_eq_true (TP.ltQ_trans (of_decide_eq_true h1) (of_decide_eq_true h2))
  ntrans x y z h1 h2 := by
    rw [ltOf_q] at *
    refine decide_eq_false fun h => ?_
    have n1 := of_decide_eq_false h1
    have n2 := of_decide_eq_false h2
    by_cases e1 : x = y
    · subst e1
      exact n2 h
    · by_cases e2 : y = z
      · subst e2
        exact n1 h
      · exact TP.ltQ_irr x (TP.ltQ_trans h (TP.ltQ_trans (TP.ltQ_tot n2 e2) (TP.ltQ_tot n1 e1)))
theorem flat_q (ss : List NM.Qu) : (flatK quC 5 ss.toArray).toList = ss.flatMap quC := by
  have hget : ∀ (l : List NM.Qu) (i o : Nat) (x : NM.Qu), l[i]? = some x → o < 5 → (l.flatMap quC)[i * 5 + o]? = (quC x)[o]? := by
    intro l
    induction l with
    | nil => intro i o x h _; simp at h
    | cons y t ih =>
      intro i o x h ho
      match i with
      | 0 =>
        simp only [List.getElem?_cons_zero, Option.some.injEq] at h
        subst h
        show (quC y ++ t.flatMap quC)[0 * 5 + o]? = _
        rw [Nat.zero_mul, Nat.zero_add, List.getElem?_append_left (by exact ho)]
      | i + 1 =>
        show (quC y ++ t.flatMap quC)[(i + 1) * 5 + o]? = _
        rw [List.getElem?_append_right (by show 5 ≤ _; omega), show (i + 1) * 5 + o - (quC y).length = i * 5 + o by show _ - 5 = _; omega]
        exact ih i o x (by simpa using h) ho
  have hlen : ∀ l : List NM.Qu, (l.flatMap quC).length = l.length * 5 := by
    intro l
    induction l with
    | nil => rfl
    | cons y t ih =>
      show (quC y ++ t.flatMap quC).length = _
      rw [List.length_append, ih, List.length_cons]
      show 5 + _ = _
      omega
  apply List.ext_getElem?
  intro t
  by_cases ht : t < ss.length * 5
  · have hi : t / 5 < ss.length := by omega
    have h1 := hget ss (t / 5) (t % 5) ss[t / 5] (List.getElem?_eq_getElem hi) (by omega)
    rw [show t / 5 * 5 + t % 5 = t by omega] at h1
    rw [h1, Array.getElem?_toList, Array.getElem?_eq_getElem (by rw [size_flatK]; simpa using ht), ← getElem!_pos (flatK quC 5 ss.toArray) t (by rw [size_flatK]; simpa using ht), get_flatK _ _ _ _ (by simpa using ht), getElem!_pos ss.toArray (t / 5) (by simpa using hi)]
    have hl : (quC ss[t / 5]).length = 5 := rfl
    rw [List.getElem_toArray, getElem!_pos _ (t % 5) (by rw [hl]; omega), List.getElem?_eq_getElem (by rw [hl]; omega)]
  · rw [List.getElem?_eq_none (by rw [Array.length_toList, size_flatK]; simpa using ht), List.getElem?_eq_none (by rw [hlen]; omega)]
def ShSortQ : Prop := ∀ (blk cap : Nat) (d : Array NM.Qu) (w : World), HoldsK quC 5 w blk 0 d → blk < w.heap.size → d.size < 4611686018427387904 →
  Calls Try.prog 90 #[.slice (some ⟨blk, 0, none⟩) d.size cap, .func (.func 39) #[] #[]] w fun e w' => e = .returned (.tuple #[]) ∧ ∃ d' n os, PermIn 0 d.size d d' ∧ SortedIn (ltOf cfQ) 0 d.size d' ∧ w' = sortWorldK quC 5 w blk 0 n d' os
def ShNoneQ : Prop := ∀ (A : Option Addr) (c : Nat) (w : World), Calls Try.prog 90 #[.slice A 0 c, .func (.func 39) #[] #[]] w fun e w' => e = .returned (.tuple #[]) ∧ w' = w
section
variable {α : Type} [Inhabited α]
theorem heap_srtQ {enc : α → Value} {w : World} {g n : Nat} {os : Array Obj} {cur : Array Value} {e : TypeId} {fr : Nat × Nat} (d : Array α) (hb : w.heap[g]? = some (.cells cur e fr)) :
    (grow (putRow enc (Sort.ahead w n) g 0 d) os).heap[g]? = some (.cells (putCells enc 0 d cur) e fr) := by
  have hg : g < w.heap.size := (Array.getElem?_eq_some_iff.1 hb).1
  rw [heap_grow_old _ _ (by simpa using hg)]
  simp [putRow, mapBlock, Sort.ahead, Array.getElem?_modify, hb, onCells]
theorem grown_srtQ {enc : α → Value} {w : World} {g n : Nat} {os : Array Obj} (d : Array α) : w.grownBy (grow (putRow enc (Sort.ahead w n) g 0 d) os) (some g) := by
  refine ⟨rfl, rfl, rfl, by simp, fun k hk hne => ?_⟩
  rw [heap_grow_old _ _ (by simpa using hk)]
  have : g ≠ k := fun e => hne (by rw [e])
  simp [putRow, mapBlock, Sort.ahead, Array.getElem?_modify, this]
theorem take_putQ {enc : α → Value} (cur : Array Value) (d : Array α) (h : d.size ≤ cur.size) : (putCells enc 0 d cur).toList.take d.size = d.toList.map enc := by
  apply List.ext_getElem?
  intro j
  by_cases hj : j < d.size
  · rw [List.getElem?_take_of_lt hj, Array.getElem?_toList]
    simp [putCells, hj, show j < cur.size by omega]
  · rw [List.getElem?_take_eq_none (by omega), List.getElem?_eq_none (by simp; omega)]
end
/-- The sort of a row of questions. -/
def SortQ : Prop := ∀ (base n c : Nat) (A : Option Addr) (ss : List NM.Qu) (W : World), W.ownsRow base 30 5 (.slice A n c) n (ss.flatMap quC) → ss.length = n → n ≤ 1000000 →
  Calls Try.prog 90 #[.slice A n c, .func (.func 39) #[] #[]] W fun e w' => e = .returned (.tuple #[]) ∧ ∃ ss' : List NM.Qu, ss'.Perm ss ∧ ss'.Pairwise (fun x y => ¬ TP.ltQ y x) ∧ w'.ownsRow base 30 5 (.slice A n c) n (ss'.flatMap quC) ∧ W.grownBy w' (Value.slice A n c).ownBlock
theorem sortQ_of (h1 : ShSortQ) (h0 : ShNoneQ) : SortQ := by
  intro base n c A ss W hrow hl hn
  rcases Nat.eq_zero_or_pos n with hz | hz
  · subst hz
    have he : ss = [] := List.eq_nil_of_length_eq_zero hl
    subst he
    refine (h0 A c W).mono ?_
    rintro e w' ⟨rfl, rfl⟩
    exact ⟨rfl, [], List.Perm.refl _, List.Pairwise.nil, hrow, ⟨rfl, rfl, rfl, Nat.le_refl _, fun _ _ _ => rfl⟩⟩
  · have hrow0 := hrow
    rcases hrow.2 with ⟨_, h00⟩ | ⟨b, cap, cur, hv, hb1, hb2, hb3, hb4, hb5, hb6⟩
    · omega
    · injection hv with hv1 hv2 hv3
      subst hv1 hv3
      have hbl := heap_lt hb2
      have hH : HoldsK quC 5 W b 0 ss.toArray := by
        intro t ht
        rw [size_flatK] at ht
        rw [Nat.zero_add]
        refine ⟨?_, by simp [World.frozen?, hb2]⟩
        have ht2 : t < n * 5 := by simpa [hl] using ht
        rw [cell_of_row W b t cur _ (0, 0) hb2, ← Array.getElem?_toList, ← List.getElem?_take_of_lt ht2, hb6, ← flat_q, Array.getElem?_toList, Array.getElem?_eq_getElem (by rw [size_flatK]; exact ht), ← getElem!_pos (flatK quC 5 ss.toArray) t (by rw [size_flatK]; exact ht)]
        rfl
      have hds : ss.toArray.size = n := by simpa using hl
      have hcon := h1 b c ss.toArray W hH hbl (by omega)
      rw [hds] at hcon
      refine hcon.mono ?_
      rintro e w' ⟨rfl, d', m, os, ⟨hp1, _, hp3⟩, hs', rfl⟩
      rw [hds] at hp1
      have hp : d'.toList.Perm ss := by
        have e1 : d'.extract 0 n = d' := by rw [← hp1]; simp
        have e2 : ss.toArray.extract 0 n = ss.toArray := by rw [← hds]; simp
        rw [e1, e2] at hp3
        exact hp3
      have hgr : W.grownBy (sortWorldK quC 5 W b 0 m d' os) (some b) := grown_srtQ (enc := id) (w := W) (g := b) (n := m) (os := os) (flatK quC 5 d')
      have hgb : (sortWorldK quC 5 W b 0 m d' os).heap[b]? = some (.cells (putCells id 0 (flatK quC 5 d') cur) 30 (0, 0)) := heap_srtQ (enc := id) (w := W) (g := b) (n := m) (os := os) (flatK quC 5 d') hb2
      have hfl : (flatK quC 5 d').toList = d'.toList.flatMap quC := flat_q d'.toList
      refine ⟨rfl, d'.toList, hp, ?_, ⟨?_, .inr ⟨b, c, _, rfl, hb1, hgb, hb3, hb4, ?_, ?_⟩⟩, hgr⟩
      · rw [List.pairwise_iff_getElem]
        intro i k hi hk' hik
        have hk2 : k < n := by simpa [hp1] using hk'
        have := hs' i k (Nat.zero_le _) hik hk2
        rw [getElem!_pos d' k (by omega), getElem!_pos d' i (by omega), ltOf_q] at this
        exact of_decide_eq_false this
      · rw [← hfl, Array.length_toList, size_flatK, hp1]
      · simp [putCells, hb5]
      · have := take_putQ (enc := id) cur (flatK quC 5 d') (by rw [size_flatK, hp1, hb5]; omega)
        rw [size_flatK, hp1, List.map_id, hfl] at this
        exact this
end Go.Proofs.Ytiokiecnglmbnaa
