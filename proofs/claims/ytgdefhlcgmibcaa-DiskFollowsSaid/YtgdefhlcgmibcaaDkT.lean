/-
  Slices of integers that may be written into; a row of five disks. No function of the program.
-/
import Derived.Test.YtgdefhlcgmibcaaDkP
namespace Go.Proofs.Ytgdefhlcgmibcaa
open Go Go.RowKit Go.Proofs

/-- Integers stay integers, disks stay. -/
def Tw (w w' : World) : Prop := ∀ (g : Nat) (C : Array Value) (t : TypeId), w.heap[g]? = some (Obj.cells C t (0, 0)) → ∃ C' : Array Value, w'.heap[g]? = some (Obj.cells C' t (0, 0)) ∧ (∀ (j : Nat) (v : Int), C[j]? = some (Value.int .i64 v) → ∃ v', C'[j]? = some (Value.int .i64 v')) ∧ (t = 26 → C' = C)
theorem Tw.refl (w : World) : Tw w w := fun _ C _ h => ⟨C, h, fun _ v hv => ⟨v, hv⟩, fun _ => rfl⟩
theorem Tw.trans {a b c : World} (h : Tw a b) (k : Tw b c) : Tw a c := fun g C t hg => by
  obtain ⟨C1, h1, h2, h3⟩ := h g C t hg
  obtain ⟨C2, k1, k2, k3⟩ := k g C1 t h1
  refine ⟨C2, k1, fun j v hv => ?_, fun ht => (k3 ht).trans (h3 ht)⟩
  obtain ⟨v', hv'⟩ := h2 j v hv
  exact k2 j v' hv'
theorem Tw.of_below {w w' : World} (h : Below w.heap.size w w') : Tw w w' := fun g C _ hg => ⟨C, (h.block g (blk_lt hg)).trans hg, fun _ v hv => ⟨v, hv⟩, fun _ => rfl⟩
theorem seg_int {C : Array Value} {o : Nat} {us : List Value} (hu : ∀ u ∈ us, ∃ v, u = Value.int .i64 v) (hl : o + us.length ≤ C.size) (j : Nat) (v : Int) (hv : C[j]? = some (Value.int .i64 v)) : ∃ v', (C.toList.take o ++ us ++ C.toList.drop (o + us.length)).toArray[j]? = some (Value.int .i64 v') := by
  rw [List.getElem?_toArray]
  have hs : (C.toList.take o).length = o := by rw [List.length_take, Array.length_toList]; omega
  by_cases h1 : j < o
  · rw [List.append_assoc, List.getElem?_append_left (by omega), List.getElem?_take, if_pos h1, Array.getElem?_toList]
    exact ⟨v, hv⟩
  · by_cases h2 : j < o + us.length
    · rw [List.append_assoc, List.getElem?_append_right (by omega), hs, List.getElem?_append_left (by omega)]
      obtain ⟨v', e⟩ := hu _ (List.getElem_mem (show j - o < us.length by omega))
      exact ⟨v', by rw [List.getElem?_eq_getElem (by omega), e]⟩
    · rw [List.getElem?_append_right (by rw [List.length_append]; omega), List.length_append, hs, List.getElem?_drop, show o + us.length + (j - (o + us.length)) = j by omega, Array.getElem?_toList]
      exact ⟨v, hv⟩
theorem Tw.of_store {w w' : World} {b o : Nat} {C : Array Value} {t : TypeId} {us : List Value} (hb : w.heap[b]? = some (.cells C t (0, 0))) (ht : t ≠ 26) (hu : ∀ u ∈ us, ∃ v, u = Value.int .i64 v) (hl : o + us.length ≤ C.size)
    (hn : w'.heap[b]? = some (.cells ((C.toList.take o ++ us ++ C.toList.drop (o + us.length)).toArray) t (0, 0))) (ho : ∀ k, k ≠ b → w'.heap[k]? = w.heap[k]?) : Tw w w' := fun g C1 t1 hg => by
  by_cases e : g = b
  · subst e
    rw [hb] at hg
    injection hg with hg
    injection hg with e1 e2
    subst e1
    subst e2
    exact ⟨_, hn, seg_int hu hl, fun h => absurd h ht⟩
  · exact ⟨C1, (ho g e).trans hg, fun _ v hv => ⟨v, hv⟩, fun _ => rfl⟩
/-- A slice whose cells are integers, in a block since lo; nil let in. -/
def IsI (t : TypeId) (sz lo : Nat) (w : World) (A : Option Addr) (n : Nat) : Prop := n = 0 ∨ ∃ (g off : Nat) (C : Array Value), A = some ⟨g, off, none⟩ ∧ lo ≤ g ∧ w.heap[g]? = some (Obj.cells C t (0, 0)) ∧ ∀ j, j < n * sz → ∃ v : Int, C[off + j]? = some (Value.int .i64 v)
theorem IsI.tw {t : TypeId} {sz lo n : Nat} {w w' : World} {A : Option Addr} (h : IsI t sz lo w A n) (hw : Tw w w') : IsI t sz lo w' A n := by
  rcases h with h | ⟨g, off, C, e, hl, hg, hc⟩
  · exact .inl h
  · obtain ⟨C', h1, h2, _⟩ := hw g C t hg
    exact .inr ⟨g, off, C', e, hl, h1, fun j hj => by obtain ⟨v, hv⟩ := hc j hj; exact h2 _ v hv⟩
theorem Cls.isI {lo n c : Nat} {w : World} {A : Option Addr} {xs : List Int} (h : Cls lo w A n c xs) : IsI 3 1 lo w A n := by
  obtain ⟨h1, h2, _, h4⟩ := h
  rcases h4 with ⟨_, h4⟩ | ⟨g, off, C, e, hg, hc, hj⟩
  · exact .inl (by omega)
  · refine .inr ⟨g, off, C, e, hg, hc, fun j hjn => ?_⟩
    rw [DK.intsC_len] at h1
    refine ⟨_, hj j _ (by unfold DK.intsC; rw [List.getElem?_map, List.getElem?_eq_getElem (by omega)]; rfl)⟩
theorem Wrs.isI {lo n c : Nat} {w : World} {A : Option Addr} {ws : List DK.Wr} (h : Wrs lo w A n c ws) : IsI 46 2 lo w A n := by
  obtain ⟨h1, h2, _, h4⟩ := h
  rcases h4 with ⟨_, h4⟩ | ⟨g, off, C, e, hg, hc, hj⟩
  · exact .inl (by omega)
  · refine .inr ⟨g, off, C, e, hg, hc, fun j hjn => ?_⟩
    have hlt : j < (DK.wrsC ws).length := by omega
    have hu := hj j _ (List.getElem?_eq_getElem hlt)
    obtain ⟨x, _, hx⟩ := List.mem_flatMap.1 (List.getElem_mem hlt)
    simp [DK.wrC] at hx
    rcases hx with hx | hx
    · exact ⟨_, by rw [hu, hx]⟩
    · exact ⟨_, by rw [hu, hx]⟩
/-- A row of five disks that were made since block lo. -/
def ResAt (lo : Nat) (w : World) (g : Nat) : Prop := ∃ C : Array Value, w.heap[g]? = some (Obj.cells C 26 (0, 0)) ∧ ∀ i, i < 5 → ∃ A n c P m q, C[i * 2]? = some (Value.slice A n c) ∧ C[i * 2 + 1]? = some (Value.slice P m q) ∧ n ≤ 1000 ∧ m ≤ 1000 ∧ IsI 3 1 lo w A n ∧ IsI 46 2 lo w P m
theorem ResAt.tw {lo g : Nat} {w w' : World} (h : ResAt lo w g) (hw : Tw w w') : ResAt lo w' g := by
  obtain ⟨C, h1, h2⟩ := h
  obtain ⟨C', k1, _, k3⟩ := hw g C _ h1
  have e := k3 rfl
  subst e
  refine ⟨C', k1, fun i hi => ?_⟩
  obtain ⟨A, n, c, P, m, q, a1, a2, a3, a4, a5, a6⟩ := h2 i hi
  exact ⟨A, n, c, P, m, q, a1, a2, a3, a4, a5.tw hw, a6.tw hw⟩
def RgX.Sp.res (lo : Nat) : RgX.Sp := ⟨fun w x => ∃ g, x = .slice (some ⟨g, 0, none⟩) 5 5 ∧ ResAt lo w g, fun ⟨g, e, h⟩ hb => ⟨g, e, h.tw (Tw.of_below hb)⟩⟩
theorem res_new {lo : Nat} {w : World} {d : Nat → DK.Dk} {A P : Nat → Option Addr} {n c m q : Nat → Nat} (h : ∀ i, i < 5 → Cls lo w (A i) (n i) (c i) (d i).cells ∧ Wrs lo w (P i) (m i) (q i) (d i).pend) (hn : ∀ i, i < 5 → (d i).cells.length ≤ 1000 ∧ (d i).pend.length ≤ 1000) :
    ResAt lo (w.alloc (.cells #[.slice (A 0) (n 0) (c 0), .slice (P 0) (m 0) (q 0), .slice (A 1) (n 1) (c 1), .slice (P 1) (m 1) (q 1), .slice (A 2) (n 2) (c 2), .slice (P 2) (m 2) (q 2), .slice (A 3) (n 3) (c 3), .slice (P 3) (m 3) (q 3), .slice (A 4) (n 4) (c 4), .slice (P 4) (m 4) (q 4)] 26)) w.heap.size := by
  refine ⟨_, dk_new_at rfl, fun i hi => ?_⟩
  obtain ⟨h1, h2⟩ := h i hi
  obtain ⟨h3, h4⟩ := hn i hi
  have hw := Tw.of_below (dk_box w (.cells #[.slice (A 0) (n 0) (c 0), .slice (P 0) (m 0) (q 0), .slice (A 1) (n 1) (c 1), .slice (P 1) (m 1) (q 1), .slice (A 2) (n 2) (c 2), .slice (P 2) (m 2) (q 2), .slice (A 3) (n 3) (c 3), .slice (P 3) (m 3) (q 3), .slice (A 4) (n 4) (c 4), .slice (P 4) (m 4) (q 4)] 26))
  refine ⟨A i, n i, c i, P i, m i, q i, ?_, ?_, by rw [← h1.len]; exact h3, by rw [← h2.len]; exact h4, h1.isI.tw hw, h2.isI.tw hw⟩
  · rcases (by omega : i = 0 ∨ i = 1 ∨ i = 2 ∨ i = 3 ∨ i = 4) with rfl | rfl | rfl | rfl | rfl <;> rfl
  · rcases (by omega : i = 0 ∨ i = 1 ∨ i = 2 ∨ i = 3 ∨ i = 4) with rfl | rfl | rfl | rfl | rfl <;> rfl
end Go.Proofs.Ytgdefhlcgmibcaa
