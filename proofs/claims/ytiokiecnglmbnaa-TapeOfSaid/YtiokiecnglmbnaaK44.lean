/-
  Rows of events and answers that may be written into; a row of three tapes. No function of the program.
-/
import Derived.Test.YtiokiecnglmbnaaK34
import Derived.Test.YtiokiecnglmbnaaK38
import Derived.Test.YtiokiecnglmbnaaK43

namespace Go.Proofs.Ytiokiecnglmbnaa
open Go Go.RowKit Go.Proofs

theorem refEncode_goodT {E A : Option Addr} {ne ce na ca : Nat} {es : List NM.Ev} {l nl : List TP.An} (w : World) (h : TIn w E ne ce A na es l) (h1 : es.length ≤ 10) (h2 : l.length ≤ 10) (he : ∀ e ∈ es, ∀ x ∈ NM.evL e, I64 x) (ha : ∀ a ∈ l, ∀ x ∈ anL a, I64 x) (hl : TP.normA l = nl) :
    Calls Try.prog 34 #[.agg #[.slice E ne ce, .slice A na ca]] w fun e w' => (∃ v, e = .returned v ∧ (RgX.Sp.byt (encT es nl)).p w' v) ∧ Below w.heap.size w w' := by
  have e1 := h.ev.1
  have e2 := h.an.1
  have := refEncode_any (ce := ce) (ca := ca) w h (by omega) (by omega) he ha
  rw [hl] at this
  exact this.mono fun _ _ ⟨B_, m_, d_, h1_, h2_, h3_, _, h4_⟩ => ⟨⟨_, h1_, B_, m_, d_, rfl, h2_, h3_⟩, h4_⟩
/-- Integers stay integers, tapes stay. -/
def Tw (w w' : World) : Prop := ∀ (g : Nat) (C : Array Value) (t : TypeId), w.heap[g]? = some (Obj.cells C t (0, 0)) → ∃ C' : Array Value, w'.heap[g]? = some (Obj.cells C' t (0, 0)) ∧ (∀ (j : Nat) (v : Int), C[j]? = some (Value.int .i64 v) → ∃ v', C'[j]? = some (Value.int .i64 v')) ∧ (t = 26 → C' = C)
theorem Tw.refl (w : World) : Tw w w := fun _ C _ h => ⟨C, h, fun _ v hv => ⟨v, hv⟩, fun _ => rfl⟩
theorem Tw.trans {a b c : World} (h : Tw a b) (k : Tw b c) : Tw a c := fun g C t hg => by
  obtain ⟨C1, h1, h2, h3⟩ := h g C t hg
  obtain ⟨C2, k1, k2, k3⟩ := k g C1 t h1
  refine ⟨C2, k1, fun j v hv => ?_, fun ht => (k3 ht).trans (h3 ht)⟩
  obtain ⟨v', hv'⟩ := h2 j v hv
  exact k2 j v' hv'
theorem Tw.of_below {w w' : World} (h : Below w.heap.size w w') : Tw w w' := fun g C _ hg => ⟨C, (h.block g (heap_lt hg)).trans hg, fun _ v hv => ⟨v, hv⟩, fun _ => rfl⟩
theorem seg_int {C : Array Value} {o : Nat} {us : List Value} (hu : ∀ u ∈ us, ∃ v, u = Value.int .i64 v) (hl : o + us.length ≤ C.size) (j : Nat) (v : Int) (hv : C[j]? = some (Value.int .i64 v)) : ∃ v', (C.toList.take o ++ us ++ C.toList.drop (o + us.length)).toArray[j]? = some (Value.int .i64 v') := by
  rw [List.getElem?_toArray]
  have hs : (C.toList.take o).length = o := by rw [List.length_take, Array.length_toList]; omega
  by_cases h1 : j < o
  · rw [List.append_assoc, List.getElem?_append_left (by omega), List.getElem?_take, if_pos h1, Array.getElem?_toList]
    exact ⟨v, hv⟩
  · by_cases h2 : j < o + us.length
    · rw [List.append_assoc, List.getElem?_append_right (by omega), hs, List.getElem?_append_left (by omega)]
      obtain ⟨v', e⟩ := hu _ (List.getElem_mem (show j - o < us.length by omega))
      exact ⟨v', by rw [List.getElem?_eq_getElem (by omega), e]⟩
    · rw [List.getElem?_append_right (by rw [List.length_append]; omega), List.length_append, hs, List.getElem?_drop, show o + us.length + (j - (o + us.length)) = j by omega, Array.getElem?_toList]
      exact ⟨v, hv⟩
theorem Tw.of_store {w w' : World} {b o : Nat} {C : Array Value} {t : TypeId} {us : List Value} (hb : w.heap[b]? = some (.cells C t (0, 0))) (ht : t ≠ 26) (hu : ∀ u ∈ us, ∃ v, u = Value.int .i64 v) (hl : o + us.length ≤ C.size)
    (hn : w'.heap[b]? = some (.cells ((C.toList.take o ++ us ++ C.toList.drop (o + us.length)).toArray) t (0, 0))) (ho : ∀ k, k ≠ b → w'.heap[k]? = w.heap[k]?) : Tw w w' := fun g C1 t1 hg => by
  by_cases e : g = b
  · subst e
    rw [hb] at hg
    injection hg with hg
    injection hg with e1 e2
    subst e1
    subst e2
    exact ⟨_, hn, seg_int hu hl, fun h => absurd h ht⟩
  · exact ⟨C1, (ho g e).trans hg, fun _ v hv => ⟨v, hv⟩, fun _ => rfl⟩
/-- A slice whose cells are integers, in a block since lo; nil let in. -/
def IsI (t : TypeId) (sz lo : Nat) (w : World) (A : Option Addr) (n : Nat) : Prop := n = 0 ∨ ∃ (g off : Nat) (C : Array Value), A = some ⟨g, off, none⟩ ∧ lo ≤ g ∧ w.heap[g]? = some (Obj.cells C t (0, 0)) ∧ ∀ j, j < n * sz → ∃ v : Int, C[off + j]? = some (Value.int .i64 v)
theorem IsI.tw {t : TypeId} {sz lo n : Nat} {w w' : World} {A : Option Addr} (h : IsI t sz lo w A n) (hw : Tw w w') : IsI t sz lo w' A n := by
  rcases h with h | ⟨g, off, C, e, hl, hg, hc⟩
  · exact .inl h
  · obtain ⟨C', h1, h2, _⟩ := hw g C t hg
    exact .inr ⟨g, off, C', e, hl, h1, fun j hj => by obtain ⟨v, hv⟩ := hc j hj; exact h2 _ v hv⟩
theorem own_isI {t : TypeId} {sz lo n c : Nat} {w : World} {A : Option Addr} {xs : List Value} (h : w.ownsRow lo t sz (.slice A n c) n xs) (hl : xs.length = n * sz) (hx : ∀ u ∈ xs, ∃ v, u = Value.int .i64 v) : IsI t sz lo w A n := by
  rcases Nat.eq_zero_or_pos n with h0 | h0
  · exact .inl h0
  · obtain ⟨g, cap, hv, hb, hlt⟩ := h.form h0
    injection hv with hA
    subst hA
    have hcell := h.cells (g := g) rfl
    rcases h.2 with ⟨e, _⟩ | ⟨g', cap', cur, e, _, hh, _⟩
    · cases e
    · injection e with e
      injection e with e
      injection e with e
      subst e
      refine .inr ⟨g, 0, cur, rfl, hb, hh, fun j hj => ?_⟩
      have hj2 : j < xs.length := by omega
      obtain ⟨v, hv⟩ := hx _ (List.getElem_mem hj2)
      have := hcell j _ (List.getElem?_eq_getElem hj2)
      rw [Addr.add_lit, cell_of_row w g _ _ _ (0, 0) hh, hv] at this
      exact ⟨v, this⟩
theorem evC_ints (l : List NM.Ev) : ∀ u ∈ l.flatMap evC, ∃ v, u = Value.int .i64 v := by
  intro u hu
  obtain ⟨x, _, hx⟩ := List.mem_flatMap.1 hu
  simp only [evC, List.mem_cons, List.not_mem_nil, or_false] at hx
  rcases hx with rfl | rfl | rfl | rfl | rfl | rfl | rfl | rfl <;> exact ⟨_, rfl⟩
theorem anC_ints (l : List TP.An) : ∀ u ∈ TP.ansC l, ∃ v, u = Value.int .i64 v := by
  intro u hu
  obtain ⟨x, _, hx⟩ := List.mem_flatMap.1 hu
  simp only [TP.anC, List.mem_cons, List.not_mem_nil, or_false] at hx
  rcases hx with rfl | rfl | rfl | rfl | rfl | rfl <;> exact ⟨_, rfl⟩
theorem TapeIs.isI {lo : Nat} {w : World} {E A : Option Addr} {ne ce na ca : Nat} {es : List NM.Ev} {l : List TP.An} (h : TapeIs lo w E ne ce A na ca es l) : IsI 47 8 lo w E ne ∧ IsI 71 6 lo w A na :=
  ⟨own_isI h.2.1 (by rw [evC_len, h.1.1]) (evC_ints es), own_isI h.2.2 (by rw [TP.ansC_len, h.1.2]) (anC_ints l)⟩
/-- A row of three tapes that were made since block lo. -/
def Res3 (lo : Nat) (w : World) (g : Nat) : Prop := ∃ C : Array Value, w.heap[g]? = some (Obj.cells C 26 (0, 0)) ∧ ∀ i, i < 3 → ∃ E n c A m d, C[i * 2]? = some (Value.slice E n c) ∧ C[i * 2 + 1]? = some (Value.slice A m d) ∧ n ≤ 1000 ∧ m ≤ 1000 ∧ IsI 47 8 lo w E n ∧ IsI 71 6 lo w A m
theorem Res3.tw {lo g : Nat} {w w' : World} (h : Res3 lo w g) (hw : Tw w w') : Res3 lo w' g := by
  obtain ⟨C, h1, h2⟩ := h
  obtain ⟨C', k1, _, k3⟩ := hw g C _ h1
  have e := k3 rfl
  subst e
  refine ⟨C', k1, fun i hi => ?_⟩
  obtain ⟨A, n, c, P, m, q, a1, a2, a3, a4, a5, a6⟩ := h2 i hi
  exact ⟨A, n, c, P, m, q, a1, a2, a3, a4, a5.tw hw, a6.tw hw⟩
def RgX.Sp.res3 (lo : Nat) : RgX.Sp := ⟨fun w x => ∃ g, x = .slice (some ⟨g, 0, none⟩) 3 3 ∧ Res3 lo w g, fun ⟨g, e, h⟩ hb => ⟨g, e, h.tw (Tw.of_below hb)⟩⟩
theorem res3_new {lo : Nat} {w : World} {E0 A0 E1 A1 E2 A2 : Option Addr} {n0 c0 m0 d0 n1 c1 m1 d1 n2 c2 m2 d2 : Nat} {e0 e1 e2 : List NM.Ev} {l0 l1 l2 : List TP.An} (h0 : TapeIs lo w E0 n0 c0 A0 m0 d0 e0 l0) (h1 : TapeIs lo w E1 n1 c1 A1 m1 d1 e1 l1) (h2 : TapeIs lo w E2 n2 c2 A2 m2 d2 e2 l2)
    (b0 : n0 ≤ 1000 ∧ m0 ≤ 1000) (b1 : n1 ≤ 1000 ∧ m1 ≤ 1000) (b2 : n2 ≤ 1000 ∧ m2 ≤ 1000) :
    Res3 lo (w.alloc (.cells #[.slice E0 n0 c0, .slice A0 m0 d0, .slice E1 n1 c1, .slice A1 m1 d1, .slice E2 n2 c2, .slice A2 m2 d2] 26)) w.heap.size := by
  have hw := Tw.of_below (one_box w (.cells #[.slice E0 n0 c0, .slice A0 m0 d0, .slice E1 n1 c1, .slice A1 m1 d1, .slice E2 n2 c2, .slice A2 m2 d2] 26))
  refine ⟨_, new_at rfl, fun i hi => ?_⟩
  rcases (by omega : i = 0 ∨ i = 1 ∨ i = 2) with rfl | rfl | rfl
  · exact ⟨E0, n0, c0, A0, m0, d0, rfl, rfl, b0.1, b0.2, h0.isI.1.tw hw, h0.isI.2.tw hw⟩
  · exact ⟨E1, n1, c1, A1, m1, d1, rfl, rfl, b1.1, b1.2, h1.isI.1.tw hw, h1.isI.2.tw hw⟩
  · exact ⟨E2, n2, c2, A2, m2, d2, rfl, rfl, b2.1, b2.2, h2.isI.1.tw hw, h2.isI.2.tw hw⟩
/-- One number in a row of its own. -/
theorem ints_box {w : World} {g : Nat} {x : Int} (h : w.heap[g]? = some (.cells #[.int .i64 x] 3 (0, 0))) : Ints .i64 w.heap.size w (some ⟨g, 0, none⟩) 1 [x] := by
  refine ⟨rfl, fun _ => ⟨g, 0, rfl, heap_lt h, fun j hj => ?_⟩⟩
  obtain rfl : j = 0 := by omega
  exact cell_of_row w g 0 _ _ (0, 0) h
end Go.Proofs.Ytiokiecnglmbnaa
