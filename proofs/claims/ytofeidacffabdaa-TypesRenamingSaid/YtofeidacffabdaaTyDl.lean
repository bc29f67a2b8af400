/-
  What the law TypesDeclared uses at its drawn regions. No function of the program.
-/
import Derived.Test.YtofeidacffabdaaTyWo
import Derived.Test.YtofeidacffabdaaTyLv
import Derived.Test.YtofeidacffabdaaTyDe
import Derived.Deep.RegionHeldLaw
namespace Go.Proofs.Ytofeidacffabdaa
open Go Go.RowKit Go.Proofs Go.Shelf

abbrev uz : Obj := .cells #[.slice none 0 0, .slice none 0 0, .slice none 0 0] 35 (0, 0)
/-- A new variable's block stands. -/
def ZU (W : World) (g : Nat) : Prop := W.heap[g]? = some uz
theorem ZU.new (w : World) : ZU (w.alloc uz) w.heap.size := World.alloc_heap_new w _
theorem ZU.below {w w' : World} {g B : Nat} (h : ZU w g) (hb : Below B w w') (hB : g < B) : ZU w' g := (hb.block g hB).trans h
theorem ZU.call {w w' : World} {g : Nat} (h : ZU w g) (hb : Below w.heap.size w w') : ZU w' g := (hb.block g (heap_lt h)).trans h
theorem ZU.alloc {w : World} {g : Nat} (h : ZU w g) (o : Obj) : ZU (w.alloc o) g := (Below.heap_alloc w o g (heap_lt h)).trans h
theorem ZU.drew {w : World} {g : Nat} (h : ZU w g) : ZU w.drew g := h
theorem ZU.cells {W : World} {g : Nat} (h : ZU W g) : W.cell? ⟨g, 0, none⟩ = some (.slice none 0 0) ∧ W.cell? ⟨g, 1, none⟩ = some (.slice none 0 0) ∧ W.cell? ⟨g, 2, none⟩ = some (.slice none 0 0) ∧ W.frozen? ⟨g, 0, none⟩ = false ∧ W.frozen? ⟨g, 1, none⟩ = false ∧ W.frozen? ⟨g, 2, none⟩ = false :=
  ⟨cell_of_row W g 0 _ _ (0, 0) h, cell_of_row W g 1 _ _ (0, 0) h, cell_of_row W g 2 _ _ (0, 0) h, by simp [World.frozen?, show W.heap[g]? = some uz from h, uz], by simp [World.frozen?, show W.heap[g]? = some uz from h, uz], by simp [World.frozen?, show W.heap[g]? = some uz from h, uz]⟩
/-- The unit in block g, behind what stands at W0. -/
def UF (W0 W : World) (g : Nat) (x y z : Value) : Prop := W.heap[g]? = some (.cells #[x, y, z] 35 (0, 0)) ∧ Below W0.heap.size W0 W
theorem UF.new {W0 w : World} (hb : Below W0.heap.size W0 w) (x y z : Value) : UF W0 (w.alloc (.cells #[x, y, z] 35)) w.heap.size x y z := ⟨World.alloc_heap_new w _, hb.alloc hb.size _⟩
theorem UF.drew {W0 w : World} {g : Nat} {x y z : Value} (h : UF W0 w g x y z) : UF W0 w.drew g x y z := ⟨h.1, h.2.drew⟩
theorem UF.set {W0 w : World} {g : Nat} (hb : Below W0.heap.size W0 w) (h : ZU w g) (hg : W0.heap.size ≤ g) (x y z : Value) : UF W0 (((w.setCell ⟨g, 0, none⟩ x).setCell ⟨g, 1, none⟩ y).setCell ⟨g, 2, none⟩ z) g x y z := by
  refine ⟨?_, ((hb.setCell (p := ⟨g, 0, none⟩) hg _).setCell (p := ⟨g, 1, none⟩) hg _).setCell (p := ⟨g, 2, none⟩) hg _⟩
  have h' : w.heap[g]? = some (.cells #[.slice none 0 0, .slice none 0 0, .slice none 0 0] 35 (0, 0)) := h
  simp only [World.setCell, Array.getElem?_modify]
  simp [h']
theorem own_lit {w : World} {base : Nat} {s : ByteArray} (h : base ≤ w.heap.size) : (w.alloc (.cells #[.string s] 9)).ownsRow base 9 1 (.slice (some ⟨w.heap.size, 0, none⟩) 1 1) 1 [.string s] :=
  ⟨rfl, .inr ⟨w.heap.size, 1, #[.string s], rfl, h, World.alloc_heap_new w _, Nat.le_refl _, by simp [maxLen], rfl, rfl⟩⟩
theorem own_at1 {w : World} {base g : Nat} {s : ByteArray} (hb : base ≤ g) (h : w.heap[g]? = some (.cells #[.string s] 9 (0, 0))) : w.ownsRow base 9 1 (.slice (some ⟨g, 0, none⟩) 1 1) 1 [.string s] :=
  ⟨rfl, .inr ⟨g, 1, #[.string s], rfl, hb, h, Nat.le_refl _, by simp [maxLen], rfl, rfl⟩⟩
theorem dl_below {W2 P w6 : World} {gz : Nat} (hP : Below W2.heap.size W2 P) (hg : P.grownBy w6 (Value.slice (some ⟨gz, 0, none⟩) 1 1).ownBlock) (hz : W2.heap.size ≤ gz) : Below W2.heap.size W2 w6 := hP.grown hg hP.size fun k e => by
  have e' : some gz = some k := e
  injection e' with e'
  omega
theorem dl_zu {P w6 : World} {gz gT : Nat} (h : ZU P gT) (hg : P.grownBy w6 (Value.slice (some ⟨gz, 0, none⟩) 1 1).ownBlock) (hn : gT ≠ gz) : ZU w6 gT := (hg.block gT (heap_lt h) (fun e => hn (by injection e))).trans h
theorem own_drew {w : World} {base size n : Nat} {t : TypeId} {v : Value} {xs : List Value} (h : w.ownsRow base t size v n xs) : w.drew.ownsRow base t size v n xs := h
theorem own_alloc {w : World} {base size n : Nat} {t : TypeId} {v : Value} {xs : List Value} (h : w.ownsRow base t size v n xs) (o : Obj) : (w.alloc o).ownsRow base t size v n xs := row_below h ((Below.refl _ _).alloc (Nat.le_refl _) o)
theorem news_stn {W V : World} {hi b o c : Nat} {l : List ByteArray} (hst : Stn hi W (some ⟨b, o, none⟩) c l) (hb : Below hi W V) : ∀ j u, (l.map Value.string)[j]? = some u → V.cell? ((⟨b, o, none⟩ : Addr).add j) = some u := fun j u hu => by
  obtain ⟨_, _, ⟨h, _⟩ | ⟨b', o', e, hlt, hc⟩⟩ := hst
  · cases h
  · injection e with e
    injection e with e1 e2 _
    subst e1 e2
    rw [List.getElem?_map] at hu
    obtain ⟨z, hz, rfl⟩ := Option.map_eq_some_iff.1 hu
    rw [Addr.add_lit]
    exact (hb.cell (p := ⟨b, o + j, none⟩) hlt).trans (hc j z hz)
theorem one_cells (l : List ByteArray) : ∀ u ∈ l.map Value.string, u.oneCell' = true := fun u hu => by
  obtain ⟨s, _, rfl⟩ := List.mem_map.1 hu
  rfl
theorem dl_a (W2 : World) (s : ByteArray) (x y z : Value) {U : World} (hU : ((W2.alloc (.cells #[.string s] 9)).alloc (.cells #[x, y, z] 35)).drew = U) : UF W2 U (W2.heap.size + 1) x y z ∧ Stn U.heap.size U (some ⟨W2.heap.size, 0, none⟩) 1 [s] := by
  subst hU
  have h0 : (((W2.alloc (.cells #[.string s] 9)).alloc (.cells #[x, y, z] 35)).drew).heap[W2.heap.size]? = some (.cells #[.string s] 9 (0, 0)) := lay_at [.cells #[.string s] 9, .cells #[x, y, z] 35] W2 0 rfl
  exact ⟨⟨lay_at [.cells #[.string s] 9, .cells #[x, y, z] 35] W2 1 rfl, (lay_below [.cells #[.string s] 9, .cells #[x, y, z] 35] W2).drew⟩, Stn.of_own rfl (own_at1 (Nat.le_refl W2.heap.size) h0)⟩
theorem dl_b (W2 : World) (s : ByteArray) (x y z : Value) {U : World} (hU : ((W2.alloc (.cells #[x, y, z] 35)).alloc (.cells #[.string s] 9)).drew = U) : UF W2 U W2.heap.size x y z ∧ Stn U.heap.size U (some ⟨W2.heap.size + 1, 0, none⟩) 1 [s] := by
  subst hU
  have h0 : (((W2.alloc (.cells #[x, y, z] 35)).alloc (.cells #[.string s] 9)).drew).heap[W2.heap.size + 1]? = some (.cells #[.string s] 9 (0, 0)) := lay_at [.cells #[x, y, z] 35, .cells #[.string s] 9] W2 1 rfl
  exact ⟨⟨lay_at [.cells #[x, y, z] 35, .cells #[.string s] 9] W2 0 rfl, (lay_below [.cells #[x, y, z] 35, .cells #[.string s] 9] W2).drew⟩, Stn.of_own rfl (own_at1 (Nat.le_add_right W2.heap.size 1) h0)⟩
/-- Behind the append: the unit is laid anew, or stored into the block that was laid ahead. -/
theorem dl_new {W2 w6 : World} {g6 c6 k : Nat} {l : List ByteArray} (hb : Below W2.heap.size W2 w6) (ho : w6.ownsRow W2.heap.size 9 1 (.slice (some ⟨g6, 0, none⟩) k c6) k (l.map Value.string)) (hk : l.length = k) (x y z : Value) {U : World} (hU : w6.alloc (.cells #[x, y, z] 35) = U) : UF W2 U w6.heap.size x y z ∧ Stn U.heap.size U (some ⟨g6, 0, none⟩) c6 l := by
  subst hU
  exact ⟨UF.new hb x y z, Stn.of_own hk (own_alloc ho _)⟩
theorem dl_set {W2 w6 : World} {g6 c6 k gT : Nat} {l : List ByteArray} (hb : Below W2.heap.size W2 w6) (ho : w6.ownsRow W2.heap.size 9 1 (.slice (some ⟨g6, 0, none⟩) k c6) k (l.map Value.string)) (hk : l.length = k) (h : ZU w6 gT) (hg : W2.heap.size ≤ gT) (x y z : Value) {U : World} (hU : ((w6.setCell ⟨gT, 0, none⟩ x).setCell ⟨gT, 1, none⟩ y).setCell ⟨gT, 2, none⟩ z = U) : UF W2 U gT x y z ∧ Stn U.heap.size U (some ⟨g6, 0, none⟩) c6 l := by
  subst hU
  refine ⟨UF.set hb h hg x y z, Stn.of_own (base := W2.heap.size) hk ?_⟩
  refine own_keep ho fun q hq => ?_
  have hne : q ≠ gT := by
    have hq' : g6 = q := by injection hq
    subst hq'
    rintro rfl
    obtain ⟨_, ⟨e, _⟩ | ⟨g, cap, cur, e, _, hh, _⟩⟩ := ho
    · cases e
    · injection e with e
      injection e with e
      injection e with e
      subst e
      rw [show w6.heap[g6]? = some uz from h] at hh
      injection hh with hh
      injection hh with _ ht
      exact absurd ht (by decide)
  exact (Below.heap_setCell _ _ _ _ hne).trans ((Below.heap_setCell _ _ _ _ hne).trans (Below.heap_setCell _ _ _ _ hne))
/-- The names of the first j handlers. -/
def usedJ (on : List (Int × TY.Nd)) (j : Nat) : List ByteArray := (on.take j).foldl (fun a h => TY.names h.2 a) []
theorem usedJ_snoc {on : List (Int × TY.Nd)} {j : Nat} {x : Int × TY.Nd} (h : on[j]? = some x) : usedJ on (j + 1) = TY.names x.2 (usedJ on j) := by
  unfold usedJ
  rw [List.take_add_one, h, List.foldl_append]
  rfl
theorem usedJ_len {on : List (Int × TY.Nd)} (h : ∀ x ∈ on, (TY.occ x.2).length ≤ 6000) : ∀ j, (usedJ on j).length ≤ j * 6000
  | 0 => by simp [usedJ]
  | j + 1 => by
    have ih := usedJ_len h j
    cases hx : on[j]? with
    | none =>
      have e : usedJ on (j + 1) = usedJ on j := by
        unfold usedJ
        rw [List.take_add_one, hx]
        simp
      rw [e, Nat.add_mul]
      exact Nat.le_trans ih (Nat.le_add_right _ _)
    | some x =>
      rw [usedJ_snoc hx, Nat.add_mul, Nat.one_mul]
      exact Nat.le_trans (names_len x.2 (usedJ on j)) (Nat.add_le_add ih (h x (List.mem_of_getElem? hx)))
theorem inL_snoc' {l : List ByteArray} {a : Nat} {y : ByteArray} (s : ByteArray) (h : l[a]? = some y) : TY.inL (l.take (a + 1)) s = (TY.inL (l.take a) s || decide (y = s)) := by
  unfold TY.inL
  rw [List.take_add_one, h, List.any_append]
  simp
/-- Strings are not in a unit's block. -/
theorem Stn.set3 {w : World} {hi gT c : Nat} {A : Option Addr} {l : List ByteArray} (h : Stn hi w A c l) (hz : ZU w gT) (x y z : Value) : Stn hi (((w.setCell ⟨gT, 0, none⟩ x).setCell ⟨gT, 1, none⟩ y).setCell ⟨gT, 2, none⟩ z) A c l := by
  obtain ⟨h1, h2, h3 | ⟨b, off, e, hlt, hc⟩⟩ := h
  · exact ⟨h1, h2, .inl h3⟩
  · refine ⟨h1, h2, .inr ⟨b, off, e, hlt, fun j s hj => ?_⟩⟩
    have hcj := hc j s hj
    have hne : b ≠ gT := by
      rintro rfl
      rw [cell_of_row w b (off + j) _ _ (0, 0) hz] at hcj
      match off + j, hcj with
      | 0, hcj => cases hcj
      | 1, hcj => cases hcj
      | 2, hcj => cases hcj
      | q + 3, hcj => simp at hcj
    refine (World.cell?_of_block (w := w) (a := ⟨b, off + j, none⟩) ?_).trans hcj
    exact (Below.heap_setCell _ _ _ _ hne).trans ((Below.heap_setCell _ _ _ _ hne).trans (Below.heap_setCell _ _ _ _ hne))
end Go.Proofs.Ytofeidacffabdaa
