/-
  Words for memory: which blocks a call may turn ('Chg'), rows of naturals of the call's own, slices of such rows, lists of pairs. No function of the program.
-/
import Derived.Test.YtligbandpmgmaaaBase
namespace Go.Proofs.Ytligbandpmgmaaa
open Go Go.RowKit

/-- Only blocks of S, and what is new, have turned. -/
structure Chg (S : Nat → Prop) (w w' : World) : Prop where
  os : w'.os = w.os
  tape : w'.tape = w.tape
  output : w'.output = w.output
  size : w.heap.size ≤ w'.heap.size
  block : ∀ b, b < w.heap.size → ¬ S b → w'.heap[b]? = w.heap[b]?

section
variable {S T : Nat → Prop} {a b c w w' : World}
theorem Chg.refl (S : Nat → Prop) (w : World) : Chg S w w := ⟨rfl, rfl, rfl, Nat.le_refl _, fun _ _ _ => rfl⟩
theorem Chg.trans (h : Chg S a b) (k : Chg T b c) (hT : ∀ x, x < a.heap.size → T x → S x) : Chg S a c :=
  ⟨k.os.trans h.os, k.tape.trans h.tape, k.output.trans h.output, Nat.le_trans h.size k.size, fun i hi hn => (k.block i (Nat.lt_of_lt_of_le hi h.size) (fun ht => hn (hT i hi ht))).trans (h.block i hi hn)⟩
theorem Chg.mono (h : Chg S w w') (hT : ∀ x, x < w.heap.size → S x → T x) : Chg T w w' := ⟨h.os, h.tape, h.output, h.size, fun i hi hn => h.block i hi (fun hs => hn (hT i hi hs))⟩
theorem Chg.of_below {B : Nat} (h : Below B w w') : Chg (B ≤ ·) w w' := ⟨h.os, h.tape, h.output, h.size, fun i _ hn => h.block i (by omega)⟩
theorem Chg.of_new (h : Below w.heap.size w w') (S : Nat → Prop) : Chg S w w' := ⟨h.os, h.tape, h.output, h.size, fun i hi _ => h.block i hi⟩
theorem Chg.of_grown {row : Option Nat} (h : w.grownBy w' row) : Chg (some · = row) w w' := ⟨h.os, h.tape, h.output, h.size, fun i hi hn => h.block i hi hn⟩
theorem Chg.below {B : Nat} (h : Chg S w w') (hS : ∀ b, b < w.heap.size → S b → B ≤ b) (hB : B ≤ w.heap.size) : Below B w w' :=
  ⟨h.os, h.tape, h.output, h.size, fun i hi => h.block i (by omega) (fun hs => by have := hS i (by omega) hs; omega)⟩
theorem Chg.drew (h : Chg S a w) : Chg S a w.drew := ⟨h.os, h.tape, h.output, h.size, h.block⟩
theorem Chg.drewN (h : Chg S a w) (n : Nat) : Chg S a (w.drewN n) := ⟨h.os, h.tape, h.output, h.size, h.block⟩
theorem Chg.new (h : Chg S a w) (k : Below w.heap.size w w') : Chg S a w' := h.trans (Chg.of_new k (fun _ => False)) (fun _ _ hf => hf.elim)
theorem Chg.alloc (h : Chg S a w) (o : Obj) : Chg S a (w.alloc o) := h.new ((Below.refl _ _).alloc (Nat.le_refl _) o)
theorem Chg.setCell (h : Chg S a w) {p : Addr} (hp : p.block < a.heap.size → S p.block) (u : Value) : Chg S a (w.setCell p u) :=
  h.trans (T := (· = p.block)) ⟨rfl, rfl, rfl, by simp [World.setCell], fun i _ hn => Below.heap_setCell _ _ _ _ hn⟩ (fun x hx e => by subst e; exact hp hx)
theorem Chg.grown {row : Option Nat} (h : Chg S a w) (hg : w.grownBy w' row) (hr : ∀ k, row = some k → k < a.heap.size → S k) : Chg S a w' :=
  h.trans (Chg.of_grown hg) (fun x hx e => hr x e.symm hx)
theorem Chg.cell (h : Chg S w w') {p : Addr} (hp : p.block < w.heap.size) (hn : ¬ S p.block) : w'.cell? p = w.cell? p := World.cell?_of_block (h.block _ hp hn)
end

/-- A natural as int. -/
def nv (n : Nat) : Value := .int .i64 (n : Int)
theorem map_nv (l : List Nat) : l.map nv = (l.map fun n : Nat => (n : Int)).map (Value.int .i64) := by rw [List.map_map]; rfl

/-- v is a slice of the call's own, at block base or later, that holds the naturals l. -/
def Own (w : World) (base : Nat) (v : Value) (l : List Nat) : Prop := w.ownsRow base 3 1 v l.length (l.map nv)

theorem heapT_ne {w : World} {g b : Nat} {cs C : Array Value} {t t' : TypeId} {f f' : Nat × Nat} (h : w.heap[g]? = some (.cells cs t f)) (h' : w.heap[b]? = some (.cells C t' f')) (hne : t ≠ t') : g ≠ b := by
  rintro rfl
  rw [h] at h'
  injection h' with h'
  injection h' with _ ht
  exact hne ht

section
variable {w w' : World} {base base' lo hi : Nat} {v : Value} {l : List Nat}
theorem own_of_block {t : TypeId} {size n : Nat} {xs : List Value} (h : w.ownsRow base t size v n xs) (hb : ∀ b, v.ownBlock = some b → w'.heap[b]? = w.heap[b]?) : w'.ownsRow base t size v n xs := by
  refine ⟨h.1, ?_⟩
  rcases h.2 with h0 | ⟨g, cap, cur, rfl, h1, h2, h3⟩
  · exact .inl h0
  · exact .inr ⟨g, cap, cur, rfl, h1, (hb g rfl).trans h2, h3⟩
theorem Own.keep (h : Own w base v l) (hb : ∀ b, v.ownBlock = some b → w'.heap[b]? = w.heap[b]?) : Own w' base v l := own_of_block h hb
theorem Own.lt (h : Own w base v l) : ∀ b, v.ownBlock = some b → base ≤ b ∧ b < w.heap.size := World.ownsRow.lt h
theorem Own.chg {S : Nat → Prop} (h : Own w base v l) (hc : Chg S w w') (hn : ∀ b, v.ownBlock = some b → ¬ S b) : Own w' base v l :=
  h.keep fun b hb => hc.block b (h.lt b hb).2 (hn b hb)
theorem Own.base_ (h : Own w base v l) (hb : ∀ b, v.ownBlock = some b → base' ≤ b) : Own w base' v l := by
  refine ⟨h.1, ?_⟩
  rcases h.2 with h0 | ⟨g, cap, cur, rfl, h1, h2⟩
  · exact .inl h0
  · exact .inr ⟨g, cap, cur, rfl, hb g rfl, h2⟩
theorem Own.nil (w : World) (base : Nat) : Own w base (.slice none 0 0) [] := ⟨rfl, .inl ⟨rfl, rfl⟩⟩
theorem Own.slice (h : Own w base v l) : ∃ A c, v = .slice A l.length c ∧ l.length ≤ c ∧ c ≤ maxLen := own_slice h
theorem Own.lst {A : Option Addr} {n c : Nat} (h : Own w base (.slice A n c) l) : n = l.length ∧ Lst 3 .i64 w.heap.size w A n c (l.map fun n : Nat => (n : Int)) := by
  obtain ⟨A', c', e, _, _⟩ := h.slice
  injection e with e1 e2 e3
  subst e2
  refine ⟨rfl, Lst.of_own (base := base) ?_⟩
  have := h
  unfold Own at this
  rw [map_nv] at this
  exact this
/-- A cell of an own row, and that it may be written. -/
theorem Own.cell {g n c : Nat} (h : Own w base (.slice (some ⟨g, 0, none⟩) n c) l) {i : Nat} (hi : i < l.length) : w.cell? ⟨g, i, none⟩ = some (nv (l[i]?.getD 0)) := by
  have := h.2
  rcases this with ⟨e, _⟩ | ⟨g', cap, cur, e, _, h2, h3, h4, h5, h6⟩
  · cases e
  · injection e with e1 e2 e3
    injection e1 with e1
    injection e1 with e1 e4
    subst e1
    rw [cell_of_row w g i cur 3 (0, 0) h2]
    have : (cur.toList.take (l.length * 1))[i]? = (l.map nv)[i]? := by rw [h6]
    rw [List.getElem?_take_of_lt (by omega), Array.getElem?_toList, List.getElem?_map] at this
    rw [this, List.getElem?_eq_getElem hi]
    rfl
theorem Own.frozen {g n c : Nat} (h : Own w base (.slice (some ⟨g, 0, none⟩) n c) l) (i : Nat) : w.frozen? ⟨g, i, none⟩ = false := by
  rcases h.2 with ⟨e, _⟩ | ⟨g', cap, cur, e, _, h2, _⟩
  · cases e
  · injection e with e1 e2 e3
    injection e1 with e1
    injection e1 with e1 e4
    subst e1
    simp [World.frozen?, h2]
theorem Own.form (h : Own w base v l) (hl : 0 < l.length) : ∃ g c, v = .slice (some ⟨g, 0, none⟩) l.length c ∧ base ≤ g ∧ g < w.heap.size ∧ l.length ≤ c ∧ c ≤ maxLen := by
  rcases h.2 with ⟨_, e⟩ | ⟨g, cap, cur, e, h1, h2, h3, h4, _⟩
  · omega
  · exact ⟨g, cap, e, h1, heap_lt h2, h3, h4⟩
end

/-- The same with integers. -/
def OwnI (w : World) (base : Nat) (v : Value) (zs : List Int) : Prop := w.ownsRow base 3 1 v zs.length (zs.map (Value.int .i64))
theorem own_iff {w : World} {base : Nat} {v : Value} {l : List Nat} : Own w base v l ↔ OwnI w base v (l.map fun n : Nat => (n : Int)) := by
  unfold Own OwnI
  rw [map_nv, List.length_map]

/-- Block g holds the slices cs, the i-th of which is a row of the naturals xs[i]; all of these blocks lie between lo and hi; no two rows share a block. -/
structure Rows2 (w : World) (lo hi g : Nat) (cs : Array Value) (xs : List (List Nat)) : Prop where
  len : cs.size = xs.length
  blk : w.heap[g]? = some (.cells cs 22 (0, 0))
  gin : lo ≤ g ∧ g < hi
  row : ∀ (i : Nat) (v : Value) (l : List Nat), cs[i]? = some v → xs[i]? = some l → Own w lo v l
  inn : ∀ (i : Nat) (v : Value) (b : Nat), cs[i]? = some v → v.ownBlock = some b → b < hi
  apart : ∀ (i j : Nat) (v v' : Value) (b : Nat), i ≠ j → cs[i]? = some v → cs[j]? = some v' → v.ownBlock = some b → v'.ownBlock = some b → False

section
variable {w w' : World} {lo hi hi' g : Nat} {cs : Array Value} {xs : List (List Nat)}
theorem Rows2.keep (h : Rows2 w lo hi g cs xs) (hb : ∀ b, lo ≤ b → b < hi → w'.heap[b]? = w.heap[b]?) : Rows2 w' lo hi g cs xs :=
  ⟨h.len, (hb g h.gin.1 h.gin.2).trans h.blk, h.gin, fun i v l hv hl => (h.row i v l hv hl).keep fun b hvb => hb b ((h.row i v l hv hl).lt b hvb).1 (h.inn i v b hv hvb), h.inn, h.apart⟩
theorem Rows2.chg {S : Nat → Prop} (h : Rows2 w lo hi g cs xs) (hc : Chg S w w') (hh : hi ≤ w.heap.size) (hn : ∀ b, lo ≤ b → b < hi → ¬ S b) : Rows2 w' lo hi g cs xs :=
  h.keep fun b h1 h2 => hc.block b (by omega) (hn b h1 h2)
theorem Rows2.below (h : Rows2 w lo hi g cs xs) (hb : Below hi w w') : Rows2 w' lo hi g cs xs := h.keep fun b _ h2 => hb.block b h2
theorem Rows2.more (h : Rows2 w lo hi g cs xs) (hh : hi ≤ hi') : Rows2 w lo hi' g cs xs :=
  ⟨h.len, h.blk, ⟨h.gin.1, by have := h.gin.2; omega⟩, h.row, fun i v b h1 h2 => by have := h.inn i v b h1 h2; omega, h.apart⟩
theorem Rows2.cell (h : Rows2 w lo hi g cs xs) (i : Nat) : w.cell? ⟨g, i, none⟩ = cs[i]? := cell_of_row w g i cs _ (0, 0) h.blk
theorem Rows2.frozen (h : Rows2 w lo hi g cs xs) (i : Nat) : w.frozen? ⟨g, i, none⟩ = false := by simp [World.frozen?, h.blk]
theorem Rows2.at_ (h : Rows2 w lo hi g cs xs) {i : Nat} (hi : i < xs.length) : ∃ v l, cs[i]? = some v ∧ xs[i]? = some l ∧ Own w lo v l ∧ w.cell? ⟨g, i, none⟩ = some v := by
  have hc : i < cs.size := by rw [h.len]; exact hi
  refine ⟨cs[i], xs[i], Array.getElem?_eq_getElem hc, List.getElem?_eq_getElem hi, h.row i _ _ (Array.getElem?_eq_getElem hc) (List.getElem?_eq_getElem hi), ?_⟩
  rw [h.cell, Array.getElem?_eq_getElem hc]
theorem own_ne_g (h : Rows2 w lo hi g cs xs) {v : Value} {l : List Nat} {base : Nat} (ho : Own w base v l) : v.ownBlock ≠ some g := by
  rcases ho.2 with ⟨rfl, _⟩ | ⟨g', cap, cur, rfl, _, h2, _⟩
  · simp [Value.ownBlock]
  · intro e
    have e : g' = g := by simpa [Value.ownBlock] using e
    subst e
    exact heapT_ne h.blk h2 (by decide) rfl
/-- Row i is turned: what held it, or a new block, holds the row l now. -/
theorem Rows2.upd (h : Rows2 w lo hi g cs xs) {i : Nat} {v v' : Value} {l : List Nat} (hv : cs[i]? = some v) (hh : hi ≤ hi')
    (hb : ∀ b, lo ≤ b → b < hi → v.ownBlock ≠ some b → w'.heap[b]? = w.heap[b]?) (ho : Own w' lo v' l) (hn : ∀ b, v'.ownBlock = some b → v.ownBlock = some b ∨ hi ≤ b) (hlt : ∀ b, v'.ownBlock = some b → b < hi') :
    Rows2 (w'.setCell ⟨g, i, none⟩ v') lo hi' g (cs.setIfInBounds i v') (xs.set i l) := by
  have hic : i < cs.size := (Array.getElem?_eq_some_iff.1 hv).1
  have hix : i < xs.length := by rw [← h.len]; exact hic
  have hgb : v.ownBlock ≠ some g := own_ne_g h (h.row i v _ hv (List.getElem?_eq_getElem hix))
  have hg' : w'.heap[g]? = some (.cells cs 22 (0, 0)) := (hb g h.gin.1 h.gin.2 hgb).trans h.blk
  have hg2 : v'.ownBlock ≠ some g := by
    rcases ho.2 with ⟨rfl, _⟩ | ⟨g', cap, cur, rfl, _, h2, _⟩
    · simp [Value.ownBlock]
    · intro e
      have e : g' = g := by simpa [Value.ownBlock] using e
      subst e
      exact heapT_ne hg' h2 (by decide) rfl
  have hset : ∀ b, b ≠ g → (w'.setCell ⟨g, i, none⟩ v').heap[b]? = w'.heap[b]? := fun b hb => Below.heap_setCell _ _ _ _ hb
  have hrow : ∀ j u m, j ≠ i → cs[j]? = some u → xs[j]? = some m → Own (w'.setCell ⟨g, i, none⟩ v') lo u m := fun j u m hj hu hm =>
    (h.row j u m hu hm).keep fun b hub => by
      have h1 := (h.row j u m hu hm).lt b hub
      have h2 := h.inn j u b hu hub
      have h3 : b ≠ g := fun e => by subst e; exact own_ne_g h (h.row j u m hu hm) hub
      rw [hset b h3]
      exact hb b h1.1 h2 (fun e => h.apart j i u v b hj hu hv hub e)
  refine ⟨by simp [h.len], ?_, ⟨h.gin.1, by have := h.gin.2; omega⟩, ?_, ?_, ?_⟩
  · simp only [World.setCell, Array.getElem?_modify]
    simp [hg']
  · intro j u m hu hm
    rw [Array.getElem?_setIfInBounds] at hu
    by_cases e : i = j
    · subst e
      rw [if_pos rfl, if_pos hic] at hu
      rw [List.getElem?_set_self hix] at hm
      injection hu with hu
      injection hm with hm
      subst hu hm
      exact ho.keep fun b hub => hset b (fun e => by subst e; exact hg2 hub)
    · rw [if_neg e] at hu
      rw [List.getElem?_set_ne e] at hm
      exact hrow j u m (Ne.symm e) hu hm
  · intro j u b hu hub
    rw [Array.getElem?_setIfInBounds] at hu
    by_cases e : i = j
    · rw [if_pos e, if_pos hic] at hu
      injection hu with hu
      subst hu
      exact hlt b hub
    · rw [if_neg e] at hu
      have := h.inn j u b hu hub
      omega
  · intro j k u u' b hjk hu hu' hub hub'
    rw [Array.getElem?_setIfInBounds] at hu hu'
    have key : ∀ (j : Nat) (u : Value), i ≠ j → cs[j]? = some u → u.ownBlock = some b → v'.ownBlock = some b → False := fun j u e hu hub hb' => by
      rcases hn b hb' with h1 | h1
      · exact h.apart j i u v b (Ne.symm e) hu hv hub h1
      · have := h.inn j u b hu hub
        omega
    by_cases e : i = j
    · by_cases e' : i = k
      · exact hjk (e.symm.trans e')
      · rw [if_pos e, if_pos hic] at hu
        rw [if_neg e'] at hu'
        injection hu with hu
        subst hu
        exact key k u' e' hu' hub' hub
    · rw [if_neg e] at hu
      by_cases e' : i = k
      · rw [if_pos e', if_pos hic] at hu'
        injection hu' with hu'
        subst hu'
        exact key j u e hu hub hub'
      · rw [if_neg e'] at hu'
        exact h.apart j k u u' b hjk hu hu' hub hub'
end

/-- The slice at A, of length m, lies below block B and holds the pairs E. -/
def Edg (w : World) (B : Nat) (A : Option Addr) (m : Nat) (E : List (Nat × Nat)) : Prop :=
  E.length = m ∧ (0 < m → ∃ b off, A = some ⟨b, off, none⟩ ∧ b < B ∧ ∀ j x y, E[j]? = some (x, y) → w.cell? ⟨b, off + j * 2, none⟩ = some (nv x) ∧ w.cell? ⟨b, off + j * 2 + 1, none⟩ = some (nv y))
section
variable {w w' : World} {B B' m : Nat} {A : Option Addr} {E : List (Nat × Nat)}
theorem Edg.below (h : Edg w B A m E) (hb : Below B w w') : Edg w' B A m E :=
  ⟨h.1, fun hm => by
    obtain ⟨b, off, e, hlt, hc⟩ := h.2 hm
    exact ⟨b, off, e, hlt, fun j x y hj => ⟨(hb.cell (p := ⟨b, off + j * 2, none⟩) hlt).trans (hc j x y hj).1, (hb.cell (p := ⟨b, off + j * 2 + 1, none⟩) hlt).trans (hc j x y hj).2⟩⟩⟩
theorem Edg.more (h : Edg w B A m E) (hB : B ≤ B') : Edg w B' A m E :=
  ⟨h.1, fun hm => by
    obtain ⟨b, off, e, hlt, hc⟩ := h.2 hm
    exact ⟨b, off, e, by omega, hc⟩⟩
theorem Edg.at_ (h : Edg w B A m E) {j : Nat} (hj : j < m) : ∃ b off x y, A = some ⟨b, off, none⟩ ∧ b < B ∧ E[j]? = some (x, y) ∧ w.cell? ⟨b, off + j * 2, none⟩ = some (nv x) ∧ w.cell? ⟨b, off + j * 2 + 1, none⟩ = some (nv y) := by
  obtain ⟨b, off, e, hlt, hc⟩ := h.2 (by omega)
  have hl : j < E.length := by rw [h.1]; exact hj
  obtain ⟨c1, c2⟩ := hc j E[j].1 E[j].2 (List.getElem?_eq_getElem hl)
  exact ⟨b, off, E[j].1, E[j].2, e, hlt, List.getElem?_eq_getElem hl, c1, c2⟩
end
end Go.Proofs.Ytligbandpmgmaaa
