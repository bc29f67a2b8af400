/-
  Words for memory: slices of integers that came in, that are handed on, that the call owns; what becomes of them where memory grows. No function of the program.
  Words for memory: which blocks a call may turn ('Chg'), rows of naturals of the call's own, slices of such rows, lists of pairs. No function of the program.
  The contract of math/bits.TrailingZeros64 for small numbers. Conditions: the number is positive and less than 1024; the library's table lies as its text lays it.
  The contract of the reference model's SameInts (a part of the template Same, for seats without SameBytes). Condition: both slices hold integers.
  The contract of the reference model's Around: a number within bounds. Condition: the bound is positive.
-/
import Derived.Test.YtlgdcbhdmffnoaaDoorRows
import Derived.Test.YtlgdcbhdmffnoaaDoorK1
import Derived.Below
import Derived.Laws.OwnMore
import Derived.Deep.Draws
import Derived.Deep.AppendLies
import Derived.Laws.Rows
import Derived.Laws.AppendOwnNone
import Derived.OwnWalk
import Derived.Maps.AppendAt
import Derived.WalkKit
import Derived.WalkSpells
import Derived.WalkLawsBesides
import Derived.OpenShut
import Derived.Deep.QuietTactic
import Derived.BigQuiet
import Derived.Lib.Hide
import Derived.RangeFuncBox

namespace Go.Proofs.YtlgdcbhdmffnoaaDoor
open Go Go.RowKit

/-- The slice at A, of length n, lies below block B and holds the integers zs of kind k. -/
def Ints (k : IntKind) (B : Nat) (w : World) (A : Option Addr) (n : Nat) (zs : List Int) : Prop :=
  zs.length = n ∧ (0 < n → ∃ b off, A = some ⟨b, off, none⟩ ∧ b < B ∧ ∀ j, j < n → w.cell? ⟨b, off + j, none⟩ = some (.int k (zs[j]?.getD 0)))

section
variable {k : IntKind} {B B' n : Nat} {w w' : World} {A : Option Addr} {zs : List Int}
theorem Ints.len (h : Ints k B w A n zs) : zs.length = n := h.1
theorem Ints.nil (k : IntKind) (B : Nat) (w : World) (A : Option Addr) : Ints k B w A 0 [] := ⟨rfl, fun h => absurd h (by omega)⟩
theorem Ints.at_ (h : Ints k B w A n zs) (hn : 0 < n) : ∃ b off, A = some ⟨b, off, none⟩ ∧ b < B ∧ ∀ j, j < n → w.cell? ⟨b, off + j, none⟩ = some (.int k (zs[j]?.getD 0)) := h.2 hn
theorem Ints.keep (h : Ints k B w A n zs) (hk : ∀ p : Addr, p.block < B → w'.cell? p = w.cell? p) : Ints k B w' A n zs :=
  ⟨h.1, fun hn => by
    obtain ⟨b, off, e, hb, hc⟩ := h.2 hn
    exact ⟨b, off, e, hb, fun j hj => (hk ⟨b, off + j, none⟩ hb).trans (hc j hj)⟩⟩
theorem Ints.more (h : Ints k B w A n zs) (hB : B ≤ B') : Ints k B' w A n zs :=
  ⟨h.1, fun hn => by
    obtain ⟨b, off, e, hb, hc⟩ := h.2 hn
    exact ⟨b, off, e, by omega, hc⟩⟩
theorem Ints.below (h : Ints k B w A n zs) (hb : Below B w w') : Ints k B w' A n zs := h.keep fun _ hp => hb.cell hp
theorem Ints.alloc (h : Ints k B w A n zs) (hB : B ≤ w.heap.size) (o : Obj) : Ints k B (w.alloc o) A n zs := h.below ((Below.refl _ _).alloc hB o)
theorem Ints.drew (h : Ints k B w A n zs) : Ints k B w.drew A n zs := h.below (Below.refl _ _).drew
theorem Ints.setCell (h : Ints k B w A n zs) {p : Addr} (hB : B ≤ p.block) (u : Value) : Ints k B (w.setCell p u) A n zs := h.below ((Below.refl _ _).setCell hB u)

theorem getD_mem {l : List Int} {j : Nat} (h : j < l.length) : l[j]?.getD 0 ∈ l := by
  rw [List.getElem?_eq_getElem h]; exact List.getElem_mem h

/-- What a row that the call owns holds. -/
theorem Ints.of_own {base size : Nat} {e : TypeId} {a : Option Addr} {n c : Nat} {zs : List Int} (hs : size = 1) (h : w.ownsRow base e size (.slice a n c) n (zs.map (Value.int k))) : Ints k w.heap.size w a n zs := by
  subst hs
  refine ⟨by have := h.1; simpa using this, fun hn => ?_⟩
  obtain ⟨g, cap, hv, _, hlt⟩ := h.form hn
  have hA : a = some ⟨g, 0, none⟩ := by injection hv
  subst hA
  refine ⟨g, 0, rfl, hlt, fun j hj => ?_⟩
  have hl : zs.length = n := by have := h.1; simpa using this
  have hc := h.cells (g := g) rfl j (.int k (zs[j]?.getD 0)) (by rw [List.getElem?_map, List.getElem?_eq_getElem (by omega)]; rfl)
  rw [Addr.add_lit] at hc
  exact hc
end

/-- What a law is told of a slice of integers that came in. -/
def Row (k : IntKind) (w : World) (a : Option Addr) (len cap : Nat) (zs : List Int) : Prop :=
  (a = none ∧ len = 0 ∧ cap = 0 ∧ zs = []) ∨
  ∃ x, a = some x ∧ len ≤ cap ∧ cap ≤ maxLen ∧ zs.length = cap ∧ (∀ i, i < zs.length → w.cell? (x.add i) = some (.int k (zs.getD i 0))) ∧ ∀ n ∈ zs, (Lit.int k n).wf = true
theorem Row.ints {k : IntKind} {w : World} {a : Option Addr} {len cap : Nat} {zs : List Int} (h : Row k w a len cap zs) :
    Ints k w.heap.size w a len (zs.take len) ∧ len ≤ cap ∧ cap ≤ maxLen ∧ ∀ n ∈ zs.take len, (Lit.int k n).wf = true := by
  rcases h with ⟨rfl, rfl, rfl, rfl⟩ | ⟨x, rfl, hl, hm, hz, hcell, hwz⟩
  · exact ⟨Ints.nil _ _ _ _, Nat.le_refl _, by simp [maxLen], fun n hn => by cases hn⟩
  · refine ⟨⟨by simp; omega, fun hn => ?_⟩, hl, hm, fun n hn => hwz n (List.mem_of_mem_take hn)⟩
    obtain ⟨b, off, rfl, hc⟩ := ints_at hcell (by omega)
    have hb : b < w.heap.size := by
      have h0 := hc 0 (by omega)
      rcases Nat.lt_or_ge b w.heap.size with h | h
      · exact h
      · simp [World.cell?, Array.getElem?_eq_none h] at h0
    exact ⟨b, off, rfl, hb, fun j hj => by rw [hc j (by omega), List.getElem?_take_of_lt hj, List.getD_eq_getElem?_getD]⟩
theorem b8_of {l : List Int} (h : ∀ n ∈ l, (Lit.int .u8 n).wf = true) : ∀ n ∈ l, B8 n := fun n hn => by
  have := bounds_u8 (h n hn)
  unfold B8
  omega
theorem i64_of {l : List Int} (h : ∀ n ∈ l, (Lit.int .i64 n).wf = true) : ∀ n ∈ l, I64 n := fun n hn => by
  have := bounds_i64 (h n hn)
  unfold I64
  omega

/-- What may be appended to a slice of the call's own. -/
def Slc (k : IntKind) (w : World) (a : Option Addr) (n c : Nat) (zs : List Int) : Prop :=
  zs.length = n ∧ n ≤ c ∧ c ≤ maxLen ∧ ((a = none ∧ c = 0) ∨ ∃ x, a = some x ∧ ∀ i u, (zs.map (Value.int k))[i]? = some u → w.cell? (x.add i) = some u)
theorem Row.slc {k : IntKind} {w : World} {a : Option Addr} {len cap : Nat} {zs : List Int} (h : Row k w a len cap zs) : Slc k w a len cap (zs.take len) := by
  rcases h with ⟨rfl, rfl, rfl, rfl⟩ | ⟨x, rfl, hl, hm, hz, hcell, hwz⟩
  · exact ⟨rfl, Nat.le_refl _, by simp [maxLen], .inl ⟨rfl, rfl⟩⟩
  · refine ⟨by simp; omega, hl, hm, .inr ⟨x, rfl, fun i u hu => ?_⟩⟩
    rw [List.getElem?_map] at hu
    have hi : i < (zs.take len).length := by
      rcases Nat.lt_or_ge i (zs.take len).length with h | h
      · exact h
      · rw [List.getElem?_eq_none h] at hu; cases hu
    have hi2 : i < zs.length := by have := List.length_take_le' len zs; omega
    rw [hcell i hi2, ← hu, List.getElem?_eq_getElem hi, List.getElem_take, List.getD_eq_getElem?_getD, List.getElem?_eq_getElem hi2]
    rfl
theorem Slc.below {k : IntKind} {w w' : World} {a : Option Addr} {n c : Nat} {zs : List Int} (h : Slc k w a n c zs) (hb : Below w.heap.size w w') : Slc k w' a n c zs := by
  obtain ⟨h1, h2, h3, h4⟩ := h
  refine ⟨h1, h2, h3, ?_⟩
  rcases h4 with h4 | ⟨x, e, hx⟩
  · exact .inl h4
  · refine .inr ⟨x, e, fun i u hu => ?_⟩
    have hc := hx i u hu
    have hlt : (x.add i).block < w.heap.size := by
      rcases Nat.lt_or_ge (x.add i).block w.heap.size with h | h
      · exact h
      · simp [World.cell?, Array.getElem?_eq_none h] at hc
    exact (hb.cell hlt).trans hc

theorem own_slice {w : World} {base : Nat} {e : TypeId} {v : Value} {n : Nat} {xs : List Value} (h : w.ownsRow base e 1 v n xs) : ∃ A c, v = .slice A n c ∧ n ≤ c ∧ c ≤ maxLen := by
  rcases h.2 with ⟨rfl, rfl⟩ | ⟨g, cap, cur, rfl, _, _, h1, h2, _⟩
  · exact ⟨none, 0, rfl, Nat.le_refl _, by simp [maxLen]⟩
  · exact ⟨_, cap, rfl, h1, h2⟩
theorem own_slc {w : World} {base n c : Nat} {e : TypeId} {k : IntKind} {A : Option Addr} {zs : List Int} (h : w.ownsRow base e 1 (.slice A n c) n (zs.map (Value.int k))) : Slc k w A n c zs := by
  have hl : zs.length = n := by have := h.1; simpa using this
  rcases h.2 with ⟨e1, e2⟩ | ⟨g, cap, cur, e1, _, _, h1, h2, _⟩
  · injection e1 with ea eb ec
    exact ⟨hl, by omega, by rw [ec]; simp [maxLen], .inl ⟨ea, ec⟩⟩
  · injection e1 with ea eb ec
    subst ea ec
    exact ⟨hl, h1, h2, .inr ⟨_, rfl, h.cells rfl⟩⟩

/-- A function tells a bool and writes nothing that was there. -/
def Tells (b : Bool) (w : World) (e : Ending) (w' : World) : Prop := e = .returned (.bool b) ∧ Below w.heap.size w w'
theorem below_drewN' {B : Nat} {a w : World} (h : Below B a w) (n : Nat) : Below B a (w.drewN n) := ⟨h.os, h.tape, h.output, h.size, h.block⟩
theorem take_step {xs ys : List Int} {n k : Nat} {x : Int} (hx : xs.length = n) (hy : ys.length = n) (hk : k < n) (h : xs.take k = ys.take k) (h1 : xs[k]?.getD 0 = x) (h2 : ys[k]?.getD 0 = x) : Hid (xs.take (k + 1) = ys.take (k + 1)) := by
  show xs.take (k + 1) = ys.take (k + 1)
  rw [List.take_add_one, List.take_add_one, h]
  rw [List.getElem?_eq_getElem (by omega)] at h1 h2 ⊢
  rw [List.getElem?_eq_getElem (by omega)]
  simp only [Option.getD_some] at h1 h2
  rw [h1, h2]
theorem take_all {xs ys : List Int} {n : Nat} (hx : xs.length = n) (hy : ys.length = n) (h : xs.take n = ys.take n) : xs = ys := by
  rw [List.take_of_length_le (by omega), List.take_of_length_le (by omega)] at h
  exact h


/-- A slice of integers of kind k, in a block of plain cells of element type t below block B; nil let in. -/
def Lst (t : TypeId) (k : IntKind) (B : Nat) (w : World) (A : Option Addr) (n c : Nat) (zs : List Int) : Prop :=
  zs.length = n ∧ n ≤ c ∧ c ≤ maxLen ∧ ((A = none ∧ c = 0) ∨
    ∃ b off C, A = some ⟨b, off, none⟩ ∧ b < B ∧ w.heap[b]? = some (.cells C t (0, 0)) ∧ ∀ j, j < n → C[off + j]? = some (.int k (zs[j]?.getD 0)))
section
variable {t : TypeId} {k : IntKind} {B B' n c : Nat} {w w' : World} {A : Option Addr} {zs : List Int}
theorem Lst.len (h : Lst t k B w A n c zs) : zs.length = n := h.1
theorem Lst.le (h : Lst t k B w A n c zs) : n ≤ c := h.2.1
theorem Lst.cap (h : Lst t k B w A n c zs) : c ≤ maxLen := h.2.2.1
theorem Lst.none_ (t : TypeId) (k : IntKind) (B : Nat) (w : World) : Lst t k B w none 0 0 [] := ⟨rfl, Nat.le_refl _, by simp [maxLen], .inl ⟨rfl, rfl⟩⟩
theorem Lst.more (h : Lst t k B w A n c zs) (hB : B ≤ B') : Lst t k B' w A n c zs := by
  obtain ⟨h1, h2, h3, h4⟩ := h
  refine ⟨h1, h2, h3, ?_⟩
  rcases h4 with h4 | ⟨b, off, C, e, hb, hc⟩
  · exact .inl h4
  · exact .inr ⟨b, off, C, e, by omega, hc⟩
theorem Lst.keep (h : Lst t k B w A n c zs) (hk : ∀ b C, b < B → w.heap[b]? = some (.cells C t (0, 0)) → w'.heap[b]? = w.heap[b]?) : Lst t k B w' A n c zs := by
  obtain ⟨h1, h2, h3, h4⟩ := h
  refine ⟨h1, h2, h3, ?_⟩
  rcases h4 with h4 | ⟨b, off, C, e, hb, hc, hj⟩
  · exact .inl h4
  · exact .inr ⟨b, off, C, e, hb, (hk b C hb hc).trans hc, hj⟩
theorem Lst.below (h : Lst t k B w A n c zs) (hb : Below B w w') : Lst t k B w' A n c zs := h.keep fun b _ hB _ => hb.block b hB
theorem heap_lt {w : World} {b : Nat} {o : Obj} (h : w.heap[b]? = some o) : b < w.heap.size := (Array.getElem?_eq_some_iff.1 h).1
theorem Lst.grown {row : Option Nat} (h : Lst t k B w A n c zs) (hg : w.grownBy w' row) (hr : ∀ b C, row = some b → w.heap[b]? ≠ some (.cells C t (0, 0))) : Lst t k B w' A n c zs :=
  h.keep fun b C _ hc => hg.block b (heap_lt hc) (fun e => hr b C e.symm hc)
theorem Lst.ints (h : Lst t k B w A n c zs) : Ints k B w A n zs := by
  obtain ⟨h1, h2, h3, h4⟩ := h
  refine ⟨h1, fun hn => ?_⟩
  rcases h4 with ⟨rfl, h4⟩ | ⟨b, off, C, e, hb, hc, hj⟩
  · omega
  · exact ⟨b, off, e, hb, fun j hjn => by
      rw [cell_of_row w b (off + j) C t (0, 0) hc]
      exact hj j hjn⟩
theorem Lst.slc (h : Lst t k B w A n c zs) : Slc k w A n c zs := by
  obtain ⟨h1, h2, h3, h4⟩ := h
  refine ⟨h1, h2, h3, ?_⟩
  rcases h4 with h4 | ⟨b, off, C, e, hb, hc, hj⟩
  · exact .inl h4
  · refine .inr ⟨_, e, fun i u hu => ?_⟩
    rw [List.getElem?_map] at hu
    have hi : i < zs.length := by
      rcases Nat.lt_or_ge i zs.length with h | h
      · exact h
      · rw [List.getElem?_eq_none h] at hu; cases hu
    rw [List.getElem?_eq_getElem hi] at hu
    have := hj i (by omega)
    rw [List.getElem?_eq_getElem hi] at this
    rw [Addr.add_lit, cell_of_row w b (off + i) C t (0, 0) hc, this, ← hu]
    rfl
theorem Lst.of_own {base : Nat} (h : w.ownsRow base t 1 (.slice A n c) n (zs.map (Value.int k))) : Lst t k w.heap.size w A n c zs := by
  have hl : zs.length = n := by have := h.1; simpa using this
  rcases h.2 with ⟨e1, e2⟩ | ⟨g, cap, cur, e1, _, hg, h1, h2, h3, h4⟩
  · injection e1 with ea eb ec
    exact ⟨hl, by omega, by rw [ec]; simp [maxLen], .inl ⟨ea, ec⟩⟩
  · injection e1 with ea eb ec
    subst ea ec
    refine ⟨hl, h1, h2, .inr ⟨g, 0, cur, rfl, heap_lt hg, hg, fun j hj => ?_⟩⟩
    rw [Nat.zero_add]
    have e : (cur.toList.take (n * 1))[j]? = (zs.map (Value.int k))[j]? := by rw [h4]
    rw [List.getElem?_take_of_lt (by omega), Array.getElem?_toList, List.getElem?_map, List.getElem?_eq_getElem (by omega)] at e
    rw [e, List.getElem?_eq_getElem (by omega)]
    rfl
end

/-- One new cell, as a slice. -/
theorem slc_one (k : IntKind) (W : World) (x : Int) (t : TypeId) : Slc k (W.alloc (.cells #[.int k x] t)) (some ⟨W.heap.size, 0, none⟩) 1 1 [x] :=
  ⟨rfl, Nat.le_refl _, by simp [maxLen], .inr ⟨_, rfl, cell_one_new _ _ _⟩⟩

/-- append onto a row of the call's own, of one-cell integers, the source nil or not. -/
theorem wpList_append_slc {P : Program} {w : World} {ops : Array Oper} {rest : List Oper} {o : Oper} {a : Act} {Q : Exit → Act → World → Prop} (hgd : o.guard = none) (s x : Operand) (t : TypeId)
    (ho : o.op = .call { callee := .builtin .append, args := #[s, x], argTypes := #[t, t] })
    (base : Nat) (e : TypeId) (i : TypeInfo) (z : Value) (bytes : Nat) (ht : P.underlying t = some (.slice e)) (hi : P.info? e = some i) (hz : i.zero = some z)
    (hsize : i.size = 1) (hby : i.bytes = bytes) (hzs : z.cells.size = 1)
    (v : Value) (n : Nat) (xs : List Value) (hs : a.eval s = v) (hown : w.ownsRow base e 1 v n xs)
    (k : IntKind) (A : Option Addr) (m c : Nat) (zs : List Int) (hx : a.eval x = .slice A m c) (hz : Slc k w A m c zs)
    (h63 : n + m ≤ maxLen) (hbytes : (n + m) * bytes ≤ 140737488355328) (hbase : base ≤ w.heap.size)
    (h : ∀ A' c' w', w'.ownsRow base e 1 (.slice A' (n + m) c') (n + m) (xs ++ zs.map (Value.int k)) → w.grownBy w' v.ownBlock → wpList P ops Q rest (a.put o.dst (.slice A' (n + m) c')) w') : wpList P ops Q (o :: rest) a w := by
  obtain ⟨h1, h2, h3, h4⟩ := hz
  rcases h4 with ⟨rfl, rfl⟩ | ⟨ad, rfl, hc⟩
  · obtain rfl : m = 0 := by omega
    obtain rfl : zs = [] := List.eq_nil_of_length_eq_zero h1
    obtain ⟨A', c', rfl, _, _⟩ := own_slice hown
    exact wpList_append_own_none hgd s x t ho base e i 1 ht hi _ n xs hs hown hx (h A' c' w (by simpa using hown) ⟨rfl, rfl, rfl, Nat.le_refl _, fun _ _ _ => rfl⟩)
  · refine wpList_append_own _ hgd s x t ho base e i z 1 bytes ht hi ‹_› hsize hby hzs (by decide) v n xs hs hown ad m c (zs.map (Value.int k)) hx (by simp [h1]) hc (ints_oneCell _ _) h63 hbytes hbase ?_
    intro v' w' hown' hg _
    obtain ⟨A', c', rfl, _, _⟩ := own_slice hown'
    exact h A' c' w' hown' hg
end Go.Proofs.YtlgdcbhdmffnoaaDoor

namespace Go.Proofs.YtlgdcbhdmffnoaaDoor
open Go Go.RowKit

/-- Only blocks of S, and what is new, have turned. -/
structure Chg (S : Nat → Prop) (w w' : World) : Prop where
  os : w'.os = w.os
  tape : w'.tape = w.tape
  output : w'.output = w.output
  size : w.heap.size ≤ w'.heap.size
  block : ∀ b, b < w.heap.size → ¬ S b → w'.heap[b]? = w.heap[b]?

section
variable {S T : Nat → Prop} {a b c w w' : World}
theorem Chg.refl (S : Nat → Prop) (w : World) : Chg S w w := ⟨rfl, rfl, rfl, Nat.le_refl _, fun _ _ _ => rfl⟩
theorem Chg.trans (h : Chg S a b) (k : Chg T b c) (hT : ∀ x, x < a.heap.size → T x → S x) : Chg S a c :=
  ⟨k.os.trans h.os, k.tape.trans h.tape, k.output.trans h.output, Nat.le_trans h.size k.size, fun i hi hn => (k.block i (Nat.lt_of_lt_of_le hi h.size) (fun ht => hn (hT i hi ht))).trans (h.block i hi hn)⟩
theorem Chg.mono (h : Chg S w w') (hT : ∀ x, x < w.heap.size → S x → T x) : Chg T w w' := ⟨h.os, h.tape, h.output, h.size, fun i hi hn => h.block i hi (fun hs => hn (hT i hi hs))⟩
theorem Chg.of_below {B : Nat} (h : Below B w w') : Chg (B ≤ ·) w w' := ⟨h.os, h.tape, h.output, h.size, fun i _ hn => h.block i (by omega)⟩
theorem Chg.of_new (h : Below w.heap.size w w') (S : Nat → Prop) : Chg S w w' := ⟨h.os, h.tape, h.output, h.size, fun i hi _ => h.block i hi⟩
theorem Chg.of_grown {row : Option Nat} (h : w.grownBy w' row) : Chg (some · = row) w w' := ⟨h.os, h.tape, h.output, h.size, fun i hi hn => h.block i hi hn⟩
theorem Chg.below {B : Nat} (h : Chg S w w') (hS : ∀ b, b < w.heap.size → S b → B ≤ b) (hB : B ≤ w.heap.size) : Below B w w' :=
  ⟨h.os, h.tape, h.output, h.size, fun i hi => h.block i (by omega) (fun hs => by have := hS i (by omega) hs; omega)⟩
theorem Chg.drew (h : Chg S a w) : Chg S a w.drew := ⟨h.os, h.tape, h.output, h.size, h.block⟩
theorem Chg.drewN (h : Chg S a w) (n : Nat) : Chg S a (w.drewN n) := ⟨h.os, h.tape, h.output, h.size, h.block⟩
theorem Chg.new (h : Chg S a w) (k : Below w.heap.size w w') : Chg S a w' := h.trans (Chg.of_new k (fun _ => False)) (fun _ _ hf => hf.elim)
theorem Chg.alloc (h : Chg S a w) (o : Obj) : Chg S a (w.alloc o) := h.new ((Below.refl _ _).alloc (Nat.le_refl _) o)
theorem Chg.setCell (h : Chg S a w) {p : Addr} (hp : p.block < a.heap.size → S p.block) (u : Value) : Chg S a (w.setCell p u) :=
  h.trans (T := (· = p.block)) ⟨rfl, rfl, rfl, by simp [World.setCell], fun i _ hn => Below.heap_setCell _ _ _ _ hn⟩ (fun x hx e => by subst e; exact hp hx)
theorem Chg.grown {row : Option Nat} (h : Chg S a w) (hg : w.grownBy w' row) (hr : ∀ k, row = some k → k < a.heap.size → S k) : Chg S a w' :=
  h.trans (Chg.of_grown hg) (fun x hx e => hr x e.symm hx)
theorem Chg.cell (h : Chg S w w') {p : Addr} (hp : p.block < w.heap.size) (hn : ¬ S p.block) : w'.cell? p = w.cell? p := World.cell?_of_block (h.block _ hp hn)
end

/-- A natural as int. -/
def nv (n : Nat) : Value := .int .i64 (n : Int)
theorem map_nv (l : List Nat) : l.map nv = (l.map fun n : Nat => (n : Int)).map (Value.int .i64) := by rw [List.map_map]; rfl

/-- v is a slice of the call's own, at block base or later, that holds the naturals l. -/
def Own (w : World) (base : Nat) (v : Value) (l : List Nat) : Prop := w.ownsRow base 3 1 v l.length (l.map nv)

theorem heapT_ne {w : World} {g b : Nat} {cs C : Array Value} {t t' : TypeId} {f f' : Nat × Nat} (h : w.heap[g]? = some (.cells cs t f)) (h' : w.heap[b]? = some (.cells C t' f')) (hne : t ≠ t') : g ≠ b := by
  rintro rfl
  rw [h] at h'
  injection h' with h'
  injection h' with _ ht
  exact hne ht

section
variable {w w' : World} {base base' lo hi : Nat} {v : Value} {l : List Nat}
theorem own_of_block {t : TypeId} {size n : Nat} {xs : List Value} (h : w.ownsRow base t size v n xs) (hb : ∀ b, v.ownBlock = some b → w'.heap[b]? = w.heap[b]?) : w'.ownsRow base t size v n xs := by
  refine ⟨h.1, ?_⟩
  rcases h.2 with h0 | ⟨g, cap, cur, rfl, h1, h2, h3⟩
  · exact .inl h0
  · exact .inr ⟨g, cap, cur, rfl, h1, (hb g rfl).trans h2, h3⟩
theorem Own.keep (h : Own w base v l) (hb : ∀ b, v.ownBlock = some b → w'.heap[b]? = w.heap[b]?) : Own w' base v l := own_of_block h hb
theorem Own.lt (h : Own w base v l) : ∀ b, v.ownBlock = some b → base ≤ b ∧ b < w.heap.size := World.ownsRow.lt h
theorem Own.chg {S : Nat → Prop} (h : Own w base v l) (hc : Chg S w w') (hn : ∀ b, v.ownBlock = some b → ¬ S b) : Own w' base v l :=
  h.keep fun b hb => hc.block b (h.lt b hb).2 (hn b hb)
theorem Own.base_ (h : Own w base v l) (hb : ∀ b, v.ownBlock = some b → base' ≤ b) : Own w base' v l := by
  refine ⟨h.1, ?_⟩
  rcases h.2 with h0 | ⟨g, cap, cur, rfl, h1, h2⟩
  · exact .inl h0
  · exact .inr ⟨g, cap, cur, rfl, hb g rfl, h2⟩
theorem Own.nil (w : World) (base : Nat) : Own w base (.slice none 0 0) [] := ⟨rfl, .inl ⟨rfl, rfl⟩⟩
theorem Own.slice (h : Own w base v l) : ∃ A c, v = .slice A l.length c ∧ l.length ≤ c ∧ c ≤ maxLen := own_slice h
theorem Own.lst {A : Option Addr} {n c : Nat} (h : Own w base (.slice A n c) l) : n = l.length ∧ Lst 3 .i64 w.heap.size w A n c (l.map fun n : Nat => (n : Int)) := by
  obtain ⟨A', c', e, _, _⟩ := h.slice
  injection e with e1 e2 e3
  subst e2
  refine ⟨rfl, Lst.of_own (base := base) ?_⟩
  have := h
  unfold Own at this
  rw [map_nv] at this
  exact this
/-- A cell of an own row, and that it may be written. -/
theorem Own.cell {g n c : Nat} (h : Own w base (.slice (some ⟨g, 0, none⟩) n c) l) {i : Nat} (hi : i < l.length) : w.cell? ⟨g, i, none⟩ = some (nv (l[i]?.getD 0)) := by
  have := h.2
  rcases this with ⟨e, _⟩ | ⟨g', cap, cur, e, _, h2, h3, h4, h5, h6⟩
  · cases e
  · injection e with e1 e2 e3
    injection e1 with e1
    injection e1 with e1 e4
    subst e1
    rw [cell_of_row w g i cur 3 (0, 0) h2]
    have : (cur.toList.take (l.length * 1))[i]? = (l.map nv)[i]? := by rw [h6]
    rw [List.getElem?_take_of_lt (by omega), Array.getElem?_toList, List.getElem?_map] at this
    rw [this, List.getElem?_eq_getElem hi]
    rfl
theorem Own.frozen {g n c : Nat} (h : Own w base (.slice (some ⟨g, 0, none⟩) n c) l) (i : Nat) : w.frozen? ⟨g, i, none⟩ = false := by
  rcases h.2 with ⟨e, _⟩ | ⟨g', cap, cur, e, _, h2, _⟩
  · cases e
  · injection e with e1 e2 e3
    injection e1 with e1
    injection e1 with e1 e4
    subst e1
    simp [World.frozen?, h2]
theorem Own.form (h : Own w base v l) (hl : 0 < l.length) : ∃ g c, v = .slice (some ⟨g, 0, none⟩) l.length c ∧ base ≤ g ∧ g < w.heap.size ∧ l.length ≤ c ∧ c ≤ maxLen := by
  rcases h.2 with ⟨_, e⟩ | ⟨g, cap, cur, e, h1, h2, h3, h4, _⟩
  · omega
  · exact ⟨g, cap, e, h1, heap_lt h2, h3, h4⟩
end

/-- The same with integers. -/
def OwnI (w : World) (base : Nat) (v : Value) (zs : List Int) : Prop := w.ownsRow base 3 1 v zs.length (zs.map (Value.int .i64))
theorem own_iff {w : World} {base : Nat} {v : Value} {l : List Nat} : Own w base v l ↔ OwnI w base v (l.map fun n : Nat => (n : Int)) := by
  unfold Own OwnI
  rw [map_nv, List.length_map]

/-- Block g holds the slices cs, the i-th of which is a row of the naturals xs[i]; all of these blocks lie between lo and hi; no two rows share a block. -/
structure Rows2 (w : World) (lo hi g : Nat) (cs : Array Value) (xs : List (List Nat)) : Prop where
  len : cs.size = xs.length
  blk : w.heap[g]? = some (.cells cs 22 (0, 0))
  gin : lo ≤ g ∧ g < hi
  row : ∀ (i : Nat) (v : Value) (l : List Nat), cs[i]? = some v → xs[i]? = some l → Own w lo v l
  inn : ∀ (i : Nat) (v : Value) (b : Nat), cs[i]? = some v → v.ownBlock = some b → b < hi
  apart : ∀ (i j : Nat) (v v' : Value) (b : Nat), i ≠ j → cs[i]? = some v → cs[j]? = some v' → v.ownBlock = some b → v'.ownBlock = some b → False

section
variable {w w' : World} {lo hi hi' g : Nat} {cs : Array Value} {xs : List (List Nat)}
theorem Rows2.keep (h : Rows2 w lo hi g cs xs) (hb : ∀ b, lo ≤ b → b < hi → w'.heap[b]? = w.heap[b]?) : Rows2 w' lo hi g cs xs :=
  ⟨h.len, (hb g h.gin.1 h.gin.2).trans h.blk, h.gin, fun i v l hv hl => (h.row i v l hv hl).keep fun b hvb => hb b ((h.row i v l hv hl).lt b hvb).1 (h.inn i v b hv hvb), h.inn, h.apart⟩
theorem Rows2.chg {S : Nat → Prop} (h : Rows2 w lo hi g cs xs) (hc : Chg S w w') (hh : hi ≤ w.heap.size) (hn : ∀ b, lo ≤ b → b < hi → ¬ S b) : Rows2 w' lo hi g cs xs :=
  h.keep fun b h1 h2 => hc.block b (by omega) (hn b h1 h2)
theorem Rows2.below (h : Rows2 w lo hi g cs xs) (hb : Below hi w w') : Rows2 w' lo hi g cs xs := h.keep fun b _ h2 => hb.block b h2
theorem Rows2.more (h : Rows2 w lo hi g cs xs) (hh : hi ≤ hi') : Rows2 w lo hi' g cs xs :=
  ⟨h.len, h.blk, ⟨h.gin.1, by have := h.gin.2; omega⟩, h.row, fun i v b h1 h2 => by have := h.inn i v b h1 h2; omega, h.apart⟩
theorem Rows2.cell (h : Rows2 w lo hi g cs xs) (i : Nat) : w.cell? ⟨g, i, none⟩ = cs[i]? := cell_of_row w g i cs _ (0, 0) h.blk
theorem Rows2.frozen (h : Rows2 w lo hi g cs xs) (i : Nat) : w.frozen? ⟨g, i, none⟩ = false := by simp [World.frozen?, h.blk]
theorem Rows2.at_ (h : Rows2 w lo hi g cs xs) {i : Nat} (hi : i < xs.length) : ∃ v l, cs[i]? = some v ∧ xs[i]? = some l ∧ Own w lo v l ∧ w.cell? ⟨g, i, none⟩ = some v := by
  have hc : i < cs.size := by rw [h.len]; exact hi
  refine ⟨cs[i], xs[i], Array.getElem?_eq_getElem hc, List.getElem?_eq_getElem hi, h.row i _ _ (Array.getElem?_eq_getElem hc) (List.getElem?_eq_getElem hi), ?_⟩
  rw [h.cell, Array.getElem?_eq_getElem hc]
theorem own_ne_g (h : Rows2 w lo hi g cs xs) {v : Value} {l : List Nat} {base : Nat} (ho : Own w base v l) : v.ownBlock ≠ some g := by
  rcases ho.2 with ⟨rfl, _⟩ | ⟨g', cap, cur, rfl, _, h2, _⟩
  · simp [Value.ownBlock]
  · intro e
    have e : g' = g := by simpa [Value.ownBlock] using e
    subst e
    exact heapT_ne h.blk h2 (by decide) rfl
/-- Row i is turned: what held it, or a new block, holds the row l now. -/
theorem Rows2.upd (h : Rows2 w lo hi g cs xs) {i : Nat} {v v' : Value} {l : List Nat} (hv : cs[i]? = some v) (hh : hi ≤ hi')
    (hb : ∀ b, lo ≤ b → b < hi → v.ownBlock ≠ some b → w'.heap[b]? = w.heap[b]?) (ho : Own w' lo v' l) (hn : ∀ b, v'.ownBlock = some b → v.ownBlock = some b ∨ hi ≤ b) (hlt : ∀ b, v'.ownBlock = some b → b < hi') :
    Rows2 (w'.setCell ⟨g, i, none⟩ v') lo hi' g (cs.setIfInBounds i v') (xs.set i l) := by
  have hic : i < cs.size := (Array.getElem?_eq_some_iff.1 hv).1
  have hix : i < xs.length := by rw [← h.len]; exact hic
  have hgb : v.ownBlock ≠ some g := own_ne_g h (h.row i v _ hv (List.getElem?_eq_getElem hix))
  have hg' : w'.heap[g]? = some (.cells cs 22 (0, 0)) := (hb g h.gin.1 h.gin.2 hgb).trans h.blk
  have hg2 : v'.ownBlock ≠ some g := by
    rcases ho.2 with ⟨rfl, _⟩ | ⟨g', cap, cur, rfl, _, h2, _⟩
    · simp [Value.ownBlock]
    · intro e
      have e : g' = g := by simpa [Value.ownBlock] using e
      subst e
      exact heapT_ne hg' h2 (by decide) rfl
  have hset : ∀ b, b ≠ g → (w'.setCell ⟨g, i, none⟩ v').heap[b]? = w'.heap[b]? := fun b hb => Below.heap_setCell _ _ _ _ hb
  have hrow : ∀ j u m, j ≠ i → cs[j]? = some u → xs[j]? = some m → Own (w'.setCell ⟨g, i, none⟩ v') lo u m := fun j u m hj hu hm =>
    (h.row j u m hu hm).keep fun b hub => by
      have h1 := (h.row j u m hu hm).lt b hub
      have h2 := h.inn j u b hu hub
      have h3 : b ≠ g := fun e => by subst e; exact own_ne_g h (h.row j u m hu hm) hub
      rw [hset b h3]
      exact hb b h1.1 h2 (fun e => h.apart j i u v b hj hu hv hub e)
  refine ⟨by simp [h.len], ?_, ⟨h.gin.1, by have := h.gin.2; omega⟩, ?_, ?_, ?_⟩
  · simp only [World.setCell, Array.getElem?_modify]
    simp [hg']
  · intro j u m hu hm
    rw [Array.getElem?_setIfInBounds] at hu
    by_cases e : i = j
    · subst e
      rw [if_pos rfl, if_pos hic] at hu
      rw [List.getElem?_set_self hix] at hm
      injection hu with hu
      injection hm with hm
      subst hu hm
      exact ho.keep fun b hub => hset b (fun e => by subst e; exact hg2 hub)
    · rw [if_neg e] at hu
      rw [List.getElem?_set_ne e] at hm
      exact hrow j u m (Ne.symm e) hu hm
  · intro j u b hu hub
    rw [Array.getElem?_setIfInBounds] at hu
    by_cases e : i = j
    · rw [if_pos e, if_pos hic] at hu
      injection hu with hu
      subst hu
      exact hlt b hub
    · rw [if_neg e] at hu
      have := h.inn j u b hu hub
      omega
  · intro j k u u' b hjk hu hu' hub hub'
    rw [Array.getElem?_setIfInBounds] at hu hu'
    have key : ∀ (j : Nat) (u : Value), i ≠ j → cs[j]? = some u → u.ownBlock = some b → v'.ownBlock = some b → False := fun j u e hu hub hb' => by
      rcases hn b hb' with h1 | h1
      · exact h.apart j i u v b (Ne.symm e) hu hv hub h1
      · have := h.inn j u b hu hub
        omega
    by_cases e : i = j
    · by_cases e' : i = k
      · exact hjk (e.symm.trans e')
      · rw [if_pos e, if_pos hic] at hu
        rw [if_neg e'] at hu'
        injection hu with hu
        subst hu
        exact key k u' e' hu' hub' hub
    · rw [if_neg e] at hu
      by_cases e' : i = k
      · rw [if_pos e', if_pos hic] at hu'
        injection hu' with hu'
        subst hu'
        exact key j u e hu hub hub'
      · rw [if_neg e'] at hu'
        exact h.apart j k u u' b hjk hu hu' hub hub'
end

/-- The slice at A, of length m, lies below block B and holds the pairs E. -/
def Edg (w : World) (B : Nat) (A : Option Addr) (m : Nat) (E : List (Nat × Nat)) : Prop :=
  E.length = m ∧ (0 < m → ∃ b off, A = some ⟨b, off, none⟩ ∧ b < B ∧ ∀ j x y, E[j]? = some (x, y) → w.cell? ⟨b, off + j * 2, none⟩ = some (nv x) ∧ w.cell? ⟨b, off + j * 2 + 1, none⟩ = some (nv y))
section
variable {w w' : World} {B B' m : Nat} {A : Option Addr} {E : List (Nat × Nat)}
theorem Edg.below (h : Edg w B A m E) (hb : Below B w w') : Edg w' B A m E :=
  ⟨h.1, fun hm => by
    obtain ⟨b, off, e, hlt, hc⟩ := h.2 hm
    exact ⟨b, off, e, hlt, fun j x y hj => ⟨(hb.cell (p := ⟨b, off + j * 2, none⟩) hlt).trans (hc j x y hj).1, (hb.cell (p := ⟨b, off + j * 2 + 1, none⟩) hlt).trans (hc j x y hj).2⟩⟩⟩
theorem Edg.more (h : Edg w B A m E) (hB : B ≤ B') : Edg w B' A m E :=
  ⟨h.1, fun hm => by
    obtain ⟨b, off, e, hlt, hc⟩ := h.2 hm
    exact ⟨b, off, e, by omega, hc⟩⟩
theorem Edg.at_ (h : Edg w B A m E) {j : Nat} (hj : j < m) : ∃ b off x y, A = some ⟨b, off, none⟩ ∧ b < B ∧ E[j]? = some (x, y) ∧ w.cell? ⟨b, off + j * 2, none⟩ = some (nv x) ∧ w.cell? ⟨b, off + j * 2 + 1, none⟩ = some (nv y) := by
  obtain ⟨b, off, e, hlt, hc⟩ := h.2 (by omega)
  have hl : j < E.length := by rw [h.1]; exact hj
  obtain ⟨c1, c2⟩ := hc j E[j].1 E[j].2 (List.getElem?_eq_getElem hl)
  exact ⟨b, off, E[j].1, E[j].2, e, hlt, List.getElem?_eq_getElem hl, c1, c2⟩
end
end Go.Proofs.YtlgdcbhdmffnoaaDoor

namespace Go.Proofs.YtlgdcbhdmffnoaaDoor
open Go Go.RowKit

/-- The library's table. -/
def tabL : List Nat := [0, 1, 56, 2, 57, 49, 28, 3, 61, 58, 42, 50, 38, 29, 17, 4, 62, 47, 59, 36, 45, 43, 51, 22, 53, 39, 33, 30, 24, 18, 12, 5, 63, 55, 48, 27, 60, 41, 37, 16, 46, 35, 44, 21, 52, 32, 23, 11, 54, 26, 40, 15, 34, 20, 31, 10, 25, 14, 19, 9, 13, 8, 7, 6]
def Tab (w : World) : Prop := ∀ i, i < 64 → w.cell? ⟨0, i, none⟩ = some (.int .u8 ((tabL[i]?.getD 0 : Nat) : Int))
theorem Tab.keep {w w' : World} (h : Tab w) (hk : w'.heap[0]? = w.heap[0]?) : Tab w' := fun i hi => (World.cell?_of_block (w := w) hk).trans (h i hi)
/-- The lowest bit. -/
def tz (x : Nat) : Nat := ((List.range 64).find? fun i => x.testBit i).getD 64
def tzIdx (x : Nat) : Int := IntKind.u64.wrap (bits BinOp.and IntKind.u64 (x : Int) (IntKind.u64.wrap (-(x : Int))) * 285870213051353865) / 288230376151711744
theorem tz_all : ((List.range 1024).all fun x => x == 0 || (decide (0 ≤ tzIdx x) && decide (tzIdx x < 64) && (tabL[(tzIdx x).toNat]?.getD 0 == tz x) && decide (tz x < 64))) = true := by kernel_rfl
theorem tz_at {x : Nat} (h0 : 0 < x) (h1 : x < 1024) : 0 ≤ tzIdx x ∧ tzIdx x < 64 ∧ tabL[(tzIdx x).toNat]?.getD 0 = tz x ∧ tz x < 64 := by
  have := List.all_eq_true.1 tz_all x (List.mem_range.2 h1)
  simp only [Bool.or_eq_true, Bool.and_eq_true, decide_eq_true_eq, beq_iff_eq] at this
  rcases this with h | ⟨⟨⟨h2, h3⟩, h4⟩, h5⟩
  · omega
  · exact ⟨h2, h3, h4, h5⟩
set_option maxHeartbeats 1000000 in
theorem tz_any (x : Nat) (h0 : 0 < x) (h1 : x < 1024) (w : World) (hT : Tab w) :
    Calls Tryd.prog 68 #[.int .u64 (x : Int)] w fun e w' => e = .returned (.int .i64 ((tz x : Nat) : Int)) ∧ w = w' := by
  have hx0 : ((x : Int) == 0) = false := by simp; omega
  obtain ⟨k1, k2, k3, k4⟩ := tz_at h0 h1
  obtain ⟨j, hj⟩ := Int.eq_ofNat_of_zero_le k1
  rw [hj] at k2 k3
  have hj64 : j < 64 := by omega
  have hc := hT j hj64
  simp only [Int.toNat_natCast] at k3
  rw [k3] at hc
  unfold tzIdx at hj
  obtain ⟨r, hr⟩ : ∃ r, tz x = r := ⟨_, rfl⟩
  rw [hr] at hc k4 ⊢
  clear k1 k3 hT hr
  go_enter Tryd.func68, Tryd.ntmps68
  go_wp2
  go_ret
  exact ⟨rfl, rfl⟩
end Go.Proofs.YtlgdcbhdmffnoaaDoor

namespace Go.Proofs.YtlgdcbhdmffnoaaDoor
open Go Go.RowKit

set_option maxHeartbeats 1000000 in
theorem sameInts_any (A A' : Option Addr) (n n' c c' : Nat) (xs ys : List Int) (w : World) (hx : Ints .i64 w.heap.size w A n xs) (hy : Ints .i64 w.heap.size w A' n' ys) (hn : n ≤ 1000000) :
    Calls Tryd.prog 29 #[.slice A n c, .slice A' n' c'] w (Tells (decide (xs = ys)) w) := by
  by_cases hnn : n = n'
  · subst hnn
    have hlx := Lib.hid hx.len
    have hly := Lib.hid hy.len
    go_enter Tryd.func29, Tryd.ntmps29
    go_wp2
    go_loopw [5] (fun i wr => ∃ k : Nat, k ≤ n ∧ i = .int .i64 k ∧ Hid (xs.take k = ys.take k) ∧ Below w.heap.size w wr) (fun i _ => n - (intOf i).toNat)
    case atStart => exact ⟨0, Nat.zero_le _, rfl, rfl, Below.refl _ _⟩
    case round =>
      obtain ⟨k, hk, rfl, hT, hB⟩ := hrel
      by_cases hlt : k < n
      · obtain ⟨b, off, rfl, hb, hc⟩ := hx.at_ (by omega)
        obtain ⟨b', off', rfl, hb', hc'⟩ := hy.at_ (by omega)
        have hck := (hB.cell (p := ⟨b, off + k, none⟩) hb).trans (hc k hlt)
        have hck' := (hB.cell (p := ⟨b', off' + k, none⟩) hb').trans (hc' k hlt)
        clear hc hc' hx hy
        obtain ⟨x, ex⟩ : ∃ x, xs[k]?.getD 0 = x := ⟨_, rfl⟩
        obtain ⟨y, ey⟩ : ∃ y, ys[k]?.getD 0 = y := ⟨_, rfl⟩
        rw [ex] at hck
        rw [ey] at hck'
        have hxk := Lib.hid ex
        have hyk := Lib.hid ey
        clear ex ey
        by_cases he : x = y
        · subst he
          go_wp2
          go_quiet (fail)
          all_goals go_wp2
          go_roundw
          case rel => exact ⟨k + 1, by omega, by go_num, take_step hlx.out hly.out hlt hT.out hxk.out hyk.out, below_drewN' hB _⟩
          case measure => simp [intOf]; omega
        · have he1 : (x != y) = true := by simp [he]
          have hd := Lib.hid (show decide (xs = ys) = false by
            rw [decide_eq_false_iff_not]
            rintro rfl
            exact he (hxk.out.symm.trans hyk.out))
          clear he
          go_wp2
          go_quiet (fail)
          all_goals go_wp2
          go_ret
          exact ⟨by rw [hd.out]; rfl, below_drewN' hB _⟩
      · obtain rfl : k = n := by omega
        go_wp2
        go_ret
        exact ⟨by rw [decide_eq_true (take_all hlx.out hly.out hT.out)]; rfl, hB⟩
  · have hd := Lib.hid (show decide (xs = ys) = false by
      rw [decide_eq_false_iff_not]
      rintro rfl
      exact hnn (hx.len.symm.trans hy.len))
    have hne : ((n : Int) != n') = true := by rw [bne_iff_ne]; omega
    clear hnn hx hy
    go_enter Tryd.func29, Tryd.ntmps29
    go_wp2
    go_ret
    exact ⟨by rw [hd.out]; rfl, Below.refl _ _⟩

end Go.Proofs.YtlgdcbhdmffnoaaDoor

namespace Go.Proofs.YtlgdcbhdmffnoaaDoor
open Go Go.RowKit

def around (n m : Int) : Int := (if n < 0 then -(n + 1) else n) % m
theorem around_in (n m : Int) (hm : 0 < m) : 0 ≤ around n m ∧ around n m < m := ⟨Int.emod_nonneg _ (by omega), Int.emod_lt_of_pos _ hm⟩
set_option maxHeartbeats 400000 in
theorem around_any (n m : Int) (hn : I64 n) (hm : 0 < m) (hm2 : m ≤ 1099511627776) (w : World) :
    Calls Tryd.prog 13 #[.int .i64 n, .int .i64 m] w fun e w' => e = .returned (.int .i64 (around n m)) ∧ w = w' := by
  obtain ⟨n0, n1⟩ := hn
  have hz : (m == 0) = false := by simp; omega
  by_cases h : n < 0
  · have H := Lib.hid (show around n m = -((n + 1).tmod m) by unfold around; rw [if_pos h, ← Int.neg_tmod, Int.tmod_eq_emod_of_nonneg (by omega)])
    go_enter Tryd.func13, Tryd.ntmps13
    go_wp2
    go_ret
    exact ⟨by rw [H.out]; rfl, rfl⟩
  · have H := Lib.hid (show around n m = n % m by unfold around; rw [if_neg h])
    go_enter Tryd.func13, Tryd.ntmps13
    go_wp2
    go_ret
    exact ⟨by rw [H.out]; rfl, rfl⟩

end Go.Proofs.YtlgdcbhdmffnoaaDoor
