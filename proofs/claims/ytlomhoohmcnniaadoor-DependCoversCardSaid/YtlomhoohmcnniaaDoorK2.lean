/-
  Words for memory: slices of integers that came in, that are handed on, that the call owns; what becomes of them where memory grows. No function of the program.
  Words for memory: which blocks a call may turn ('Chg'), rows of naturals of the call's own, slices of such rows, lists of pairs. No function of the program.
  The contract of math/bits.TrailingZeros64 for small numbers. Conditions: the number is positive and less than 16384; the library's table lies as its text lays it.
  The values of causes, messages, events and questions. No function of the program.
  Go's == of causes and messages. No condition.
  Rows of messages' names. No function of the program.
  Runs: steps with their questions and the messages that they sent; which steps depend on each other. No function of the program.
  append onto an own row: whose block the new slice has; own rows through changes. No function of the program.
  The contract of the reference model's Around: a number within bounds. Condition: the bound is positive.
-/
import Derived.Test.YtlomhoohmcnniaaDoorRows
import Derived.Test.YtlomhoohmcnniaaDoorK1
import Derived.Below
import Derived.Laws.OwnMore
import Derived.Deep.Draws
import Derived.Deep.AppendLies
import Derived.Laws.Rows
import Derived.Laws.AppendOwnNone
import Derived.OwnWalk
import Derived.Maps.AppendAt
import Derived.WalkKit
import Derived.WalkSpells
import Derived.WalkLawsBesides
import Derived.OpenShut
import Derived.Deep.QuietTactic
import Derived.BigQuiet
import Derived.Lib.Hide
import Derived.RangeFuncBox
import Derived.Test.YtlomhoohmcnniaaDoorK5
import Derived.Laws.StructEq
import Derived.ChangeKeysEq
import Derived.Test.YtlomhoohmcnniaaDoorK9
import Derived.ArgAppend

namespace Go.Proofs.YtlomhoohmcnniaaDoor
open Go Go.RowKit

/-- The slice at A, of length n, lies below block B and holds the integers zs of kind k. -/
def Ints (k : IntKind) (B : Nat) (w : World) (A : Option Addr) (n : Nat) (zs : List Int) : Prop :=
  zs.length = n ∧ (0 < n → ∃ b off, A = some ⟨b, off, none⟩ ∧ b < B ∧ ∀ j, j < n → w.cell? ⟨b, off + j, none⟩ = some (.int k (zs[j]?.getD 0)))

section
variable {k : IntKind} {B B' n : Nat} {w w' : World} {A : Option Addr} {zs : List Int}
theorem Ints.len (h : Ints k B w A n zs) : zs.length = n := h.1
theorem Ints.nil (k : IntKind) (B : Nat) (w : World) (A : Option Addr) : Ints k B w A 0 [] := ⟨rfl, fun h => absurd h (by omega)⟩
theorem Ints.at_ (h : Ints k B w A n zs) (hn : 0 < n) : ∃ b off, A = some ⟨b, off, none⟩ ∧ b < B ∧ ∀ j, j < n → w.cell? ⟨b, off + j, none⟩ = some (.int k (zs[j]?.getD 0)) := h.2 hn
theorem Ints.keep (h : Ints k B w A n zs) (hk : ∀ p : Addr, p.block < B → w'.cell? p = w.cell? p) : Ints k B w' A n zs :=
  ⟨h.1, fun hn => by
    obtain ⟨b, off, e, hb, hc⟩ := h.2 hn
    exact ⟨b, off, e, hb, fun j hj => (hk ⟨b, off + j, none⟩ hb).trans (hc j hj)⟩⟩
theorem Ints.more (h : Ints k B w A n zs) (hB : B ≤ B') : Ints k B' w A n zs :=
  ⟨h.1, fun hn => by
    obtain ⟨b, off, e, hb, hc⟩ := h.2 hn
    exact ⟨b, off, e, by omega, hc⟩⟩
theorem Ints.below (h : Ints k B w A n zs) (hb : Below B w w') : Ints k B w' A n zs := h.keep fun _ hp => hb.cell hp
theorem Ints.alloc (h : Ints k B w A n zs) (hB : B ≤ w.heap.size) (o : Obj) : Ints k B (w.alloc o) A n zs := h.below ((Below.refl _ _).alloc hB o)
theorem Ints.drew (h : Ints k B w A n zs) : Ints k B w.drew A n zs := h.below (Below.refl _ _).drew
theorem Ints.setCell (h : Ints k B w A n zs) {p : Addr} (hB : B ≤ p.block) (u : Value) : Ints k B (w.setCell p u) A n zs := h.below ((Below.refl _ _).setCell hB u)

theorem getD_mem {l : List Int} {j : Nat} (h : j < l.length) : l[j]?.getD 0 ∈ l := by
  rw [List.getElem?_eq_getElem h]; exact List.getElem_mem h

/-- What a row that the call owns holds. -/
theorem Ints.of_own {base size : Nat} {e : TypeId} {a : Option Addr} {n c : Nat} {zs : List Int} (hs : size = 1) (h : w.ownsRow base e size (.slice a n c) n (zs.map (Value.int k))) : Ints k w.heap.size w a n zs := by
  subst hs
  refine ⟨by have := h.1; simpa using this, fun hn => ?_⟩
  obtain ⟨g, cap, hv, _, hlt⟩ := h.form hn
  have hA : a = some ⟨g, 0, none⟩ := by injection hv
  subst hA
  refine ⟨g, 0, rfl, hlt, fun j hj => ?_⟩
  have hl : zs.length = n := by have := h.1; simpa using this
  have hc := h.cells (g := g) rfl j (.int k (zs[j]?.getD 0)) (by rw [List.getElem?_map, List.getElem?_eq_getElem (by omega)]; rfl)
  rw [Addr.add_lit] at hc
  exact hc
end

/-- What a law is told of a slice of integers that came in. -/
def Row (k : IntKind) (w : World) (a : Option Addr) (len cap : Nat) (zs : List Int) : Prop :=
  (a = none ∧ len = 0 ∧ cap = 0 ∧ zs = []) ∨
  ∃ x, a = some x ∧ len ≤ cap ∧ cap ≤ maxLen ∧ zs.length = cap ∧ (∀ i, i < zs.length → w.cell? (x.add i) = some (.int k (zs.getD i 0))) ∧ ∀ n ∈ zs, (Lit.int k n).wf = true
theorem Row.ints {k : IntKind} {w : World} {a : Option Addr} {len cap : Nat} {zs : List Int} (h : Row k w a len cap zs) :
    Ints k w.heap.size w a len (zs.take len) ∧ len ≤ cap ∧ cap ≤ maxLen ∧ ∀ n ∈ zs.take len, (Lit.int k n).wf = true := by
  rcases h with ⟨rfl, rfl, rfl, rfl⟩ | ⟨x, rfl, hl, hm, hz, hcell, hwz⟩
  · exact ⟨Ints.nil _ _ _ _, Nat.le_refl _, by simp [maxLen], fun n hn => by cases hn⟩
  · refine ⟨⟨by simp; omega, fun hn => ?_⟩, hl, hm, fun n hn => hwz n (List.mem_of_mem_take hn)⟩
    obtain ⟨b, off, rfl, hc⟩ := ints_at hcell (by omega)
    have hb : b < w.heap.size := by
      have h0 := hc 0 (by omega)
      rcases Nat.lt_or_ge b w.heap.size with h | h
      · exact h
      · simp [World.cell?, Array.getElem?_eq_none h] at h0
    exact ⟨b, off, rfl, hb, fun j hj => by rw [hc j (by omega), List.getElem?_take_of_lt hj, List.getD_eq_getElem?_getD]⟩
theorem b8_of {l : List Int} (h : ∀ n ∈ l, (Lit.int .u8 n).wf = true) : ∀ n ∈ l, B8 n := fun n hn => by
  have := bounds_u8 (h n hn)
  unfold B8
  omega
theorem i64_of {l : List Int} (h : ∀ n ∈ l, (Lit.int .i64 n).wf = true) : ∀ n ∈ l, I64 n := fun n hn => by
  have := bounds_i64 (h n hn)
  unfold I64
  omega

/-- What may be appended to a slice of the call's own. -/
def Slc (k : IntKind) (w : World) (a : Option Addr) (n c : Nat) (zs : List Int) : Prop :=
  zs.length = n ∧ n ≤ c ∧ c ≤ maxLen ∧ ((a = none ∧ c = 0) ∨ ∃ x, a = some x ∧ ∀ i u, (zs.map (Value.int k))[i]? = some u → w.cell? (x.add i) = some u)
theorem Row.slc {k : IntKind} {w : World} {a : Option Addr} {len cap : Nat} {zs : List Int} (h : Row k w a len cap zs) : Slc k w a len cap (zs.take len) := by
  rcases h with ⟨rfl, rfl, rfl, rfl⟩ | ⟨x, rfl, hl, hm, hz, hcell, hwz⟩
  · exact ⟨rfl, Nat.le_refl _, by simp [maxLen], .inl ⟨rfl, rfl⟩⟩
  · refine ⟨by simp; omega, hl, hm, .inr ⟨x, rfl, fun i u hu => ?_⟩⟩
    rw [List.getElem?_map] at hu
    have hi : i < (zs.take len).length := by
      rcases Nat.lt_or_ge i (zs.take len).length with h | h
      · exact h
      · rw [List.getElem?_eq_none h] at hu; cases hu
    have hi2 : i < zs.length := by have := List.length_take_le' len zs; omega
    rw [hcell i hi2, ← hu, List.getElem?_eq_getElem hi, List.getElem_take, List.getD_eq_getElem?_getD, List.getElem?_eq_getElem hi2]
    rfl
theorem Slc.below {k : IntKind} {w w' : World} {a : Option Addr} {n c : Nat} {zs : List Int} (h : Slc k w a n c zs) (hb : Below w.heap.size w w') : Slc k w' a n c zs := by
  obtain ⟨h1, h2, h3, h4⟩ := h
  refine ⟨h1, h2, h3, ?_⟩
  rcases h4 with h4 | ⟨x, e, hx⟩
  · exact .inl h4
  · refine .inr ⟨x, e, fun i u hu => ?_⟩
    have hc := hx i u hu
    have hlt : (x.add i).block < w.heap.size := by
      rcases Nat.lt_or_ge (x.add i).block w.heap.size with h | h
      · exact h
      · simp [World.cell?, Array.getElem?_eq_none h] at hc
    exact (hb.cell hlt).trans hc

theorem own_slice {w : World} {base : Nat} {e : TypeId} {v : Value} {n : Nat} {xs : List Value} (h : w.ownsRow base e 1 v n xs) : ∃ A c, v = .slice A n c ∧ n ≤ c ∧ c ≤ maxLen := by
  rcases h.2 with ⟨rfl, rfl⟩ | ⟨g, cap, cur, rfl, _, _, h1, h2, _⟩
  · exact ⟨none, 0, rfl, Nat.le_refl _, by simp [maxLen]⟩
  · exact ⟨_, cap, rfl, h1, h2⟩
theorem own_slc {w : World} {base n c : Nat} {e : TypeId} {k : IntKind} {A : Option Addr} {zs : List Int} (h : w.ownsRow base e 1 (.slice A n c) n (zs.map (Value.int k))) : Slc k w A n c zs := by
  have hl : zs.length = n := by have := h.1; simpa using this
  rcases h.2 with ⟨e1, e2⟩ | ⟨g, cap, cur, e1, _, _, h1, h2, _⟩
  · injection e1 with ea eb ec
    exact ⟨hl, by omega, by rw [ec]; simp [maxLen], .inl ⟨ea, ec⟩⟩
  · injection e1 with ea eb ec
    subst ea ec
    exact ⟨hl, h1, h2, .inr ⟨_, rfl, h.cells rfl⟩⟩

/-- A function tells a bool and writes nothing that was there. -/
def Tells (b : Bool) (w : World) (e : Ending) (w' : World) : Prop := e = .returned (.bool b) ∧ Below w.heap.size w w'
theorem below_drewN' {B : Nat} {a w : World} (h : Below B a w) (n : Nat) : Below B a (w.drewN n) := ⟨h.os, h.tape, h.output, h.size, h.block⟩
theorem take_step {xs ys : List Int} {n k : Nat} {x : Int} (hx : xs.length = n) (hy : ys.length = n) (hk : k < n) (h : xs.take k = ys.take k) (h1 : xs[k]?.getD 0 = x) (h2 : ys[k]?.getD 0 = x) : Hid (xs.take (k + 1) = ys.take (k + 1)) := by
  show xs.take (k + 1) = ys.take (k + 1)
  rw [List.take_add_one, List.take_add_one, h]
  rw [List.getElem?_eq_getElem (by omega)] at h1 h2 ⊢
  rw [List.getElem?_eq_getElem (by omega)]
  simp only [Option.getD_some] at h1 h2
  rw [h1, h2]
theorem take_all {xs ys : List Int} {n : Nat} (hx : xs.length = n) (hy : ys.length = n) (h : xs.take n = ys.take n) : xs = ys := by
  rw [List.take_of_length_le (by omega), List.take_of_length_le (by omega)] at h
  exact h


/-- A slice of integers of kind k, in a block of plain cells of element type t below block B; nil let in. -/
def Lst (t : TypeId) (k : IntKind) (B : Nat) (w : World) (A : Option Addr) (n c : Nat) (zs : List Int) : Prop :=
  zs.length = n ∧ n ≤ c ∧ c ≤ maxLen ∧ ((A = none ∧ c = 0) ∨
    ∃ b off C, A = some ⟨b, off, none⟩ ∧ b < B ∧ w.heap[b]? = some (.cells C t (0, 0)) ∧ ∀ j, j < n → C[off + j]? = some (.int k (zs[j]?.getD 0)))
section
variable {t : TypeId} {k : IntKind} {B B' n c : Nat} {w w' : World} {A : Option Addr} {zs : List Int}
theorem Lst.len (h : Lst t k B w A n c zs) : zs.length = n := h.1
theorem Lst.le (h : Lst t k B w A n c zs) : n ≤ c := h.2.1
theorem Lst.cap (h : Lst t k B w A n c zs) : c ≤ maxLen := h.2.2.1
theorem Lst.none_ (t : TypeId) (k : IntKind) (B : Nat) (w : World) : Lst t k B w none 0 0 [] := ⟨rfl, Nat.le_refl _, by simp [maxLen], .inl ⟨rfl, rfl⟩⟩
theorem Lst.more (h : Lst t k B w A n c zs) (hB : B ≤ B') : Lst t k B' w A n c zs := by
  obtain ⟨h1, h2, h3, h4⟩ := h
  refine ⟨h1, h2, h3, ?_⟩
  rcases h4 with h4 | ⟨b, off, C, e, hb, hc⟩
  · exact .inl h4
  · exact .inr ⟨b, off, C, e, by omega, hc⟩
theorem Lst.keep (h : Lst t k B w A n c zs) (hk : ∀ b C, b < B → w.heap[b]? = some (.cells C t (0, 0)) → w'.heap[b]? = w.heap[b]?) : Lst t k B w' A n c zs := by
  obtain ⟨h1, h2, h3, h4⟩ := h
  refine ⟨h1, h2, h3, ?_⟩
  rcases h4 with h4 | ⟨b, off, C, e, hb, hc, hj⟩
  · exact .inl h4
  · exact .inr ⟨b, off, C, e, hb, (hk b C hb hc).trans hc, hj⟩
theorem Lst.below (h : Lst t k B w A n c zs) (hb : Below B w w') : Lst t k B w' A n c zs := h.keep fun b _ hB _ => hb.block b hB
theorem heap_lt {w : World} {b : Nat} {o : Obj} (h : w.heap[b]? = some o) : b < w.heap.size := (Array.getElem?_eq_some_iff.1 h).1
theorem Lst.grown {row : Option Nat} (h : Lst t k B w A n c zs) (hg : w.grownBy w' row) (hr : ∀ b C, row = some b → w.heap[b]? ≠ some (.cells C t (0, 0))) : Lst t k B w' A n c zs :=
  h.keep fun b C _ hc => hg.block b (heap_lt hc) (fun e => hr b C e.symm hc)
theorem Lst.ints (h : Lst t k B w A n c zs) : Ints k B w A n zs := by
  obtain ⟨h1, h2, h3, h4⟩ := h
  refine ⟨h1, fun hn => ?_⟩
  rcases h4 with ⟨rfl, h4⟩ | ⟨b, off, C, e, hb, hc, hj⟩
  · omega
  · exact ⟨b, off, e, hb, fun j hjn => by
      rw [cell_of_row w b (off + j) C t (0, 0) hc]
      exact hj j hjn⟩
theorem Lst.slc (h : Lst t k B w A n c zs) : Slc k w A n c zs := by
  obtain ⟨h1, h2, h3, h4⟩ := h
  refine ⟨h1, h2, h3, ?_⟩
  rcases h4 with h4 | ⟨b, off, C, e, hb, hc, hj⟩
  · exact .inl h4
  · refine .inr ⟨_, e, fun i u hu => ?_⟩
    rw [List.getElem?_map] at hu
    have hi : i < zs.length := by
      rcases Nat.lt_or_ge i zs.length with h | h
      · exact h
      · rw [List.getElem?_eq_none h] at hu; cases hu
    rw [List.getElem?_eq_getElem hi] at hu
    have := hj i (by omega)
    rw [List.getElem?_eq_getElem hi] at this
    rw [Addr.add_lit, cell_of_row w b (off + i) C t (0, 0) hc, this, ← hu]
    rfl
theorem Lst.of_own {base : Nat} (h : w.ownsRow base t 1 (.slice A n c) n (zs.map (Value.int k))) : Lst t k w.heap.size w A n c zs := by
  have hl : zs.length = n := by have := h.1; simpa using this
  rcases h.2 with ⟨e1, e2⟩ | ⟨g, cap, cur, e1, _, hg, h1, h2, h3, h4⟩
  · injection e1 with ea eb ec
    exact ⟨hl, by omega, by rw [ec]; simp [maxLen], .inl ⟨ea, ec⟩⟩
  · injection e1 with ea eb ec
    subst ea ec
    refine ⟨hl, h1, h2, .inr ⟨g, 0, cur, rfl, heap_lt hg, hg, fun j hj => ?_⟩⟩
    rw [Nat.zero_add]
    have e : (cur.toList.take (n * 1))[j]? = (zs.map (Value.int k))[j]? := by rw [h4]
    rw [List.getElem?_take_of_lt (by omega), Array.getElem?_toList, List.getElem?_map, List.getElem?_eq_getElem (by omega)] at e
    rw [e, List.getElem?_eq_getElem (by omega)]
    rfl
end

/-- One new cell, as a slice. -/
theorem slc_one (k : IntKind) (W : World) (x : Int) (t : TypeId) : Slc k (W.alloc (.cells #[.int k x] t)) (some ⟨W.heap.size, 0, none⟩) 1 1 [x] :=
  ⟨rfl, Nat.le_refl _, by simp [maxLen], .inr ⟨_, rfl, cell_one_new _ _ _⟩⟩

/-- append onto a row of the call's own, of one-cell integers, the source nil or not. -/
theorem wpList_append_slc {P : Program} {w : World} {ops : Array Oper} {rest : List Oper} {o : Oper} {a : Act} {Q : Exit → Act → World → Prop} (hgd : o.guard = none) (s x : Operand) (t : TypeId)
    (ho : o.op = .call { callee := .builtin .append, args := #[s, x], argTypes := #[t, t] })
    (base : Nat) (e : TypeId) (i : TypeInfo) (z : Value) (bytes : Nat) (ht : P.underlying t = some (.slice e)) (hi : P.info? e = some i) (hz : i.zero = some z)
    (hsize : i.size = 1) (hby : i.bytes = bytes) (hzs : z.cells.size = 1)
    (v : Value) (n : Nat) (xs : List Value) (hs : a.eval s = v) (hown : w.ownsRow base e 1 v n xs)
    (k : IntKind) (A : Option Addr) (m c : Nat) (zs : List Int) (hx : a.eval x = .slice A m c) (hz : Slc k w A m c zs)
    (h63 : n + m ≤ maxLen) (hbytes : (n + m) * bytes ≤ 140737488355328) (hbase : base ≤ w.heap.size)
    (h : ∀ A' c' w', w'.ownsRow base e 1 (.slice A' (n + m) c') (n + m) (xs ++ zs.map (Value.int k)) → w.grownBy w' v.ownBlock → wpList P ops Q rest (a.put o.dst (.slice A' (n + m) c')) w') : wpList P ops Q (o :: rest) a w := by
  obtain ⟨h1, h2, h3, h4⟩ := hz
  rcases h4 with ⟨rfl, rfl⟩ | ⟨ad, rfl, hc⟩
  · obtain rfl : m = 0 := by omega
    obtain rfl : zs = [] := List.eq_nil_of_length_eq_zero h1
    obtain ⟨A', c', rfl, _, _⟩ := own_slice hown
    exact wpList_append_own_none hgd s x t ho base e i 1 ht hi _ n xs hs hown hx (h A' c' w (by simpa using hown) ⟨rfl, rfl, rfl, Nat.le_refl _, fun _ _ _ => rfl⟩)
  · refine wpList_append_own _ hgd s x t ho base e i z 1 bytes ht hi ‹_› hsize hby hzs (by decide) v n xs hs hown ad m c (zs.map (Value.int k)) hx (by simp [h1]) hc (ints_oneCell _ _) h63 hbytes hbase ?_
    intro v' w' hown' hg _
    obtain ⟨A', c', rfl, _, _⟩ := own_slice hown'
    exact h A' c' w' hown' hg
end Go.Proofs.YtlomhoohmcnniaaDoor

namespace Go.Proofs.YtlomhoohmcnniaaDoor
open Go Go.RowKit

/-- Only blocks of S, and what is new, have turned. -/
structure Chg (S : Nat → Prop) (w w' : World) : Prop where
  os : w'.os = w.os
  tape : w'.tape = w.tape
  output : w'.output = w.output
  size : w.heap.size ≤ w'.heap.size
  block : ∀ b, b < w.heap.size → ¬ S b → w'.heap[b]? = w.heap[b]?

section
variable {S T : Nat → Prop} {a b c w w' : World}
theorem Chg.refl (S : Nat → Prop) (w : World) : Chg S w w := ⟨rfl, rfl, rfl, Nat.le_refl _, fun _ _ _ => rfl⟩
theorem Chg.trans (h : Chg S a b) (k : Chg T b c) (hT : ∀ x, x < a.heap.size → T x → S x) : Chg S a c :=
  ⟨k.os.trans h.os, k.tape.trans h.tape, k.output.trans h.output, Nat.le_trans h.size k.size, fun i hi hn => (k.block i (Nat.lt_of_lt_of_le hi h.size) (fun ht => hn (hT i hi ht))).trans (h.block i hi hn)⟩
theorem Chg.mono (h : Chg S w w') (hT : ∀ x, x < w.heap.size → S x → T x) : Chg T w w' := ⟨h.os, h.tape, h.output, h.size, fun i hi hn => h.block i hi (fun hs => hn (hT i hi hs))⟩
theorem Chg.of_below {B : Nat} (h : Below B w w') : Chg (B ≤ ·) w w' := ⟨h.os, h.tape, h.output, h.size, fun i _ hn => h.block i (by omega)⟩
theorem Chg.of_new (h : Below w.heap.size w w') (S : Nat → Prop) : Chg S w w' := ⟨h.os, h.tape, h.output, h.size, fun i hi _ => h.block i hi⟩
theorem Chg.of_grown {row : Option Nat} (h : w.grownBy w' row) : Chg (some · = row) w w' := ⟨h.os, h.tape, h.output, h.size, fun i hi hn => h.block i hi hn⟩
theorem Chg.below {B : Nat} (h : Chg S w w') (hS : ∀ b, b < w.heap.size → S b → B ≤ b) (hB : B ≤ w.heap.size) : Below B w w' :=
  ⟨h.os, h.tape, h.output, h.size, fun i hi => h.block i (by omega) (fun hs => by have := hS i (by omega) hs; omega)⟩
theorem Chg.drew (h : Chg S a w) : Chg S a w.drew := ⟨h.os, h.tape, h.output, h.size, h.block⟩
theorem Chg.drewN (h : Chg S a w) (n : Nat) : Chg S a (w.drewN n) := ⟨h.os, h.tape, h.output, h.size, h.block⟩
theorem Chg.new (h : Chg S a w) (k : Below w.heap.size w w') : Chg S a w' := h.trans (Chg.of_new k (fun _ => False)) (fun _ _ hf => hf.elim)
theorem Chg.alloc (h : Chg S a w) (o : Obj) : Chg S a (w.alloc o) := h.new ((Below.refl _ _).alloc (Nat.le_refl _) o)
theorem Chg.setCell (h : Chg S a w) {p : Addr} (hp : p.block < a.heap.size → S p.block) (u : Value) : Chg S a (w.setCell p u) :=
  h.trans (T := (· = p.block)) ⟨rfl, rfl, rfl, by simp [World.setCell], fun i _ hn => Below.heap_setCell _ _ _ _ hn⟩ (fun x hx e => by subst e; exact hp hx)
theorem Chg.grown {row : Option Nat} (h : Chg S a w) (hg : w.grownBy w' row) (hr : ∀ k, row = some k → k < a.heap.size → S k) : Chg S a w' :=
  h.trans (Chg.of_grown hg) (fun x hx e => hr x e.symm hx)
theorem Chg.cell (h : Chg S w w') {p : Addr} (hp : p.block < w.heap.size) (hn : ¬ S p.block) : w'.cell? p = w.cell? p := World.cell?_of_block (h.block _ hp hn)
end

/-- A natural as int. -/
def nv (n : Nat) : Value := .int .i64 (n : Int)
theorem map_nv (l : List Nat) : l.map nv = (l.map fun n : Nat => (n : Int)).map (Value.int .i64) := by rw [List.map_map]; rfl

/-- v is a slice of the call's own, at block base or later, that holds the naturals l. -/
def Own (w : World) (base : Nat) (v : Value) (l : List Nat) : Prop := w.ownsRow base 3 1 v l.length (l.map nv)

theorem heapT_ne {w : World} {g b : Nat} {cs C : Array Value} {t t' : TypeId} {f f' : Nat × Nat} (h : w.heap[g]? = some (.cells cs t f)) (h' : w.heap[b]? = some (.cells C t' f')) (hne : t ≠ t') : g ≠ b := by
  rintro rfl
  rw [h] at h'
  injection h' with h'
  injection h' with _ ht
  exact hne ht

section
variable {w w' : World} {base base' lo hi : Nat} {v : Value} {l : List Nat}
theorem own_of_block {t : TypeId} {size n : Nat} {xs : List Value} (h : w.ownsRow base t size v n xs) (hb : ∀ b, v.ownBlock = some b → w'.heap[b]? = w.heap[b]?) : w'.ownsRow base t size v n xs := by
  refine ⟨h.1, ?_⟩
  rcases h.2 with h0 | ⟨g, cap, cur, rfl, h1, h2, h3⟩
  · exact .inl h0
  · exact .inr ⟨g, cap, cur, rfl, h1, (hb g rfl).trans h2, h3⟩
theorem Own.keep (h : Own w base v l) (hb : ∀ b, v.ownBlock = some b → w'.heap[b]? = w.heap[b]?) : Own w' base v l := own_of_block h hb
theorem Own.lt (h : Own w base v l) : ∀ b, v.ownBlock = some b → base ≤ b ∧ b < w.heap.size := World.ownsRow.lt h
theorem Own.chg {S : Nat → Prop} (h : Own w base v l) (hc : Chg S w w') (hn : ∀ b, v.ownBlock = some b → ¬ S b) : Own w' base v l :=
  h.keep fun b hb => hc.block b (h.lt b hb).2 (hn b hb)
theorem Own.base_ (h : Own w base v l) (hb : ∀ b, v.ownBlock = some b → base' ≤ b) : Own w base' v l := by
  refine ⟨h.1, ?_⟩
  rcases h.2 with h0 | ⟨g, cap, cur, rfl, h1, h2⟩
  · exact .inl h0
  · exact .inr ⟨g, cap, cur, rfl, hb g rfl, h2⟩
theorem Own.nil (w : World) (base : Nat) : Own w base (.slice none 0 0) [] := ⟨rfl, .inl ⟨rfl, rfl⟩⟩
theorem Own.slice (h : Own w base v l) : ∃ A c, v = .slice A l.length c ∧ l.length ≤ c ∧ c ≤ maxLen := own_slice h
theorem Own.lst {A : Option Addr} {n c : Nat} (h : Own w base (.slice A n c) l) : n = l.length ∧ Lst 3 .i64 w.heap.size w A n c (l.map fun n : Nat => (n : Int)) := by
  obtain ⟨A', c', e, _, _⟩ := h.slice
  injection e with e1 e2 e3
  subst e2
  refine ⟨rfl, Lst.of_own (base := base) ?_⟩
  have := h
  unfold Own at this
  rw [map_nv] at this
  exact this
/-- A cell of an own row, and that it may be written. -/
theorem Own.cell {g n c : Nat} (h : Own w base (.slice (some ⟨g, 0, none⟩) n c) l) {i : Nat} (hi : i < l.length) : w.cell? ⟨g, i, none⟩ = some (nv (l[i]?.getD 0)) := by
  have := h.2
  rcases this with ⟨e, _⟩ | ⟨g', cap, cur, e, _, h2, h3, h4, h5, h6⟩
  · cases e
  · injection e with e1 e2 e3
    injection e1 with e1
    injection e1 with e1 e4
    subst e1
    rw [cell_of_row w g i cur 3 (0, 0) h2]
    have : (cur.toList.take (l.length * 1))[i]? = (l.map nv)[i]? := by rw [h6]
    rw [List.getElem?_take_of_lt (by omega), Array.getElem?_toList, List.getElem?_map] at this
    rw [this, List.getElem?_eq_getElem hi]
    rfl
theorem Own.frozen {g n c : Nat} (h : Own w base (.slice (some ⟨g, 0, none⟩) n c) l) (i : Nat) : w.frozen? ⟨g, i, none⟩ = false := by
  rcases h.2 with ⟨e, _⟩ | ⟨g', cap, cur, e, _, h2, _⟩
  · cases e
  · injection e with e1 e2 e3
    injection e1 with e1
    injection e1 with e1 e4
    subst e1
    simp [World.frozen?, h2]
theorem Own.form (h : Own w base v l) (hl : 0 < l.length) : ∃ g c, v = .slice (some ⟨g, 0, none⟩) l.length c ∧ base ≤ g ∧ g < w.heap.size ∧ l.length ≤ c ∧ c ≤ maxLen := by
  rcases h.2 with ⟨_, e⟩ | ⟨g, cap, cur, e, h1, h2, h3, h4, _⟩
  · omega
  · exact ⟨g, cap, e, h1, heap_lt h2, h3, h4⟩
end

/-- The same with integers. -/
def OwnI (w : World) (base : Nat) (v : Value) (zs : List Int) : Prop := w.ownsRow base 3 1 v zs.length (zs.map (Value.int .i64))
theorem own_iff {w : World} {base : Nat} {v : Value} {l : List Nat} : Own w base v l ↔ OwnI w base v (l.map fun n : Nat => (n : Int)) := by
  unfold Own OwnI
  rw [map_nv, List.length_map]

/-- Block g holds the slices cs, the i-th of which is a row of the naturals xs[i]; all of these blocks lie between lo and hi; no two rows share a block. -/
structure Rows2 (w : World) (lo hi g : Nat) (cs : Array Value) (xs : List (List Nat)) : Prop where
  len : cs.size = xs.length
  blk : w.heap[g]? = some (.cells cs 22 (0, 0))
  gin : lo ≤ g ∧ g < hi
  row : ∀ (i : Nat) (v : Value) (l : List Nat), cs[i]? = some v → xs[i]? = some l → Own w lo v l
  inn : ∀ (i : Nat) (v : Value) (b : Nat), cs[i]? = some v → v.ownBlock = some b → b < hi
  apart : ∀ (i j : Nat) (v v' : Value) (b : Nat), i ≠ j → cs[i]? = some v → cs[j]? = some v' → v.ownBlock = some b → v'.ownBlock = some b → False

section
variable {w w' : World} {lo hi hi' g : Nat} {cs : Array Value} {xs : List (List Nat)}
theorem Rows2.keep (h : Rows2 w lo hi g cs xs) (hb : ∀ b, lo ≤ b → b < hi → w'.heap[b]? = w.heap[b]?) : Rows2 w' lo hi g cs xs :=
  ⟨h.len, (hb g h.gin.1 h.gin.2).trans h.blk, h.gin, fun i v l hv hl => (h.row i v l hv hl).keep fun b hvb => hb b ((h.row i v l hv hl).lt b hvb).1 (h.inn i v b hv hvb), h.inn, h.apart⟩
theorem Rows2.chg {S : Nat → Prop} (h : Rows2 w lo hi g cs xs) (hc : Chg S w w') (hh : hi ≤ w.heap.size) (hn : ∀ b, lo ≤ b → b < hi → ¬ S b) : Rows2 w' lo hi g cs xs :=
  h.keep fun b h1 h2 => hc.block b (by omega) (hn b h1 h2)
theorem Rows2.below (h : Rows2 w lo hi g cs xs) (hb : Below hi w w') : Rows2 w' lo hi g cs xs := h.keep fun b _ h2 => hb.block b h2
theorem Rows2.more (h : Rows2 w lo hi g cs xs) (hh : hi ≤ hi') : Rows2 w lo hi' g cs xs :=
  ⟨h.len, h.blk, ⟨h.gin.1, by have := h.gin.2; omega⟩, h.row, fun i v b h1 h2 => by have := h.inn i v b h1 h2; omega, h.apart⟩
theorem Rows2.cell (h : Rows2 w lo hi g cs xs) (i : Nat) : w.cell? ⟨g, i, none⟩ = cs[i]? := cell_of_row w g i cs _ (0, 0) h.blk
theorem Rows2.frozen (h : Rows2 w lo hi g cs xs) (i : Nat) : w.frozen? ⟨g, i, none⟩ = false := by simp [World.frozen?, h.blk]
theorem Rows2.at_ (h : Rows2 w lo hi g cs xs) {i : Nat} (hi : i < xs.length) : ∃ v l, cs[i]? = some v ∧ xs[i]? = some l ∧ Own w lo v l ∧ w.cell? ⟨g, i, none⟩ = some v := by
  have hc : i < cs.size := by rw [h.len]; exact hi
  refine ⟨cs[i], xs[i], Array.getElem?_eq_getElem hc, List.getElem?_eq_getElem hi, h.row i _ _ (Array.getElem?_eq_getElem hc) (List.getElem?_eq_getElem hi), ?_⟩
  rw [h.cell, Array.getElem?_eq_getElem hc]
theorem own_ne_g (h : Rows2 w lo hi g cs xs) {v : Value} {l : List Nat} {base : Nat} (ho : Own w base v l) : v.ownBlock ≠ some g := by
  rcases ho.2 with ⟨rfl, _⟩ | ⟨g', cap, cur, rfl, _, h2, _⟩
  · simp [Value.ownBlock]
  · intro e
    have e : g' = g := by simpa [Value.ownBlock] using e
    subst e
    exact heapT_ne h.blk h2 (by decide) rfl
/-- Row i is turned: what held it, or a new block, holds the row l now. -/
theorem Rows2.upd (h : Rows2 w lo hi g cs xs) {i : Nat} {v v' : Value} {l : List Nat} (hv : cs[i]? = some v) (hh : hi ≤ hi')
    (hb : ∀ b, lo ≤ b → b < hi → v.ownBlock ≠ some b → w'.heap[b]? = w.heap[b]?) (ho : Own w' lo v' l) (hn : ∀ b, v'.ownBlock = some b → v.ownBlock = some b ∨ hi ≤ b) (hlt : ∀ b, v'.ownBlock = some b → b < hi') :
    Rows2 (w'.setCell ⟨g, i, none⟩ v') lo hi' g (cs.setIfInBounds i v') (xs.set i l) := by
  have hic : i < cs.size := (Array.getElem?_eq_some_iff.1 hv).1
  have hix : i < xs.length := by rw [← h.len]; exact hic
  have hgb : v.ownBlock ≠ some g := own_ne_g h (h.row i v _ hv (List.getElem?_eq_getElem hix))
  have hg' : w'.heap[g]? = some (.cells cs 22 (0, 0)) := (hb g h.gin.1 h.gin.2 hgb).trans h.blk
  have hg2 : v'.ownBlock ≠ some g := by
    rcases ho.2 with ⟨rfl, _⟩ | ⟨g', cap, cur, rfl, _, h2, _⟩
    · simp [Value.ownBlock]
    · intro e
      have e : g' = g := by simpa [Value.ownBlock] using e
      subst e
      exact heapT_ne hg' h2 (by decide) rfl
  have hset : ∀ b, b ≠ g → (w'.setCell ⟨g, i, none⟩ v').heap[b]? = w'.heap[b]? := fun b hb => Below.heap_setCell _ _ _ _ hb
  have hrow : ∀ j u m, j ≠ i → cs[j]? = some u → xs[j]? = some m → Own (w'.setCell ⟨g, i, none⟩ v') lo u m := fun j u m hj hu hm =>
    (h.row j u m hu hm).keep fun b hub => by
      have h1 := (h.row j u m hu hm).lt b hub
      have h2 := h.inn j u b hu hub
      have h3 : b ≠ g := fun e => by subst e; exact own_ne_g h (h.row j u m hu hm) hub
      rw [hset b h3]
      exact hb b h1.1 h2 (fun e => h.apart j i u v b hj hu hv hub e)
  refine ⟨by simp [h.len], ?_, ⟨h.gin.1, by have := h.gin.2; omega⟩, ?_, ?_, ?_⟩
  · simp only [World.setCell, Array.getElem?_modify]
    simp [hg']
  · intro j u m hu hm
    rw [Array.getElem?_setIfInBounds] at hu
    by_cases e : i = j
    · subst e
      rw [if_pos rfl, if_pos hic] at hu
      rw [List.getElem?_set_self hix] at hm
      injection hu with hu
      injection hm with hm
      subst hu hm
      exact ho.keep fun b hub => hset b (fun e => by subst e; exact hg2 hub)
    · rw [if_neg e] at hu
      rw [List.getElem?_set_ne e] at hm
      exact hrow j u m (Ne.symm e) hu hm
  · intro j u b hu hub
    rw [Array.getElem?_setIfInBounds] at hu
    by_cases e : i = j
    · rw [if_pos e, if_pos hic] at hu
      injection hu with hu
      subst hu
      exact hlt b hub
    · rw [if_neg e] at hu
      have := h.inn j u b hu hub
      omega
  · intro j k u u' b hjk hu hu' hub hub'
    rw [Array.getElem?_setIfInBounds] at hu hu'
    have key : ∀ (j : Nat) (u : Value), i ≠ j → cs[j]? = some u → u.ownBlock = some b → v'.ownBlock = some b → False := fun j u e hu hub hb' => by
      rcases hn b hb' with h1 | h1
      · exact h.apart j i u v b (Ne.symm e) hu hv hub h1
      · have := h.inn j u b hu hub
        omega
    by_cases e : i = j
    · by_cases e' : i = k
      · exact hjk (e.symm.trans e')
      · rw [if_pos e, if_pos hic] at hu
        rw [if_neg e'] at hu'
        injection hu with hu
        subst hu
        exact key k u' e' hu' hub' hub
    · rw [if_neg e] at hu
      by_cases e' : i = k
      · rw [if_pos e', if_pos hic] at hu'
        injection hu' with hu'
        subst hu'
        exact key j u e hu hub hub'
      · rw [if_neg e'] at hu'
        exact h.apart j k u u' b hjk hu hu' hub hub'
end

/-- The slice at A, of length m, lies below block B and holds the pairs E. -/
def Edg (w : World) (B : Nat) (A : Option Addr) (m : Nat) (E : List (Nat × Nat)) : Prop :=
  E.length = m ∧ (0 < m → ∃ b off, A = some ⟨b, off, none⟩ ∧ b < B ∧ ∀ j x y, E[j]? = some (x, y) → w.cell? ⟨b, off + j * 2, none⟩ = some (nv x) ∧ w.cell? ⟨b, off + j * 2 + 1, none⟩ = some (nv y))
section
variable {w w' : World} {B B' m : Nat} {A : Option Addr} {E : List (Nat × Nat)}
theorem Edg.below (h : Edg w B A m E) (hb : Below B w w') : Edg w' B A m E :=
  ⟨h.1, fun hm => by
    obtain ⟨b, off, e, hlt, hc⟩ := h.2 hm
    exact ⟨b, off, e, hlt, fun j x y hj => ⟨(hb.cell (p := ⟨b, off + j * 2, none⟩) hlt).trans (hc j x y hj).1, (hb.cell (p := ⟨b, off + j * 2 + 1, none⟩) hlt).trans (hc j x y hj).2⟩⟩⟩
theorem Edg.more (h : Edg w B A m E) (hB : B ≤ B') : Edg w B' A m E :=
  ⟨h.1, fun hm => by
    obtain ⟨b, off, e, hlt, hc⟩ := h.2 hm
    exact ⟨b, off, e, by omega, hc⟩⟩
theorem Edg.at_ (h : Edg w B A m E) {j : Nat} (hj : j < m) : ∃ b off x y, A = some ⟨b, off, none⟩ ∧ b < B ∧ E[j]? = some (x, y) ∧ w.cell? ⟨b, off + j * 2, none⟩ = some (nv x) ∧ w.cell? ⟨b, off + j * 2 + 1, none⟩ = some (nv y) := by
  obtain ⟨b, off, e, hlt, hc⟩ := h.2 (by omega)
  have hl : j < E.length := by rw [h.1]; exact hj
  obtain ⟨c1, c2⟩ := hc j E[j].1 E[j].2 (List.getElem?_eq_getElem hl)
  exact ⟨b, off, E[j].1, E[j].2, e, hlt, List.getElem?_eq_getElem hl, c1, c2⟩
end
end Go.Proofs.YtlomhoohmcnniaaDoor

namespace Go.Proofs.YtlomhoohmcnniaaDoor
open Go Go.RowKit

/-- The library's table. -/
def tabL : List Nat := [0, 1, 56, 2, 57, 49, 28, 3, 61, 58, 42, 50, 38, 29, 17, 4, 62, 47, 59, 36, 45, 43, 51, 22, 53, 39, 33, 30, 24, 18, 12, 5, 63, 55, 48, 27, 60, 41, 37, 16, 46, 35, 44, 21, 52, 32, 23, 11, 54, 26, 40, 15, 34, 20, 31, 10, 25, 14, 19, 9, 13, 8, 7, 6]
def Tab (w : World) : Prop := ∀ i, i < 64 → w.cell? ⟨0, i, none⟩ = some (.int .u8 ((tabL[i]?.getD 0 : Nat) : Int))
theorem Tab.keep {w w' : World} (h : Tab w) (hk : w'.heap[0]? = w.heap[0]?) : Tab w' := fun i hi => (World.cell?_of_block (w := w) hk).trans (h i hi)
/-- The lowest bit. -/
def tz (x : Nat) : Nat := ((List.range 64).find? fun i => x.testBit i).getD 64
def tzIdx (x : Nat) : Int := IntKind.u64.wrap (bits BinOp.and IntKind.u64 (x : Int) (IntKind.u64.wrap (-(x : Int))) * 285870213051353865) / 288230376151711744
theorem tz_all : ((List.range 16384).all fun x => x == 0 || (decide (0 ≤ tzIdx x) && decide (tzIdx x < 64) && (tabL[(tzIdx x).toNat]?.getD 0 == tz x) && decide (tz x < 64))) = true := by kernel_rfl
theorem tz_at {x : Nat} (h0 : 0 < x) (h1 : x < 16384) : 0 ≤ tzIdx x ∧ tzIdx x < 64 ∧ tabL[(tzIdx x).toNat]?.getD 0 = tz x ∧ tz x < 64 := by
  have := List.all_eq_true.1 tz_all x (List.mem_range.2 h1)
  simp only [Bool.or_eq_true, Bool.and_eq_true, decide_eq_true_eq, beq_iff_eq] at this
  rcases this with h | ⟨⟨⟨h2, h3⟩, h4⟩, h5⟩
  · omega
  · exact ⟨h2, h3, h4, h5⟩
set_option maxHeartbeats 1000000 in
theorem tz_any (x : Nat) (h0 : 0 < x) (h1 : x < 16384) (w : World) (hT : Tab w) :
    Calls Tryd.prog 57 #[.int .u64 (x : Int)] w fun e w' => e = .returned (.int .i64 ((tz x : Nat) : Int)) ∧ w = w' := by
  have hx0 : ((x : Int) == 0) = false := by simp; omega
  obtain ⟨k1, k2, k3, k4⟩ := tz_at h0 h1
  obtain ⟨j, hj⟩ := Int.eq_ofNat_of_zero_le k1
  rw [hj] at k2 k3
  have hj64 : j < 64 := by omega
  have hc := hT j hj64
  simp only [Int.toNat_natCast] at k3
  rw [k3] at hc
  unfold tzIdx at hj
  obtain ⟨r, hr⟩ : ∃ r, tz x = r := ⟨_, rfl⟩
  rw [hr] at hc k4 ⊢
  clear k1 k3 hT hr
  go_enter Tryd.func57, Tryd.ntmps57
  go_wp2
  go_ret
  exact ⟨rfl, rfl⟩
end Go.Proofs.YtlomhoohmcnniaaDoor

namespace Go.Proofs.YtlomhoohmcnniaaDoor
open Go Go.RowKit Go.Proofs
attribute [local go_sem] Oper.semAt_some

abbrev cV (c h t : Int) : Value := .agg #[.int .i64 c, .int .i64 h, .int .i64 t]
abbrev msV (m : NM.Ms) : Value := .agg #[.int .i64 m.c, .int .i64 m.h, .int .i64 m.t, .int .i64 m.i, .int .i64 m.p]
abbrev evV (e : NM.Ev) : Value := .agg #[.int .i64 e.k, .int .i64 e.n, .int .i64 e.a, .int .i64 e.m.c, .int .i64 e.m.h, .int .i64 e.m.t, .int .i64 e.m.i, .int .i64 e.m.p]
abbrev quV (q : NM.Qu) : Value := .agg #[.int .i64 q.c, .int .i64 q.h, .int .i64 q.t, .int .i64 q.k, .int .i64 q.i]
theorem new_at {V : World} {o : Obj} {g : Nat} (hg : g = V.heap.size) : (V.alloc o).heap[g]? = some o := by
  subst hg
  exact World.alloc_heap_new V o
theorem row5 {V : World} {g : Nat} {t : TypeId} {x0 x1 x2 x3 x4 : Value} (h : V.heap[g]? = some (.cells #[x0, x1, x2, x3, x4] t (0, 0))) : V.cell? ⟨g, 0, none⟩ = some x0 ∧ V.cell? ⟨g, 1, none⟩ = some x1 ∧ V.cell? ⟨g, 2, none⟩ = some x2 ∧ V.cell? ⟨g, 3, none⟩ = some x3 ∧ V.cell? ⟨g, 4, none⟩ = some x4 :=
  ⟨cell_of_row _ _ 0 _ _ (0, 0) h, cell_of_row _ _ 1 _ _ (0, 0) h, cell_of_row _ _ 2 _ _ (0, 0) h, cell_of_row _ _ 3 _ _ (0, 0) h, cell_of_row _ _ 4 _ _ (0, 0) h⟩
/-- Two boxes. -/
theorem two_boxes (w : World) (A B : Obj) : ∃ U, (w.alloc A).alloc B = U ∧ Below w.heap.size w U ∧ U.heap[w.heap.size]? = some A ∧ U.heap[w.heap.size + 1]? = some B ∧ w.heap.size + 1 < U.heap.size := by
  refine ⟨_, rfl, ((Below.refl _ _).alloc (Nat.le_refl _) _).alloc (by simp) _, ?_, new_at (by simp), by simp⟩
  rw [Below.heap_alloc _ _ _ (by simp)]
  exact new_at rfl
theorem one_box (w : World) (o : Obj) : Below w.heap.size w (w.alloc o) := (Below.refl _ _).alloc (Nat.le_refl _) _
theorem drewN_below (w : World) (q : Nat) : Below w.heap.size w (w.drewN q) := ⟨rfl, rfl, rfl, Nat.le_refl _, fun _ _ => rfl⟩
end Go.Proofs.YtlomhoohmcnniaaDoor

namespace Go.Proofs.YtlomhoohmcnniaaDoor
open Go Go.RowKit Go.Proofs
attribute [local go_sem] Oper.semAt_some

set_option maxRecDepth 100000 in
theorem eq_cause (d : Nat) (c h t c' h' t' : Int) (W : World) : (Op.equalIn (d + 2) 44 (.agg #[.int .i64 c, .int .i64 h, .int .i64 t]) (.agg #[.int .i64 c', .int .i64 h', .int .i64 t'])).run Tryd.prog W = .ok (c == c' && (h == h' && t == t')) W := by
  have u3 := Tryd.underlying3
  have a3 := Tryd.isAgg3
  have z3 := Tryd.sizeOf3
  have ht : Tryd.prog.underlying 44 = some (.struct (Tryd.prog.fieldsOf 44)) := by kernel_rfl
  have hp : Tryd.prog.stoodInHeld 44 = false := by kernel_rfl
  have hf : (Tryd.prog.fieldsOf 44).toList = [⟨"Node", 3, 0, false, "", "", 0⟩, ⟨"Handler", 3, 1, false, "", "", 8⟩, ⟨"Count", 3, 2, false, "", "", 16⟩] := by kernel_rfl
  rw [run_equalIn_agg _ (d + 1) _ _ _ ht hp, hf]
  clear hf ht hp
  cases e1 : c == c' <;> cases e2 : h == h' <;> cases e3 : t == t' <;> simp [Op.eqFields, go_sem, u3, a3, z3, e1, e2, e3]
set_option maxRecDepth 100000 in
theorem eq_msg (d : Nat) (c h t i p c' h' t' i' p' : Int) (W : World) : (Op.equalIn (d + 3) 46 (.agg #[.int .i64 c, .int .i64 h, .int .i64 t, .int .i64 i, .int .i64 p]) (.agg #[.int .i64 c', .int .i64 h', .int .i64 t', .int .i64 i', .int .i64 p'])).run Tryd.prog W = .ok ((c == c' && (h == h' && t == t')) && (i == i' && p == p')) W := by
  have u3 := Tryd.underlying3
  have a3 := Tryd.isAgg3
  have z3 := Tryd.sizeOf3
  have a23 := Tryd.isAgg44
  have z23 := Tryd.sizeOf44
  have ht : Tryd.prog.underlying 46 = some (.struct (Tryd.prog.fieldsOf 46)) := by kernel_rfl
  have hp : Tryd.prog.stoodInHeld 46 = false := by kernel_rfl
  have hf : (Tryd.prog.fieldsOf 46).toList = [⟨"Cause", 44, 0, false, "", "", 0⟩, ⟨"Index", 3, 3, false, "", "", 24⟩, ⟨"Copy", 3, 4, false, "", "", 32⟩] := by kernel_rfl
  have hq := eq_cause d c h t c' h' t'
  rw [run_equalIn_agg _ (d + 2) _ _ _ ht hp, hf]
  clear hf ht hp
  generalize (c == c' && (h == h' && t == t')) = b at *
  cases b <;> cases e2 : i == i' <;> cases e3 : p == p' <;> simp [Op.eqFields, go_sem, u3, a3, z3, a23, z23, hq, e2, e3]
theorem beq_dec (a b : Int) : (a == b) = decide (a = b) := rfl
theorem eqM_any (x y : NM.Ms) (W : World) : (binOp .eql 46 (msV x) (msV y)).run Tryd.prog W = .ok (.bool (decide (x = y))) W := by
  obtain ⟨c, h, t, i, p⟩ := x
  obtain ⟨c', h', t', i', p'⟩ := y
  rw [run_eql_struct, show (10000 : Nat) = 9997 + 3 from rfl, eq_msg]
  show Result.ok (Value.bool _) W = _
  congr 2
  rw [Bool.eq_iff_iff]
  simp [and_assoc]
end Go.Proofs.YtlomhoohmcnniaaDoor

namespace Go.Proofs.YtlomhoohmcnniaaDoor
open Go Go.RowKit Go.Proofs

def msE : RS.Enc NM.Ms := ⟨fun m => [.int .i64 m.c, .int .i64 m.h, .int .i64 m.t, .int .i64 m.i, .int .i64 m.p], 5, fun _ => rfl, fun x u hu => by
  simp at hu
  rcases hu with rfl | rfl | rfl | rfl | rfl <;> rfl⟩
abbrev Mss (w : World) (A : Option Addr) (n c : Nat) (l : List NM.Ms) : Prop := RS.Sl msE w A n c l
theorem ms_at {w : World} {A : Option Addr} {n c j : Nat} {l : List NM.Ms} {x : NM.Ms} (h : Mss w A n c l) (hj : l[j]? = some x) : ∃ g, A = some ⟨g, 0, none⟩ ∧ g < w.heap.size ∧ w.cell? ⟨g, j * 5, none⟩ = some (.int .i64 x.c) ∧ w.cell? ⟨g, j * 5 + 1, none⟩ = some (.int .i64 x.h) ∧ w.cell? ⟨g, j * 5 + 2, none⟩ = some (.int .i64 x.t) ∧ w.cell? ⟨g, j * 5 + 3, none⟩ = some (.int .i64 x.i) ∧ w.cell? ⟨g, j * 5 + 4, none⟩ = some (.int .i64 x.p) := by
  obtain ⟨g, e, hg, ha⟩ := h.get hj
  exact ⟨g, e, hg, ha 0 _ rfl, ha 1 _ rfl, ha 2 _ rfl, ha 3 _ rfl, ha 4 _ rfl⟩
end Go.Proofs.YtlomhoohmcnniaaDoor

namespace Go.Proofs.YtlomhoohmcnniaaDoor
open Go Go.RowKit Go.Proofs

namespace DP
/-- A question with its answer. -/
structure Qa where
  c : Int
  h : Int
  t : Int
  k : Int
  i : Int
  r : Int
  n : Int
deriving DecidableEq
/-- A step, and where its rows lie. -/
structure St where
  ev : NM.Ev
  qB : Option Addr
  qc : Nat
  qs : List Qa
  ob : Bool
  sB : Option Addr
  sc : Nat
  ms : List NM.Ms
def consK (k : Int) : Bool := k == 3 || k == 5 || k == 6
def orig (m : NM.Ms) : NM.Ms := ⟨m.c, m.h, m.t, m.i, 0⟩
def feeds (a b : St) : Bool := consK b.ev.k && a.ms.any fun m => decide (m = orig b.ev.m)
def dep (a b : St) : Bool := (a.ev.n == b.ev.n) || (a.ob && b.ob) || feeds a b || feeds b a
theorem dep_comm (a b : St) : dep a b = dep b a := by
  unfold dep
  rw [show (a.ev.n == b.ev.n) = (b.ev.n == a.ev.n) from by rw [Bool.eq_iff_iff, beq_iff_eq, beq_iff_eq]; exact eq_comm, Bool.and_comm a.ob]
  cases (b.ev.n == a.ev.n) <;> cases (b.ob && a.ob) <;> cases feeds a b <;> cases feeds b a <;> rfl
end DP
def qaE : RS.Enc DP.Qa := ⟨fun q => [.int .i64 q.c, .int .i64 q.h, .int .i64 q.t, .int .i64 q.k, .int .i64 q.i, .int .i64 q.r, .int .i64 q.n], 7, fun _ => rfl, fun x u hu => by
  simp at hu
  rcases hu with rfl | rfl | rfl | rfl | rfl | rfl | rfl <;> rfl⟩
abbrev Qas (w : World) (A : Option Addr) (n c : Nat) (l : List DP.Qa) : Prop := RS.Sl qaE w A n c l
def stE : RS.Enc DP.St := ⟨fun s => [.int .i64 s.ev.k, .int .i64 s.ev.n, .int .i64 s.ev.a, .int .i64 s.ev.m.c, .int .i64 s.ev.m.h, .int .i64 s.ev.m.t, .int .i64 s.ev.m.i, .int .i64 s.ev.m.p, .slice s.qB s.qs.length s.qc, .bool s.ob, .slice s.sB s.ms.length s.sc], 11, fun _ => rfl, fun x u hu => by
  simp at hu
  rcases hu with rfl | rfl | rfl | rfl | rfl | rfl | rfl | rfl | rfl | rfl | rfl <;> rfl⟩
abbrev stV (s : DP.St) : Value := .agg #[.int .i64 s.ev.k, .int .i64 s.ev.n, .int .i64 s.ev.a, .int .i64 s.ev.m.c, .int .i64 s.ev.m.h, .int .i64 s.ev.m.t, .int .i64 s.ev.m.i, .int .i64 s.ev.m.p, .slice s.qB s.qs.length s.qc, .bool s.ob, .slice s.sB s.ms.length s.sc]
/-- The step's rows lie in memory. -/
structure StIn (w : World) (s : DP.St) : Prop where
  qs : Qas w s.qB s.qs.length s.qc s.qs
  ms : Mss w s.sB s.ms.length s.sc s.ms
  ql : s.qs.length ≤ 1000
  ml : s.ms.length ≤ 1000
theorem StIn.keep {w w' : World} {s : DP.St} (h : StIn w s) (hb : Below w.heap.size w w') : StIn w' s := ⟨h.qs.keep hb, h.ms.keep hb, h.ql, h.ml⟩
/-- A run, wherever it lies. -/
structure Run (w : World) (A : Option Addr) (n c : Nat) (R : List DP.St) : Prop where
  sl : RS.Sl stE w A n c R
  inn : ∀ s ∈ R, StIn w s
  le : n ≤ 1000
theorem Run.keep {w w' : World} {A : Option Addr} {n c : Nat} {R : List DP.St} (h : Run w A n c R) (hb : Below w.heap.size w w') : Run w' A n c R := ⟨h.sl.keep hb, fun s hs => (h.inn s hs).keep hb, h.le⟩
/-- The eleven cells of a step at offset o of block g. -/
def StAt (w : World) (g o : Nat) (s : DP.St) : Prop :=
  w.cell? ⟨g, o, none⟩ = some (.int .i64 s.ev.k) ∧ w.cell? ⟨g, o + 1, none⟩ = some (.int .i64 s.ev.n) ∧ w.cell? ⟨g, o + 2, none⟩ = some (.int .i64 s.ev.a) ∧ w.cell? ⟨g, o + 3, none⟩ = some (.int .i64 s.ev.m.c) ∧
  w.cell? ⟨g, o + 4, none⟩ = some (.int .i64 s.ev.m.h) ∧ w.cell? ⟨g, o + 5, none⟩ = some (.int .i64 s.ev.m.t) ∧ w.cell? ⟨g, o + 6, none⟩ = some (.int .i64 s.ev.m.i) ∧ w.cell? ⟨g, o + 7, none⟩ = some (.int .i64 s.ev.m.p) ∧
  w.cell? ⟨g, o + 8, none⟩ = some (.slice s.qB s.qs.length s.qc) ∧ w.cell? ⟨g, o + 9, none⟩ = some (.bool s.ob) ∧ w.cell? ⟨g, o + 10, none⟩ = some (.slice s.sB s.ms.length s.sc)
theorem StAt.keep {w w' : World} {g o B : Nat} {s : DP.St} (h : StAt w g o s) (hg : g < B) (hb : Below B w w') : StAt w' g o s := by
  obtain ⟨h0, h1, h2, h3, h4, h5, h6, h7, h8, h9, h10⟩ := h
  have k : ∀ j u, w.cell? ⟨g, j, none⟩ = some u → w'.cell? ⟨g, j, none⟩ = some u := fun j u hu => (hb.cell (p := ⟨g, j, none⟩) hg).trans hu
  exact ⟨k _ _ h0, k _ _ h1, k _ _ h2, k _ _ h3, k _ _ h4, k _ _ h5, k _ _ h6, k _ _ h7, k _ _ h8, k _ _ h9, k _ _ h10⟩
theorem Run.at_ {w : World} {A : Option Addr} {n c j : Nat} {R : List DP.St} {s : DP.St} (h : Run w A n c R) (hj : R[j]? = some s) : ∃ g, A = some ⟨g, 0, none⟩ ∧ g < w.heap.size ∧ StAt w g (j * 11) s ∧ StIn w s := by
  obtain ⟨g, e, hg, ha⟩ := h.sl.get hj
  exact ⟨g, e, hg, ⟨ha 0 _ rfl, ha 1 _ rfl, ha 2 _ rfl, ha 3 _ rfl, ha 4 _ rfl, ha 5 _ rfl, ha 6 _ rfl, ha 7 _ rfl, ha 8 _ rfl, ha 9 _ rfl, ha 10 _ rfl⟩, h.inn s (List.mem_of_getElem? hj)⟩
/-- Block g holds this message's name. -/
def MsBx (w : World) (g : Nat) (m : NM.Ms) : Prop := w.heap[g]? = some (.cells #[.int .i64 m.c, .int .i64 m.h, .int .i64 m.t, .int .i64 m.i, .int .i64 m.p] 46 (0, 0))
theorem MsBx.keep {w w' : World} {g B : Nat} {m : NM.Ms} (h : MsBx w g m) (hg : g < B) (hb : Below B w w') : MsBx w' g m := (hb.block g hg).trans h
theorem MsBx.lt {w : World} {g : Nat} {m : NM.Ms} (h : MsBx w g m) : g < w.heap.size := heap_lt h
theorem MsBx.cells {w : World} {g : Nat} {m : NM.Ms} (h : MsBx w g m) : w.cell? ⟨g, 0, none⟩ = some (.int .i64 m.c) ∧ w.cell? ⟨g, 1, none⟩ = some (.int .i64 m.h) ∧ w.cell? ⟨g, 2, none⟩ = some (.int .i64 m.t) ∧ w.cell? ⟨g, 3, none⟩ = some (.int .i64 m.i) ∧ w.cell? ⟨g, 4, none⟩ = some (.int .i64 m.p) :=
  ⟨cell_of_row w g 0 _ _ (0, 0) h, cell_of_row w g 1 _ _ (0, 0) h, cell_of_row w g 2 _ _ (0, 0) h, cell_of_row w g 3 _ _ (0, 0) h, cell_of_row w g 4 _ _ (0, 0) h⟩
/-- Block g holds this step. -/
def StBx (w : World) (g : Nat) (s : DP.St) : Prop := w.heap[g]? = some (.cells #[.int .i64 s.ev.k, .int .i64 s.ev.n, .int .i64 s.ev.a, .int .i64 s.ev.m.c, .int .i64 s.ev.m.h, .int .i64 s.ev.m.t, .int .i64 s.ev.m.i, .int .i64 s.ev.m.p, .slice s.qB s.qs.length s.qc, .bool s.ob, .slice s.sB s.ms.length s.sc] 52 (0, 0))
theorem StBx.keep {w w' : World} {g B : Nat} {s : DP.St} (h : StBx w g s) (hg : g < B) (hb : Below B w w') : StBx w' g s := (hb.block g hg).trans h
theorem StBx.lt {w : World} {g : Nat} {s : DP.St} (h : StBx w g s) : g < w.heap.size := heap_lt h
theorem StBx.cells {w : World} {g : Nat} {s : DP.St} (h : StBx w g s) : w.cell? ⟨g, 0, none⟩ = some (.int .i64 s.ev.k) ∧ w.cell? ⟨g, 1, none⟩ = some (.int .i64 s.ev.n) ∧ w.cell? ⟨g, 2, none⟩ = some (.int .i64 s.ev.a) ∧ w.cell? ⟨g, 3, none⟩ = some (.int .i64 s.ev.m.c) ∧ w.cell? ⟨g, 4, none⟩ = some (.int .i64 s.ev.m.h) ∧ w.cell? ⟨g, 5, none⟩ = some (.int .i64 s.ev.m.t) ∧ w.cell? ⟨g, 6, none⟩ = some (.int .i64 s.ev.m.i) ∧ w.cell? ⟨g, 7, none⟩ = some (.int .i64 s.ev.m.p) ∧ w.cell? ⟨g, 8, none⟩ = some (.slice s.qB s.qs.length s.qc) ∧ w.cell? ⟨g, 9, none⟩ = some (.bool s.ob) ∧ w.cell? ⟨g, 10, none⟩ = some (.slice s.sB s.ms.length s.sc) :=
  ⟨cell_of_row w g 0 _ _ (0, 0) h, cell_of_row w g 1 _ _ (0, 0) h, cell_of_row w g 2 _ _ (0, 0) h, cell_of_row w g 3 _ _ (0, 0) h, cell_of_row w g 4 _ _ (0, 0) h, cell_of_row w g 5 _ _ (0, 0) h, cell_of_row w g 6 _ _ (0, 0) h, cell_of_row w g 7 _ _ (0, 0) h, cell_of_row w g 8 _ _ (0, 0) h, cell_of_row w g 9 _ _ (0, 0) h, cell_of_row w g 10 _ _ (0, 0) h⟩
theorem StBx.free {w : World} {g : Nat} {s : DP.St} (h : StBx w g s) (j : Nat) : w.frozen? ⟨g, j, none⟩ = false := by
  have h : w.heap[g]? = _ := h
  simp [World.frozen?, h]
abbrev stO (s : DP.St) : Obj := .cells #[.int .i64 s.ev.k, .int .i64 s.ev.n, .int .i64 s.ev.a, .int .i64 s.ev.m.c, .int .i64 s.ev.m.h, .int .i64 s.ev.m.t, .int .i64 s.ev.m.i, .int .i64 s.ev.m.p, .slice s.qB s.qs.length s.qc, .bool s.ob, .slice s.sB s.ms.length s.sc] 52
theorem StBx.new (w : World) (s : DP.St) : StBx (w.alloc (stO s)) w.heap.size s := World.alloc_heap_new w _
theorem two_st (w : World) (a b : DP.St) : StBx ((w.alloc (stO a)).alloc (stO b)) w.heap.size a ∧ StBx ((w.alloc (stO a)).alloc (stO b)) (w.heap.size + 1) b ∧ Below w.heap.size w ((w.alloc (stO a)).alloc (stO b)) := by
  refine ⟨(StBx.new w a).keep (by simp) ((Below.refl _ _).alloc (Nat.le_refl _) _), ?_, ((Below.refl _ _).alloc (Nat.le_refl _) _).alloc (by simp) _⟩
  have := StBx.new (w.alloc (stO a)) b
  rwa [World.size_alloc] at this
end Go.Proofs.YtlomhoohmcnniaaDoor

namespace Go.Proofs.YtlomhoohmcnniaaDoor
open Go Go.RowKit Go.Proofs

theorem row_low {w : World} {b0 b1 : Nat} {e : TypeId} {size : Nat} {v : Value} {n : Nat} {xs : List Value} (h : w.ownsRow b1 e size v n xs) (hb : b0 ≤ b1) : w.ownsRow b0 e size v n xs := by
  refine ⟨h.1, ?_⟩
  rcases h.2 with h0 | ⟨g, cap, cur, rfl, h1, h2⟩
  · exact .inl h0
  · exact .inr ⟨g, cap, cur, rfl, Nat.le_trans hb h1, h2⟩
theorem row_form {w : World} {b : Nat} {e : TypeId} {size : Nat} {v : Value} {n : Nat} {xs : List Value} (h : w.ownsRow b e size v n xs) : ∃ A c, v = .slice A n c := by
  rcases h.2 with ⟨rfl, h0⟩ | ⟨g, cap, cur, rfl, _⟩
  · exact ⟨none, 0, by rw [h0]⟩
  · exact ⟨_, cap, rfl⟩
/-- What is known of an own row's block. -/
theorem row_blk {w : World} {b x : Nat} {e : TypeId} {size : Nat} {v : Value} {n : Nat} {xs : List Value} (h : w.ownsRow b e size v n xs) (hx : v.ownBlock = some x) : b ≤ x ∧ x < w.heap.size ∧ ∃ C, w.heap[x]? = some (.cells C e (0, 0)) := by
  rcases h.2 with ⟨rfl, _⟩ | ⟨g, cap, cur, rfl, h1, h2, _⟩
  · cases hx
  · have e2 : some g = some x := hx
    injection e2 with e2
    subst e2
    exact ⟨h1, heap_lt h2, cur, h2⟩
theorem wpList_append_nb {P : Program} {ops : Array Oper} {rest : List Oper} {o : Oper} {a : Act} {w : World} {Q : Exit → Act → World → Prop} (hgd : o.guard = none) (s x : Operand) (t : TypeId)
    (ho : o.op = .call { callee := .builtin .append, args := #[s, x], argTypes := #[t, t] })
    (base : Nat) (e : TypeId) (i : TypeInfo) (z : Value) (size bytes : Nat) (ht : P.underlying t = some (.slice e)) (hi : P.info? e = some i) (hz : i.zero = some z)
    (hsize : i.size = size) (hby : i.bytes = bytes) (hzs : z.cells.size = size) (hsz : 0 < size)
    (v : Value) (n : Nat) (xs : List Value) (hs : a.eval s = v) (hown : w.ownsRow base e size v n xs)
    (ad : Addr) (m c : Nat) (news : List Value) (hx : a.eval x = .slice (some ad) m c) (hl : news.length = m * size) (hnews : ∀ j u, news[j]? = some u → w.cell? (ad.add j) = some u) (h1 : ∀ u ∈ news, u.oneCell' = true)
    (h63 : n + m ≤ maxLen) (hbytes : (n + m) * bytes ≤ 140737488355328) (hbase : base ≤ w.heap.size)
    (h : ∀ A' c' w', w'.ownsRow base e size (.slice A' (n + m) c') (n + m) (xs ++ news) → w.grownBy w' v.ownBlock → (∀ b, (Value.slice A' (n + m) c').ownBlock = some b → v.ownBlock = some b ∨ w.heap.size ≤ b) → wpList P ops Q rest (a.put o.dst (.slice A' (n + m) c')) w') : wpList P ops Q (o :: rest) a w := by
  have hown0 := hown
  rcases hown.2 with ⟨rfl, h0⟩ | ⟨g, cap, cur, rfl, g1, g2, g3, g4, g5, g6⟩
  · have hown1 : w.ownsRow w.heap.size e size (.slice none 0 0) n xs := ⟨hown.1, .inl ⟨rfl, h0⟩⟩
    refine wpList_append_own _ hgd s x t ho w.heap.size e i z size bytes ht hi hz hsize hby hzs hsz _ n xs hs hown1 ad m c news hx hl hnews h1 h63 hbytes (Nat.le_refl _) ?_
    intro v' w' r1 r2 _
    obtain ⟨A', c', rfl⟩ := row_form r1
    exact h A' c' w' (row_low r1 hbase) r2 fun b hb => .inr (row_blk r1 hb).1
  · by_cases hfit : n + m ≤ cap
    · refine wpList_append_fits w hgd s x t ho base e i size ht hi hsize g n cap xs hs hown0 ad m c news hx hl hnews h1 hfit ?_
      intro w' r1 r2
      exact h _ _ w' r1 r2 fun b hb => .inl hb
    · refine wpList_plain hgd fun K hK' => ?_
      have holds : ∀ j u, xs[j]? = some u → w.cell? ((⟨g, 0, none⟩ : Addr).add j) = some u := fun j u hu => hown0.cells rfl j u hu
      obtain ⟨v', w', hrun, r1, r2⟩ := run_append_arg_grows (P := P) w t o.type e i z size bytes ht hi hz hsize hby hzs hsz ⟨g, 0, none⟩ n cap xs hown0.1 holds ad m c news hl hnews (by omega) h63 hbytes
      obtain ⟨A', c', rfl⟩ := row_form r1
      unfold Oper.wp
      simp [execOp, ho, resolve, invoke, builtin, hs, hx, hrun, Result.andThen]
      exact hK' _ _ (h A' c' w' (row_low r1 hbase) ⟨r2.os, r2.tape, r2.output, r2.size, fun b hb _ => r2.block b hb (by simp)⟩ fun b hb => .inr (row_blk r1 hb).1)
/-- Own rows are told by their block alone. -/
theorem row_keep {w w' : World} {b : Nat} {e : TypeId} {size : Nat} {v : Value} {n : Nat} {xs : List Value} (h : w.ownsRow b e size v n xs) (hk : ∀ x, v.ownBlock = some x → w'.heap[x]? = w.heap[x]?) : w'.ownsRow b e size v n xs := by
  refine ⟨h.1, ?_⟩
  rcases h.2 with h0 | ⟨g, cap, cur, rfl, h1, h2, h3⟩
  · exact .inl h0
  · exact .inr ⟨g, cap, cur, rfl, h1, (hk g rfl).trans h2, h3⟩
end Go.Proofs.YtlomhoohmcnniaaDoor

namespace Go.Proofs.YtlomhoohmcnniaaDoor
open Go Go.RowKit

def around (n m : Int) : Int := (if n < 0 then -(n + 1) else n) % m
theorem around_in (n m : Int) (hm : 0 < m) : 0 ≤ around n m ∧ around n m < m := ⟨Int.emod_nonneg _ (by omega), Int.emod_lt_of_pos _ hm⟩
set_option maxHeartbeats 400000 in
theorem around_any (n m : Int) (hn : I64 n) (hm : 0 < m) (hm2 : m ≤ 1099511627776) (w : World) :
    Calls Tryd.prog 16 #[.int .i64 n, .int .i64 m] w fun e w' => e = .returned (.int .i64 (around n m)) ∧ w = w' := by
  obtain ⟨n0, n1⟩ := hn
  have hz : (m == 0) = false := by simp; omega
  by_cases h : n < 0
  · have H := Lib.hid (show around n m = -((n + 1).tmod m) by unfold around; rw [if_pos h, ← Int.neg_tmod, Int.tmod_eq_emod_of_nonneg (by omega)])
    go_enter Tryd.func16, Tryd.ntmps16
    go_wp2
    go_ret
    exact ⟨by rw [H.out]; rfl, rfl⟩
  · have H := Lib.hid (show around n m = n % m by unfold around; rw [if_neg h])
    go_enter Tryd.func16, Tryd.ntmps16
    go_wp2
    go_ret
    exact ⟨by rw [H.out]; rfl, rfl⟩

end Go.Proofs.YtlomhoohmcnniaaDoor
