/-
  Words for memory: slices of integers that came in, that are handed on, that the call owns; what becomes of them where memory grows. No function of the program.
  Words for memory: which blocks a call may turn ('Chg'), rows of naturals of the call's own, slices of such rows, lists of pairs. No function of the program.
  Syntax trees in memory. No function of the program.
  Trees that a call has made: they lie in its new blocks; a node as a result. No function of the program.
  Regions that draw their order and build trees: what each slot holds once its operation has run. No function of the program.
-/
import Derived.Test.YtlfpaemfhanpiaaGreatDoorRows
import Derived.Test.YtlfpaemfhanpiaaGreatDoorK1
import Derived.Below
import Derived.Laws.OwnMore
import Derived.Deep.Draws
import Derived.Deep.AppendLies
import Derived.Laws.Rows
import Derived.Laws.AppendOwnNone
import Derived.OwnWalk
import Derived.Maps.AppendAt
import Derived.WalkKit
import Derived.WalkSpells
import Derived.WalkLawsBesides
import Derived.OpenShut
import Derived.Deep.QuietTactic
import Derived.BigQuiet
import Derived.Lib.Hide
import Derived.RangeFuncBox
import Derived.Test.YtlfpaemfhanpiaaGreatDoorK11
import Derived.Test.YtlfpaemfhanpiaaGreatDoorK28
import Derived.RegionTactic

namespace Go.Proofs.YtlfpaemfhanpiaaGreatDoor
open Go Go.RowKit

/-- The slice at A, of length n, lies below block B and holds the integers zs of kind k. -/
def Ints (k : IntKind) (B : Nat) (w : World) (A : Option Addr) (n : Nat) (zs : List Int) : Prop :=
  zs.length = n ∧ (0 < n → ∃ b off, A = some ⟨b, off, none⟩ ∧ b < B ∧ ∀ j, j < n → w.cell? ⟨b, off + j, none⟩ = some (.int k (zs[j]?.getD 0)))

section
variable {k : IntKind} {B B' n : Nat} {w w' : World} {A : Option Addr} {zs : List Int}
theorem Ints.len (h : Ints k B w A n zs) : zs.length = n := h.1
theorem Ints.nil (k : IntKind) (B : Nat) (w : World) (A : Option Addr) : Ints k B w A 0 [] := ⟨rfl, fun h => absurd h (by omega)⟩
theorem Ints.at_ (h : Ints k B w A n zs) (hn : 0 < n) : ∃ b off, A = some ⟨b, off, none⟩ ∧ b < B ∧ ∀ j, j < n → w.cell? ⟨b, off + j, none⟩ = some (.int k (zs[j]?.getD 0)) := h.2 hn
theorem Ints.keep (h : Ints k B w A n zs) (hk : ∀ p : Addr, p.block < B → w'.cell? p = w.cell? p) : Ints k B w' A n zs :=
  ⟨h.1, fun hn => by
    obtain ⟨b, off, e, hb, hc⟩ := h.2 hn
    exact ⟨b, off, e, hb, fun j hj => (hk ⟨b, off + j, none⟩ hb).trans (hc j hj)⟩⟩
theorem Ints.more (h : Ints k B w A n zs) (hB : B ≤ B') : Ints k B' w A n zs :=
  ⟨h.1, fun hn => by
    obtain ⟨b, off, e, hb, hc⟩ := h.2 hn
    exact ⟨b, off, e, by omega, hc⟩⟩
theorem Ints.below (h : Ints k B w A n zs) (hb : Below B w w') : Ints k B w' A n zs := h.keep fun _ hp => hb.cell hp
theorem Ints.alloc (h : Ints k B w A n zs) (hB : B ≤ w.heap.size) (o : Obj) : Ints k B (w.alloc o) A n zs := h.below ((Below.refl _ _).alloc hB o)
theorem Ints.drew (h : Ints k B w A n zs) : Ints k B w.drew A n zs := h.below (Below.refl _ _).drew
theorem Ints.setCell (h : Ints k B w A n zs) {p : Addr} (hB : B ≤ p.block) (u : Value) : Ints k B (w.setCell p u) A n zs := h.below ((Below.refl _ _).setCell hB u)

theorem getD_mem {l : List Int} {j : Nat} (h : j < l.length) : l[j]?.getD 0 ∈ l := by
  rw [List.getElem?_eq_getElem h]; exact List.getElem_mem h

/-- What a row that the call owns holds. -/
theorem Ints.of_own {base size : Nat} {e : TypeId} {a : Option Addr} {n c : Nat} {zs : List Int} (hs : size = 1) (h : w.ownsRow base e size (.slice a n c) n (zs.map (Value.int k))) : Ints k w.heap.size w a n zs := by
  subst hs
  refine ⟨by have := h.1; simpa using this, fun hn => ?_⟩
  obtain ⟨g, cap, hv, _, hlt⟩ := h.form hn
  have hA : a = some ⟨g, 0, none⟩ := by injection hv
  subst hA
  refine ⟨g, 0, rfl, hlt, fun j hj => ?_⟩
  have hl : zs.length = n := by have := h.1; simpa using this
  have hc := h.cells (g := g) rfl j (.int k (zs[j]?.getD 0)) (by rw [List.getElem?_map, List.getElem?_eq_getElem (by omega)]; rfl)
  rw [Addr.add_lit] at hc
  exact hc
end

/-- What a law is told of a slice of integers that came in. -/
def Row (k : IntKind) (w : World) (a : Option Addr) (len cap : Nat) (zs : List Int) : Prop :=
  (a = none ∧ len = 0 ∧ cap = 0 ∧ zs = []) ∨
  ∃ x, a = some x ∧ len ≤ cap ∧ cap ≤ maxLen ∧ zs.length = cap ∧ (∀ i, i < zs.length → w.cell? (x.add i) = some (.int k (zs.getD i 0))) ∧ ∀ n ∈ zs, (Lit.int k n).wf = true
theorem Row.ints {k : IntKind} {w : World} {a : Option Addr} {len cap : Nat} {zs : List Int} (h : Row k w a len cap zs) :
    Ints k w.heap.size w a len (zs.take len) ∧ len ≤ cap ∧ cap ≤ maxLen ∧ ∀ n ∈ zs.take len, (Lit.int k n).wf = true := by
  rcases h with ⟨rfl, rfl, rfl, rfl⟩ | ⟨x, rfl, hl, hm, hz, hcell, hwz⟩
  · exact ⟨Ints.nil _ _ _ _, Nat.le_refl _, by simp [maxLen], fun n hn => by cases hn⟩
  · refine ⟨⟨by simp; omega, fun hn => ?_⟩, hl, hm, fun n hn => hwz n (List.mem_of_mem_take hn)⟩
    obtain ⟨b, off, rfl, hc⟩ := ints_at hcell (by omega)
    have hb : b < w.heap.size := by
      have h0 := hc 0 (by omega)
      rcases Nat.lt_or_ge b w.heap.size with h | h
      · exact h
      · simp [World.cell?, Array.getElem?_eq_none h] at h0
    exact ⟨b, off, rfl, hb, fun j hj => by rw [hc j (by omega), List.getElem?_take_of_lt hj, List.getD_eq_getElem?_getD]⟩
theorem b8_of {l : List Int} (h : ∀ n ∈ l, (Lit.int .u8 n).wf = true) : ∀ n ∈ l, B8 n := fun n hn => by
  have := bounds_u8 (h n hn)
  unfold B8
  omega
theorem i64_of {l : List Int} (h : ∀ n ∈ l, (Lit.int .i64 n).wf = true) : ∀ n ∈ l, I64 n := fun n hn => by
  have := bounds_i64 (h n hn)
  unfold I64
  omega

/-- What may be appended to a slice of the call's own. -/
def Slc (k : IntKind) (w : World) (a : Option Addr) (n c : Nat) (zs : List Int) : Prop :=
  zs.length = n ∧ n ≤ c ∧ c ≤ maxLen ∧ ((a = none ∧ c = 0) ∨ ∃ x, a = some x ∧ ∀ i u, (zs.map (Value.int k))[i]? = some u → w.cell? (x.add i) = some u)
theorem Row.slc {k : IntKind} {w : World} {a : Option Addr} {len cap : Nat} {zs : List Int} (h : Row k w a len cap zs) : Slc k w a len cap (zs.take len) := by
  rcases h with ⟨rfl, rfl, rfl, rfl⟩ | ⟨x, rfl, hl, hm, hz, hcell, hwz⟩
  · exact ⟨rfl, Nat.le_refl _, by simp [maxLen], .inl ⟨rfl, rfl⟩⟩
  · refine ⟨by simp; omega, hl, hm, .inr ⟨x, rfl, fun i u hu => ?_⟩⟩
    rw [List.getElem?_map] at hu
    have hi : i < (zs.take len).length := by
      rcases Nat.lt_or_ge i (zs.take len).length with h | h
      · exact h
      · rw [List.getElem?_eq_none h] at hu; cases hu
    have hi2 : i < zs.length := by have := List.length_take_le' len zs; omega
    rw [hcell i hi2, ← hu, List.getElem?_eq_getElem hi, List.getElem_take, List.getD_eq_getElem?_getD, List.getElem?_eq_getElem hi2]
    rfl
theorem Slc.below {k : IntKind} {w w' : World} {a : Option Addr} {n c : Nat} {zs : List Int} (h : Slc k w a n c zs) (hb : Below w.heap.size w w') : Slc k w' a n c zs := by
  obtain ⟨h1, h2, h3, h4⟩ := h
  refine ⟨h1, h2, h3, ?_⟩
  rcases h4 with h4 | ⟨x, e, hx⟩
  · exact .inl h4
  · refine .inr ⟨x, e, fun i u hu => ?_⟩
    have hc := hx i u hu
    have hlt : (x.add i).block < w.heap.size := by
      rcases Nat.lt_or_ge (x.add i).block w.heap.size with h | h
      · exact h
      · simp [World.cell?, Array.getElem?_eq_none h] at hc
    exact (hb.cell hlt).trans hc

theorem own_slice {w : World} {base : Nat} {e : TypeId} {v : Value} {n : Nat} {xs : List Value} (h : w.ownsRow base e 1 v n xs) : ∃ A c, v = .slice A n c ∧ n ≤ c ∧ c ≤ maxLen := by
  rcases h.2 with ⟨rfl, rfl⟩ | ⟨g, cap, cur, rfl, _, _, h1, h2, _⟩
  · exact ⟨none, 0, rfl, Nat.le_refl _, by simp [maxLen]⟩
  · exact ⟨_, cap, rfl, h1, h2⟩
theorem own_slc {w : World} {base n c : Nat} {e : TypeId} {k : IntKind} {A : Option Addr} {zs : List Int} (h : w.ownsRow base e 1 (.slice A n c) n (zs.map (Value.int k))) : Slc k w A n c zs := by
  have hl : zs.length = n := by have := h.1; simpa using this
  rcases h.2 with ⟨e1, e2⟩ | ⟨g, cap, cur, e1, _, _, h1, h2, _⟩
  · injection e1 with ea eb ec
    exact ⟨hl, by omega, by rw [ec]; simp [maxLen], .inl ⟨ea, ec⟩⟩
  · injection e1 with ea eb ec
    subst ea ec
    exact ⟨hl, h1, h2, .inr ⟨_, rfl, h.cells rfl⟩⟩

/-- A function tells a bool and writes nothing that was there. -/
def Tells (b : Bool) (w : World) (e : Ending) (w' : World) : Prop := e = .returned (.bool b) ∧ Below w.heap.size w w'
theorem below_drewN' {B : Nat} {a w : World} (h : Below B a w) (n : Nat) : Below B a (w.drewN n) := ⟨h.os, h.tape, h.output, h.size, h.block⟩
theorem take_step {xs ys : List Int} {n k : Nat} {x : Int} (hx : xs.length = n) (hy : ys.length = n) (hk : k < n) (h : xs.take k = ys.take k) (h1 : xs[k]?.getD 0 = x) (h2 : ys[k]?.getD 0 = x) : Hid (xs.take (k + 1) = ys.take (k + 1)) := by
  show xs.take (k + 1) = ys.take (k + 1)
  rw [List.take_add_one, List.take_add_one, h]
  rw [List.getElem?_eq_getElem (by omega)] at h1 h2 ⊢
  rw [List.getElem?_eq_getElem (by omega)]
  simp only [Option.getD_some] at h1 h2
  rw [h1, h2]
theorem take_all {xs ys : List Int} {n : Nat} (hx : xs.length = n) (hy : ys.length = n) (h : xs.take n = ys.take n) : xs = ys := by
  rw [List.take_of_length_le (by omega), List.take_of_length_le (by omega)] at h
  exact h


/-- A slice of integers of kind k, in a block of plain cells of element type t below block B; nil let in. -/
def Lst (t : TypeId) (k : IntKind) (B : Nat) (w : World) (A : Option Addr) (n c : Nat) (zs : List Int) : Prop :=
  zs.length = n ∧ n ≤ c ∧ c ≤ maxLen ∧ ((A = none ∧ c = 0) ∨
    ∃ b off C, A = some ⟨b, off, none⟩ ∧ b < B ∧ w.heap[b]? = some (.cells C t (0, 0)) ∧ ∀ j, j < n → C[off + j]? = some (.int k (zs[j]?.getD 0)))
section
variable {t : TypeId} {k : IntKind} {B B' n c : Nat} {w w' : World} {A : Option Addr} {zs : List Int}
theorem Lst.len (h : Lst t k B w A n c zs) : zs.length = n := h.1
theorem Lst.le (h : Lst t k B w A n c zs) : n ≤ c := h.2.1
theorem Lst.cap (h : Lst t k B w A n c zs) : c ≤ maxLen := h.2.2.1
theorem Lst.none_ (t : TypeId) (k : IntKind) (B : Nat) (w : World) : Lst t k B w none 0 0 [] := ⟨rfl, Nat.le_refl _, by simp [maxLen], .inl ⟨rfl, rfl⟩⟩
theorem Lst.more (h : Lst t k B w A n c zs) (hB : B ≤ B') : Lst t k B' w A n c zs := by
  obtain ⟨h1, h2, h3, h4⟩ := h
  refine ⟨h1, h2, h3, ?_⟩
  rcases h4 with h4 | ⟨b, off, C, e, hb, hc⟩
  · exact .inl h4
  · exact .inr ⟨b, off, C, e, by omega, hc⟩
theorem Lst.keep (h : Lst t k B w A n c zs) (hk : ∀ b C, b < B → w.heap[b]? = some (.cells C t (0, 0)) → w'.heap[b]? = w.heap[b]?) : Lst t k B w' A n c zs := by
  obtain ⟨h1, h2, h3, h4⟩ := h
  refine ⟨h1, h2, h3, ?_⟩
  rcases h4 with h4 | ⟨b, off, C, e, hb, hc, hj⟩
  · exact .inl h4
  · exact .inr ⟨b, off, C, e, hb, (hk b C hb hc).trans hc, hj⟩
theorem Lst.below (h : Lst t k B w A n c zs) (hb : Below B w w') : Lst t k B w' A n c zs := h.keep fun b _ hB _ => hb.block b hB
theorem heap_lt {w : World} {b : Nat} {o : Obj} (h : w.heap[b]? = some o) : b < w.heap.size := (Array.getElem?_eq_some_iff.1 h).1
theorem Lst.grown {row : Option Nat} (h : Lst t k B w A n c zs) (hg : w.grownBy w' row) (hr : ∀ b C, row = some b → w.heap[b]? ≠ some (.cells C t (0, 0))) : Lst t k B w' A n c zs :=
  h.keep fun b C _ hc => hg.block b (heap_lt hc) (fun e => hr b C e.symm hc)
theorem Lst.ints (h : Lst t k B w A n c zs) : Ints k B w A n zs := by
  obtain ⟨h1, h2, h3, h4⟩ := h
  refine ⟨h1, fun hn => ?_⟩
  rcases h4 with ⟨rfl, h4⟩ | ⟨b, off, C, e, hb, hc, hj⟩
  · omega
  · exact ⟨b, off, e, hb, fun j hjn => by
      rw [cell_of_row w b (off + j) C t (0, 0) hc]
      exact hj j hjn⟩
theorem Lst.slc (h : Lst t k B w A n c zs) : Slc k w A n c zs := by
  obtain ⟨h1, h2, h3, h4⟩ := h
  refine ⟨h1, h2, h3, ?_⟩
  rcases h4 with h4 | ⟨b, off, C, e, hb, hc, hj⟩
  · exact .inl h4
  · refine .inr ⟨_, e, fun i u hu => ?_⟩
    rw [List.getElem?_map] at hu
    have hi : i < zs.length := by
      rcases Nat.lt_or_ge i zs.length with h | h
      · exact h
      · rw [List.getElem?_eq_none h] at hu; cases hu
    rw [List.getElem?_eq_getElem hi] at hu
    have := hj i (by omega)
    rw [List.getElem?_eq_getElem hi] at this
    rw [Addr.add_lit, cell_of_row w b (off + i) C t (0, 0) hc, this, ← hu]
    rfl
theorem Lst.of_own {base : Nat} (h : w.ownsRow base t 1 (.slice A n c) n (zs.map (Value.int k))) : Lst t k w.heap.size w A n c zs := by
  have hl : zs.length = n := by have := h.1; simpa using this
  rcases h.2 with ⟨e1, e2⟩ | ⟨g, cap, cur, e1, _, hg, h1, h2, h3, h4⟩
  · injection e1 with ea eb ec
    exact ⟨hl, by omega, by rw [ec]; simp [maxLen], .inl ⟨ea, ec⟩⟩
  · injection e1 with ea eb ec
    subst ea ec
    refine ⟨hl, h1, h2, .inr ⟨g, 0, cur, rfl, heap_lt hg, hg, fun j hj => ?_⟩⟩
    rw [Nat.zero_add]
    have e : (cur.toList.take (n * 1))[j]? = (zs.map (Value.int k))[j]? := by rw [h4]
    rw [List.getElem?_take_of_lt (by omega), Array.getElem?_toList, List.getElem?_map, List.getElem?_eq_getElem (by omega)] at e
    rw [e, List.getElem?_eq_getElem (by omega)]
    rfl
end

/-- One new cell, as a slice. -/
theorem slc_one (k : IntKind) (W : World) (x : Int) (t : TypeId) : Slc k (W.alloc (.cells #[.int k x] t)) (some ⟨W.heap.size, 0, none⟩) 1 1 [x] :=
  ⟨rfl, Nat.le_refl _, by simp [maxLen], .inr ⟨_, rfl, cell_one_new _ _ _⟩⟩

/-- append onto a row of the call's own, of one-cell integers, the source nil or not. -/
theorem wpList_append_slc {P : Program} {w : World} {ops : Array Oper} {rest : List Oper} {o : Oper} {a : Act} {Q : Exit → Act → World → Prop} (hgd : o.guard = none) (s x : Operand) (t : TypeId)
    (ho : o.op = .call { callee := .builtin .append, args := #[s, x], argTypes := #[t, t] })
    (base : Nat) (e : TypeId) (i : TypeInfo) (z : Value) (bytes : Nat) (ht : P.underlying t = some (.slice e)) (hi : P.info? e = some i) (hz : i.zero = some z)
    (hsize : i.size = 1) (hby : i.bytes = bytes) (hzs : z.cells.size = 1)
    (v : Value) (n : Nat) (xs : List Value) (hs : a.eval s = v) (hown : w.ownsRow base e 1 v n xs)
    (k : IntKind) (A : Option Addr) (m c : Nat) (zs : List Int) (hx : a.eval x = .slice A m c) (hz : Slc k w A m c zs)
    (h63 : n + m ≤ maxLen) (hbytes : (n + m) * bytes ≤ 140737488355328) (hbase : base ≤ w.heap.size)
    (h : ∀ A' c' w', w'.ownsRow base e 1 (.slice A' (n + m) c') (n + m) (xs ++ zs.map (Value.int k)) → w.grownBy w' v.ownBlock → wpList P ops Q rest (a.put o.dst (.slice A' (n + m) c')) w') : wpList P ops Q (o :: rest) a w := by
  obtain ⟨h1, h2, h3, h4⟩ := hz
  rcases h4 with ⟨rfl, rfl⟩ | ⟨ad, rfl, hc⟩
  · obtain rfl : m = 0 := by omega
    obtain rfl : zs = [] := List.eq_nil_of_length_eq_zero h1
    obtain ⟨A', c', rfl, _, _⟩ := own_slice hown
    exact wpList_append_own_none hgd s x t ho base e i 1 ht hi _ n xs hs hown hx (h A' c' w (by simpa using hown) ⟨rfl, rfl, rfl, Nat.le_refl _, fun _ _ _ => rfl⟩)
  · refine wpList_append_own _ hgd s x t ho base e i z 1 bytes ht hi ‹_› hsize hby hzs (by decide) v n xs hs hown ad m c (zs.map (Value.int k)) hx (by simp [h1]) hc (ints_oneCell _ _) h63 hbytes hbase ?_
    intro v' w' hown' hg _
    obtain ⟨A', c', rfl, _, _⟩ := own_slice hown'
    exact h A' c' w' hown' hg
end Go.Proofs.YtlfpaemfhanpiaaGreatDoor

namespace Go.Proofs.YtlfpaemfhanpiaaGreatDoor
open Go Go.RowKit

/-- Only blocks of S, and what is new, have turned. -/
structure Chg (S : Nat → Prop) (w w' : World) : Prop where
  os : w'.os = w.os
  tape : w'.tape = w.tape
  output : w'.output = w.output
  size : w.heap.size ≤ w'.heap.size
  block : ∀ b, b < w.heap.size → ¬ S b → w'.heap[b]? = w.heap[b]?

section
variable {S T : Nat → Prop} {a b c w w' : World}
theorem Chg.refl (S : Nat → Prop) (w : World) : Chg S w w := ⟨rfl, rfl, rfl, Nat.le_refl _, fun _ _ _ => rfl⟩
theorem Chg.trans (h : Chg S a b) (k : Chg T b c) (hT : ∀ x, x < a.heap.size → T x → S x) : Chg S a c :=
  ⟨k.os.trans h.os, k.tape.trans h.tape, k.output.trans h.output, Nat.le_trans h.size k.size, fun i hi hn => (k.block i (Nat.lt_of_lt_of_le hi h.size) (fun ht => hn (hT i hi ht))).trans (h.block i hi hn)⟩
theorem Chg.mono (h : Chg S w w') (hT : ∀ x, x < w.heap.size → S x → T x) : Chg T w w' := ⟨h.os, h.tape, h.output, h.size, fun i hi hn => h.block i hi (fun hs => hn (hT i hi hs))⟩
theorem Chg.of_below {B : Nat} (h : Below B w w') : Chg (B ≤ ·) w w' := ⟨h.os, h.tape, h.output, h.size, fun i _ hn => h.block i (by omega)⟩
theorem Chg.of_new (h : Below w.heap.size w w') (S : Nat → Prop) : Chg S w w' := ⟨h.os, h.tape, h.output, h.size, fun i hi _ => h.block i hi⟩
theorem Chg.of_grown {row : Option Nat} (h : w.grownBy w' row) : Chg (some · = row) w w' := ⟨h.os, h.tape, h.output, h.size, fun i hi hn => h.block i hi hn⟩
theorem Chg.below {B : Nat} (h : Chg S w w') (hS : ∀ b, b < w.heap.size → S b → B ≤ b) (hB : B ≤ w.heap.size) : Below B w w' :=
  ⟨h.os, h.tape, h.output, h.size, fun i hi => h.block i (by omega) (fun hs => by have := hS i (by omega) hs; omega)⟩
theorem Chg.drew (h : Chg S a w) : Chg S a w.drew := ⟨h.os, h.tape, h.output, h.size, h.block⟩
theorem Chg.drewN (h : Chg S a w) (n : Nat) : Chg S a (w.drewN n) := ⟨h.os, h.tape, h.output, h.size, h.block⟩
theorem Chg.new (h : Chg S a w) (k : Below w.heap.size w w') : Chg S a w' := h.trans (Chg.of_new k (fun _ => False)) (fun _ _ hf => hf.elim)
theorem Chg.alloc (h : Chg S a w) (o : Obj) : Chg S a (w.alloc o) := h.new ((Below.refl _ _).alloc (Nat.le_refl _) o)
theorem Chg.setCell (h : Chg S a w) {p : Addr} (hp : p.block < a.heap.size → S p.block) (u : Value) : Chg S a (w.setCell p u) :=
  h.trans (T := (· = p.block)) ⟨rfl, rfl, rfl, by simp [World.setCell], fun i _ hn => Below.heap_setCell _ _ _ _ hn⟩ (fun x hx e => by subst e; exact hp hx)
theorem Chg.grown {row : Option Nat} (h : Chg S a w) (hg : w.grownBy w' row) (hr : ∀ k, row = some k → k < a.heap.size → S k) : Chg S a w' :=
  h.trans (Chg.of_grown hg) (fun x hx e => hr x e.symm hx)
theorem Chg.cell (h : Chg S w w') {p : Addr} (hp : p.block < w.heap.size) (hn : ¬ S p.block) : w'.cell? p = w.cell? p := World.cell?_of_block (h.block _ hp hn)
end

/-- A natural as int. -/
def nv (n : Nat) : Value := .int .i64 (n : Int)
theorem map_nv (l : List Nat) : l.map nv = (l.map fun n : Nat => (n : Int)).map (Value.int .i64) := by rw [List.map_map]; rfl

/-- v is a slice of the call's own, at block base or later, that holds the naturals l. -/
def Own (w : World) (base : Nat) (v : Value) (l : List Nat) : Prop := w.ownsRow base 3 1 v l.length (l.map nv)

theorem heapT_ne {w : World} {g b : Nat} {cs C : Array Value} {t t' : TypeId} {f f' : Nat × Nat} (h : w.heap[g]? = some (.cells cs t f)) (h' : w.heap[b]? = some (.cells C t' f')) (hne : t ≠ t') : g ≠ b := by
  rintro rfl
  rw [h] at h'
  injection h' with h'
  injection h' with _ ht
  exact hne ht

section
variable {w w' : World} {base base' lo hi : Nat} {v : Value} {l : List Nat}
theorem own_of_block {t : TypeId} {size n : Nat} {xs : List Value} (h : w.ownsRow base t size v n xs) (hb : ∀ b, v.ownBlock = some b → w'.heap[b]? = w.heap[b]?) : w'.ownsRow base t size v n xs := by
  refine ⟨h.1, ?_⟩
  rcases h.2 with h0 | ⟨g, cap, cur, rfl, h1, h2, h3⟩
  · exact .inl h0
  · exact .inr ⟨g, cap, cur, rfl, h1, (hb g rfl).trans h2, h3⟩
theorem Own.keep (h : Own w base v l) (hb : ∀ b, v.ownBlock = some b → w'.heap[b]? = w.heap[b]?) : Own w' base v l := own_of_block h hb
theorem Own.lt (h : Own w base v l) : ∀ b, v.ownBlock = some b → base ≤ b ∧ b < w.heap.size := World.ownsRow.lt h
theorem Own.chg {S : Nat → Prop} (h : Own w base v l) (hc : Chg S w w') (hn : ∀ b, v.ownBlock = some b → ¬ S b) : Own w' base v l :=
  h.keep fun b hb => hc.block b (h.lt b hb).2 (hn b hb)
theorem Own.base_ (h : Own w base v l) (hb : ∀ b, v.ownBlock = some b → base' ≤ b) : Own w base' v l := by
  refine ⟨h.1, ?_⟩
  rcases h.2 with h0 | ⟨g, cap, cur, rfl, h1, h2⟩
  · exact .inl h0
  · exact .inr ⟨g, cap, cur, rfl, hb g rfl, h2⟩
theorem Own.nil (w : World) (base : Nat) : Own w base (.slice none 0 0) [] := ⟨rfl, .inl ⟨rfl, rfl⟩⟩
theorem Own.slice (h : Own w base v l) : ∃ A c, v = .slice A l.length c ∧ l.length ≤ c ∧ c ≤ maxLen := own_slice h
theorem Own.lst {A : Option Addr} {n c : Nat} (h : Own w base (.slice A n c) l) : n = l.length ∧ Lst 3 .i64 w.heap.size w A n c (l.map fun n : Nat => (n : Int)) := by
  obtain ⟨A', c', e, _, _⟩ := h.slice
  injection e with e1 e2 e3
  subst e2
  refine ⟨rfl, Lst.of_own (base := base) ?_⟩
  have := h
  unfold Own at this
  rw [map_nv] at this
  exact this
/-- A cell of an own row, and that it may be written. -/
theorem Own.cell {g n c : Nat} (h : Own w base (.slice (some ⟨g, 0, none⟩) n c) l) {i : Nat} (hi : i < l.length) : w.cell? ⟨g, i, none⟩ = some (nv (l[i]?.getD 0)) := by
  have := h.2
  rcases this with ⟨e, _⟩ | ⟨g', cap, cur, e, _, h2, h3, h4, h5, h6⟩
  · cases e
  · injection e with e1 e2 e3
    injection e1 with e1
    injection e1 with e1 e4
    subst e1
    rw [cell_of_row w g i cur 3 (0, 0) h2]
    have : (cur.toList.take (l.length * 1))[i]? = (l.map nv)[i]? := by rw [h6]
    rw [List.getElem?_take_of_lt (by omega), Array.getElem?_toList, List.getElem?_map] at this
    rw [this, List.getElem?_eq_getElem hi]
    rfl
theorem Own.frozen {g n c : Nat} (h : Own w base (.slice (some ⟨g, 0, none⟩) n c) l) (i : Nat) : w.frozen? ⟨g, i, none⟩ = false := by
  rcases h.2 with ⟨e, _⟩ | ⟨g', cap, cur, e, _, h2, _⟩
  · cases e
  · injection e with e1 e2 e3
    injection e1 with e1
    injection e1 with e1 e4
    subst e1
    simp [World.frozen?, h2]
theorem Own.form (h : Own w base v l) (hl : 0 < l.length) : ∃ g c, v = .slice (some ⟨g, 0, none⟩) l.length c ∧ base ≤ g ∧ g < w.heap.size ∧ l.length ≤ c ∧ c ≤ maxLen := by
  rcases h.2 with ⟨_, e⟩ | ⟨g, cap, cur, e, h1, h2, h3, h4, _⟩
  · omega
  · exact ⟨g, cap, e, h1, heap_lt h2, h3, h4⟩
end

/-- The same with integers. -/
def OwnI (w : World) (base : Nat) (v : Value) (zs : List Int) : Prop := w.ownsRow base 3 1 v zs.length (zs.map (Value.int .i64))
theorem own_iff {w : World} {base : Nat} {v : Value} {l : List Nat} : Own w base v l ↔ OwnI w base v (l.map fun n : Nat => (n : Int)) := by
  unfold Own OwnI
  rw [map_nv, List.length_map]

/-- Block g holds the slices cs, the i-th of which is a row of the naturals xs[i]; all of these blocks lie between lo and hi; no two rows share a block. -/
structure Rows2 (w : World) (lo hi g : Nat) (cs : Array Value) (xs : List (List Nat)) : Prop where
  len : cs.size = xs.length
  blk : w.heap[g]? = some (.cells cs 22 (0, 0))
  gin : lo ≤ g ∧ g < hi
  row : ∀ (i : Nat) (v : Value) (l : List Nat), cs[i]? = some v → xs[i]? = some l → Own w lo v l
  inn : ∀ (i : Nat) (v : Value) (b : Nat), cs[i]? = some v → v.ownBlock = some b → b < hi
  apart : ∀ (i j : Nat) (v v' : Value) (b : Nat), i ≠ j → cs[i]? = some v → cs[j]? = some v' → v.ownBlock = some b → v'.ownBlock = some b → False

section
variable {w w' : World} {lo hi hi' g : Nat} {cs : Array Value} {xs : List (List Nat)}
theorem Rows2.keep (h : Rows2 w lo hi g cs xs) (hb : ∀ b, lo ≤ b → b < hi → w'.heap[b]? = w.heap[b]?) : Rows2 w' lo hi g cs xs :=
  ⟨h.len, (hb g h.gin.1 h.gin.2).trans h.blk, h.gin, fun i v l hv hl => (h.row i v l hv hl).keep fun b hvb => hb b ((h.row i v l hv hl).lt b hvb).1 (h.inn i v b hv hvb), h.inn, h.apart⟩
theorem Rows2.chg {S : Nat → Prop} (h : Rows2 w lo hi g cs xs) (hc : Chg S w w') (hh : hi ≤ w.heap.size) (hn : ∀ b, lo ≤ b → b < hi → ¬ S b) : Rows2 w' lo hi g cs xs :=
  h.keep fun b h1 h2 => hc.block b (by omega) (hn b h1 h2)
theorem Rows2.below (h : Rows2 w lo hi g cs xs) (hb : Below hi w w') : Rows2 w' lo hi g cs xs := h.keep fun b _ h2 => hb.block b h2
theorem Rows2.more (h : Rows2 w lo hi g cs xs) (hh : hi ≤ hi') : Rows2 w lo hi' g cs xs :=
  ⟨h.len, h.blk, ⟨h.gin.1, by have := h.gin.2; omega⟩, h.row, fun i v b h1 h2 => by have := h.inn i v b h1 h2; omega, h.apart⟩
theorem Rows2.cell (h : Rows2 w lo hi g cs xs) (i : Nat) : w.cell? ⟨g, i, none⟩ = cs[i]? := cell_of_row w g i cs _ (0, 0) h.blk
theorem Rows2.frozen (h : Rows2 w lo hi g cs xs) (i : Nat) : w.frozen? ⟨g, i, none⟩ = false := by simp [World.frozen?, h.blk]
theorem Rows2.at_ (h : Rows2 w lo hi g cs xs) {i : Nat} (hi : i < xs.length) : ∃ v l, cs[i]? = some v ∧ xs[i]? = some l ∧ Own w lo v l ∧ w.cell? ⟨g, i, none⟩ = some v := by
  have hc : i < cs.size := by rw [h.len]; exact hi
  refine ⟨cs[i], xs[i], Array.getElem?_eq_getElem hc, List.getElem?_eq_getElem hi, h.row i _ _ (Array.getElem?_eq_getElem hc) (List.getElem?_eq_getElem hi), ?_⟩
  rw [h.cell, Array.getElem?_eq_getElem hc]
theorem own_ne_g (h : Rows2 w lo hi g cs xs) {v : Value} {l : List Nat} {base : Nat} (ho : Own w base v l) : v.ownBlock ≠ some g := by
  rcases ho.2 with ⟨rfl, _⟩ | ⟨g', cap, cur, rfl, _, h2, _⟩
  · simp [Value.ownBlock]
  · intro e
    have e : g' = g := by simpa [Value.ownBlock] using e
    subst e
    exact heapT_ne h.blk h2 (by decide) rfl
/-- Row i is turned: what held it, or a new block, holds the row l now. -/
theorem Rows2.upd (h : Rows2 w lo hi g cs xs) {i : Nat} {v v' : Value} {l : List Nat} (hv : cs[i]? = some v) (hh : hi ≤ hi')
    (hb : ∀ b, lo ≤ b → b < hi → v.ownBlock ≠ some b → w'.heap[b]? = w.heap[b]?) (ho : Own w' lo v' l) (hn : ∀ b, v'.ownBlock = some b → v.ownBlock = some b ∨ hi ≤ b) (hlt : ∀ b, v'.ownBlock = some b → b < hi') :
    Rows2 (w'.setCell ⟨g, i, none⟩ v') lo hi' g (cs.setIfInBounds i v') (xs.set i l) := by
  have hic : i < cs.size := (Array.getElem?_eq_some_iff.1 hv).1
  have hix : i < xs.length := by rw [← h.len]; exact hic
  have hgb : v.ownBlock ≠ some g := own_ne_g h (h.row i v _ hv (List.getElem?_eq_getElem hix))
  have hg' : w'.heap[g]? = some (.cells cs 22 (0, 0)) := (hb g h.gin.1 h.gin.2 hgb).trans h.blk
  have hg2 : v'.ownBlock ≠ some g := by
    rcases ho.2 with ⟨rfl, _⟩ | ⟨g', cap, cur, rfl, _, h2, _⟩
    · simp [Value.ownBlock]
    · intro e
      have e : g' = g := by simpa [Value.ownBlock] using e
      subst e
      exact heapT_ne hg' h2 (by decide) rfl
  have hset : ∀ b, b ≠ g → (w'.setCell ⟨g, i, none⟩ v').heap[b]? = w'.heap[b]? := fun b hb => Below.heap_setCell _ _ _ _ hb
  have hrow : ∀ j u m, j ≠ i → cs[j]? = some u → xs[j]? = some m → Own (w'.setCell ⟨g, i, none⟩ v') lo u m := fun j u m hj hu hm =>
    (h.row j u m hu hm).keep fun b hub => by
      have h1 := (h.row j u m hu hm).lt b hub
      have h2 := h.inn j u b hu hub
      have h3 : b ≠ g := fun e => by subst e; exact own_ne_g h (h.row j u m hu hm) hub
      rw [hset b h3]
      exact hb b h1.1 h2 (fun e => h.apart j i u v b hj hu hv hub e)
  refine ⟨by simp [h.len], ?_, ⟨h.gin.1, by have := h.gin.2; omega⟩, ?_, ?_, ?_⟩
  · simp only [World.setCell, Array.getElem?_modify]
    simp [hg']
  · intro j u m hu hm
    rw [Array.getElem?_setIfInBounds] at hu
    by_cases e : i = j
    · subst e
      rw [if_pos rfl, if_pos hic] at hu
      rw [List.getElem?_set_self hix] at hm
      injection hu with hu
      injection hm with hm
      subst hu hm
      exact ho.keep fun b hub => hset b (fun e => by subst e; exact hg2 hub)
    · rw [if_neg e] at hu
      rw [List.getElem?_set_ne e] at hm
      exact hrow j u m (Ne.symm e) hu hm
  · intro j u b hu hub
    rw [Array.getElem?_setIfInBounds] at hu
    by_cases e : i = j
    · rw [if_pos e, if_pos hic] at hu
      injection hu with hu
      subst hu
      exact hlt b hub
    · rw [if_neg e] at hu
      have := h.inn j u b hu hub
      omega
  · intro j k u u' b hjk hu hu' hub hub'
    rw [Array.getElem?_setIfInBounds] at hu hu'
    have key : ∀ (j : Nat) (u : Value), i ≠ j → cs[j]? = some u → u.ownBlock = some b → v'.ownBlock = some b → False := fun j u e hu hub hb' => by
      rcases hn b hb' with h1 | h1
      · exact h.apart j i u v b (Ne.symm e) hu hv hub h1
      · have := h.inn j u b hu hub
        omega
    by_cases e : i = j
    · by_cases e' : i = k
      · exact hjk (e.symm.trans e')
      · rw [if_pos e, if_pos hic] at hu
        rw [if_neg e'] at hu'
        injection hu with hu
        subst hu
        exact key k u' e' hu' hub' hub
    · rw [if_neg e] at hu
      by_cases e' : i = k
      · rw [if_pos e', if_pos hic] at hu'
        injection hu' with hu'
        subst hu'
        exact key j u e hu hub hub'
      · rw [if_neg e'] at hu'
        exact h.apart j k u u' b hjk hu hu' hub hub'
end

/-- The slice at A, of length m, lies below block B and holds the pairs E. -/
def Edg (w : World) (B : Nat) (A : Option Addr) (m : Nat) (E : List (Nat × Nat)) : Prop :=
  E.length = m ∧ (0 < m → ∃ b off, A = some ⟨b, off, none⟩ ∧ b < B ∧ ∀ j x y, E[j]? = some (x, y) → w.cell? ⟨b, off + j * 2, none⟩ = some (nv x) ∧ w.cell? ⟨b, off + j * 2 + 1, none⟩ = some (nv y))
section
variable {w w' : World} {B B' m : Nat} {A : Option Addr} {E : List (Nat × Nat)}
theorem Edg.below (h : Edg w B A m E) (hb : Below B w w') : Edg w' B A m E :=
  ⟨h.1, fun hm => by
    obtain ⟨b, off, e, hlt, hc⟩ := h.2 hm
    exact ⟨b, off, e, hlt, fun j x y hj => ⟨(hb.cell (p := ⟨b, off + j * 2, none⟩) hlt).trans (hc j x y hj).1, (hb.cell (p := ⟨b, off + j * 2 + 1, none⟩) hlt).trans (hc j x y hj).2⟩⟩⟩
theorem Edg.more (h : Edg w B A m E) (hB : B ≤ B') : Edg w B' A m E :=
  ⟨h.1, fun hm => by
    obtain ⟨b, off, e, hlt, hc⟩ := h.2 hm
    exact ⟨b, off, e, by omega, hc⟩⟩
theorem Edg.at_ (h : Edg w B A m E) {j : Nat} (hj : j < m) : ∃ b off x y, A = some ⟨b, off, none⟩ ∧ b < B ∧ E[j]? = some (x, y) ∧ w.cell? ⟨b, off + j * 2, none⟩ = some (nv x) ∧ w.cell? ⟨b, off + j * 2 + 1, none⟩ = some (nv y) := by
  obtain ⟨b, off, e, hlt, hc⟩ := h.2 (by omega)
  have hl : j < E.length := by rw [h.1]; exact hj
  obtain ⟨c1, c2⟩ := hc j E[j].1 E[j].2 (List.getElem?_eq_getElem hl)
  exact ⟨b, off, E[j].1, E[j].2, e, hlt, List.getElem?_eq_getElem hl, c1, c2⟩
end
end Go.Proofs.YtlfpaemfhanpiaaGreatDoor

namespace Go.Proofs.YtlfpaemfhanpiaaGreatDoor
open Go Go.RowKit Go.Proofs

/-- A node as a value. -/
abbrev ndv (k n : Int) (s : ByteArray) (K : Value) : Value := .agg #[.int .i64 k, .int .i64 n, .string s, K]
/-- The nodes vs lie one after another at A, in a block below hi. -/
def Kd (W : World) (hi : Nat) (A : Option Addr) (vs : List Value) : Prop :=
  vs = [] ∨ ∃ (b off : Nat) (C : Array Value), A = some ⟨b, off, none⟩ ∧ b < hi ∧ W.heap[b]? = some (.cells C 33 (0, 0)) ∧
    ∀ (i : Nat) (v : Value), vs[i]? = some v → ∃ (k n : Int) (s : ByteArray) (K : Value), v = ndv k n s K ∧ C[off + i * 4]? = some (.int .i64 k) ∧ C[off + i * 4 + 1]? = some (.int .i64 n) ∧ C[off + i * 4 + 2]? = some (.string s) ∧ C[off + i * 4 + 3]? = some K
/-- The value v is the tree t. -/
inductive NdV (W : World) (hi : Nat) : TY.Nd → Value → Prop
  | mk (k n : Int) (s : ByteArray) (l : List TY.Nd) (A : Option Addr) (c : Nat) (vs : List Value) : vs.length = l.length → l.length ≤ c → c ≤ maxLen → l.length ≤ 1000000 → s.size ≤ 1000 → Kd W hi A vs →
      (∀ (i : Nat) (t : TY.Nd) (v : Value), l[i]? = some t → vs[i]? = some v → NdV W hi t v) → NdV W hi (.mk k n s l) (ndv k n s (.slice A l.length c))
section
variable {W W' : World} {hi hi' : Nat} {t : TY.Nd} {v : Value}
theorem Kd.keep {A : Option Addr} {vs : List Value} (h : Kd W hi A vs) (hk : ∀ (b : Nat) (C : Array Value), b < hi → W.heap[b]? = some (.cells C 33 (0, 0)) → W'.heap[b]? = W.heap[b]?) (hh : hi ≤ hi') : Kd W' hi' A vs := by
  rcases h with h | ⟨b, off, C, e, hb, hc, hx⟩
  · exact .inl h
  · exact .inr ⟨b, off, C, e, by omega, (hk b C hb hc).trans hc, hx⟩
/-- A tree stands as long as the blocks of nodes below hi do. -/
theorem NdV.keep (h : NdV W hi t v) (hk : ∀ (b : Nat) (C : Array Value), b < hi → W.heap[b]? = some (.cells C 33 (0, 0)) → W'.heap[b]? = W.heap[b]?) (hh : hi ≤ hi') : NdV W' hi' t v := by
  induction h with
  | mk k n s l A c vs h1 h2 h3 h4 hs h5 _ ih => exact .mk k n s l A c vs h1 h2 h3 h4 hs (h5.keep hk hh) ih
theorem NdV.under (h : NdV W hi t v) (hb : Below hi W W') (hh : hi ≤ hi') : NdV W' hi' t v := h.keep (fun b _ hlt _ => hb.block b hlt) hh
/-- Only blocks of other types have turned, besides what is new. -/
theorem NdV.chg {S : Nat → Prop} (h : NdV W hi t v) (hc : Chg S W W') (hhi : hi ≤ W.heap.size) (hS : ∀ (b : Nat) (C : Array Value), S b → W.heap[b]? ≠ some (.cells C 33 (0, 0))) (hh : hi ≤ hi') : NdV W' hi' t v :=
  h.keep (fun b C hlt hC => hc.block b (by omega) fun hs => hS b C hs hC) hh
/-- What a tree shows. -/
theorem NdV.open_ {k n : Int} {s : ByteArray} {l : List TY.Nd} (h : NdV W hi (.mk k n s l) v) : ∃ (A : Option Addr) (c : Nat) (vs : List Value), v = ndv k n s (.slice A l.length c) ∧ vs.length = l.length ∧ l.length ≤ c ∧ c ≤ maxLen ∧ l.length ≤ 1000000 ∧ s.size ≤ 1000 ∧ Kd W hi A vs ∧
    ∀ (i : Nat) (t : TY.Nd) (v : Value), l[i]? = some t → vs[i]? = some v → NdV W hi t v := by
  cases h with
  | mk _ _ _ _ A c vs h1 h2 h3 h4 hs h5 h6 => exact ⟨A, c, vs, rfl, h1, h2, h3, h4, hs, h5, h6⟩
/-- Child i in memory. -/
theorem Kd.at_ {A : Option Addr} {vs : List Value} (h : Kd W hi A vs) {i : Nat} {v : Value} (hv : vs[i]? = some v) : ∃ (b off : Nat) (k n : Int) (s : ByteArray) (K : Value), A = some ⟨b, off, none⟩ ∧ b < hi ∧ v = ndv k n s K ∧
    W.cell? ⟨b, off + i * 4, none⟩ = some (.int .i64 k) ∧ W.cell? ⟨b, off + i * 4 + 1, none⟩ = some (.int .i64 n) ∧ W.cell? ⟨b, off + i * 4 + 2, none⟩ = some (.string s) ∧ W.cell? ⟨b, off + i * 4 + 3, none⟩ = some K := by
  rcases h with rfl | ⟨b, off, C, e, hb, hc, hx⟩
  · simp at hv
  · obtain ⟨k, n, s, K, e2, c0, c1, c2, c3⟩ := hx i v hv
    exact ⟨b, off, k, n, s, K, e, hb, e2, by rw [cell_of_row W b _ C _ (0, 0) hc]; exact c0, by rw [cell_of_row W b _ C _ (0, 0) hc]; exact c1, by rw [cell_of_row W b _ C _ (0, 0) hc]; exact c2, by rw [cell_of_row W b _ C _ (0, 0) hc]; exact c3⟩
theorem Kd.nil (W : World) (hi : Nat) (A : Option Addr) : Kd W hi A [] := .inl rfl
/-- A leaf. -/
theorem NdV.leaf (W : World) (hi : Nat) (k n : Int) (s : ByteArray) (hs : s.size ≤ 1000) : NdV W hi (.mk k n s []) (ndv k n s (.slice none 0 0)) := .mk k n s [] none 0 [] rfl (Nat.le_refl _) (by simp [maxLen]) (by simp) hs (.nil _ _ _) fun i t v h => by simp at h
/-- A node with one child, whose block is new. -/
theorem NdV.one {k n : Int} {s : ByteArray} {t0 : TY.Nd} {k0 n0 : Int} {s0 : ByteArray} {K0 : Value} {g : Nat} (hg : W.heap[g]? = some (.cells #[.int .i64 k0, .int .i64 n0, .string s0, K0] 33 (0, 0))) (hlt : g < hi) (hs : s.size ≤ 1000) (h : NdV W hi t0 (ndv k0 n0 s0 K0)) : NdV W hi (.mk k n s [t0]) (ndv k n s (.slice (some ⟨g, 0, none⟩) 1 1)) := by
  refine .mk k n s [t0] _ 1 [ndv k0 n0 s0 K0] rfl (Nat.le_refl _) (by simp [maxLen]) (by simp) hs (.inr ⟨g, 0, _, rfl, hlt, hg, fun i v hv => ?_⟩) fun i t v ht hv => ?_
  · cases i with
    | zero => injection hv with hv; subst hv; exact ⟨k0, n0, s0, K0, rfl, rfl, rfl, rfl, rfl⟩
    | succ i => simp at hv
  · cases i with
    | zero => injection hv with hv; injection ht with ht; subst hv ht; exact h
    | succ i => simp at hv
/-- A node with two children, whose block is new. -/
theorem NdV.two {k n : Int} {s : ByteArray} {t0 t1 : TY.Nd} {k0 n0 k1 n1 : Int} {s0 s1 : ByteArray} {K0 K1 : Value} {g : Nat} (hg : W.heap[g]? = some (.cells #[.int .i64 k0, .int .i64 n0, .string s0, K0, .int .i64 k1, .int .i64 n1, .string s1, K1] 33 (0, 0))) (hlt : g < hi) (hs : s.size ≤ 1000) (h : NdV W hi t0 (ndv k0 n0 s0 K0)) (h' : NdV W hi t1 (ndv k1 n1 s1 K1)) : NdV W hi (.mk k n s [t0, t1]) (ndv k n s (.slice (some ⟨g, 0, none⟩) 2 2)) := by
  refine .mk k n s [t0, t1] _ 2 [ndv k0 n0 s0 K0, ndv k1 n1 s1 K1] rfl (Nat.le_refl _) (by simp [maxLen]) (by simp) hs (.inr ⟨g, 0, _, rfl, hlt, hg, fun i v hv => ?_⟩) fun i t v ht hv => ?_
  · match i, hv with
    | 0, hv => injection hv with hv; subst hv; exact ⟨k0, n0, s0, K0, rfl, rfl, rfl, rfl, rfl⟩
    | 1, hv => injection hv with hv; subst hv; exact ⟨k1, n1, s1, K1, rfl, rfl, rfl, rfl, rfl⟩
    | i + 2, hv => simp at hv
  · match i, ht, hv with
    | 0, ht, hv => injection hv with hv; injection ht with ht; subst hv ht; exact h
    | 1, ht, hv => injection hv with hv; injection ht with ht; subst hv ht; exact h'
    | i + 2, _, hv => simp at hv
end
end Go.Proofs.YtlfpaemfhanpiaaGreatDoor

namespace Go.Proofs.YtlfpaemfhanpiaaGreatDoor
open Go Go.RowKit Go.Proofs
attribute [local go_sem] Oper.semAt_some

/-- The tree lies in the blocks from B on. -/
def Nw (B : Nat) (w : World) (t : TY.Nd) (v : Value) : Prop := ∀ V : World, (∀ c, B ≤ c → c < w.heap.size → V.heap[c]? = w.heap[c]?) → ∀ hi, w.heap.size ≤ hi → NdV V hi t v
theorem Nw.here {B : Nat} {w : World} {t : TY.Nd} {v : Value} (h : Nw B w t v) : NdV w w.heap.size t v := h w (fun _ _ _ => rfl) _ (Nat.le_refl _)
theorem Nw.shape {B : Nat} {w : World} {t : TY.Nd} {v : Value} (h : Nw B w t v) : ∃ (k n : Int) (s : ByteArray) (A : Option Addr) (m c : Nat), v = ndv k n s (.slice A m c) := by
  have := h.here
  obtain ⟨k, n, s, l⟩ := t
  obtain ⟨A, c, _, e, _⟩ := this.open_
  exact ⟨k, n, s, A, _, c, e⟩
theorem Nw.keep {B : Nat} {w w' : World} {t : TY.Nd} {v : Value} (h : Nw B w t v) (hk : ∀ c, B ≤ c → c < w.heap.size → w'.heap[c]? = w.heap[c]?) (hs : w.heap.size ≤ w'.heap.size) : Nw B w' t v := fun V hV hi hh => h V (fun c h1 h2 => (hV c h1 (by omega)).trans (hk c h1 h2)) hi (by omega)
theorem Nw.lower {B B' : Nat} {w : World} {t : TY.Nd} {v : Value} (h : Nw B w t v) (hB : B' ≤ B) : Nw B' w t v := fun V hV hi hh => h V (fun c h1 h2 => hV c (by omega) h2) hi hh
theorem Nw.leaf (B : Nat) (w : World) (k n : Int) (s : ByteArray) (hs : s.size ≤ 1000) : Nw B w (.mk k n s []) (ndv k n s (.slice none 0 0)) := fun V _ hi _ => NdV.leaf V hi k n s hs
theorem Nw.one {B : Nat} {w : World} {k n : Int} {s : ByteArray} {t0 : TY.Nd} {k0 n0 : Int} {s0 : ByteArray} {K0 : Value} (hB : B ≤ w.heap.size) (hs : s.size ≤ 1000) (h : Nw B w t0 (ndv k0 n0 s0 K0)) : Nw B (w.alloc (.cells #[.int .i64 k0, .int .i64 n0, .string s0, K0] 33)) (.mk k n s [t0]) (ndv k n s (.slice (some ⟨w.heap.size, 0, none⟩) 1 1)) := fun V hV hi hh => by
  rw [World.size_alloc] at hV hh
  refine NdV.one ((hV _ hB (by omega)).trans (World.alloc_heap_new w _)) (by omega) hs (h V (fun c h1 h2 => (hV c h1 (by omega)).trans (Below.heap_alloc w _ c h2)) hi (by omega))
theorem Nw.two {B B1 : Nat} {w1 w : World} {k n : Int} {s : ByteArray} {t0 t1 : TY.Nd} {k0 n0 k1 n1 : Int} {s0 s1 : ByteArray} {K0 K1 : Value} (hB : B ≤ w1.heap.size) (hB1 : w1.heap.size ≤ B1) (hw : B1 ≤ w.heap.size) (hs : s.size ≤ 1000) (h : Nw B w1 t0 (ndv k0 n0 s0 K0)) (hk : ∀ c, B ≤ c → c < w1.heap.size → w.heap[c]? = w1.heap[c]?) (h' : Nw B1 w t1 (ndv k1 n1 s1 K1)) : Nw B (w.alloc (.cells #[.int .i64 k0, .int .i64 n0, .string s0, K0, .int .i64 k1, .int .i64 n1, .string s1, K1] 33)) (.mk k n s [t0, t1]) (ndv k n s (.slice (some ⟨w.heap.size, 0, none⟩) 2 2)) := fun V hV hi hh => by
  rw [World.size_alloc] at hV hh
  refine NdV.two ((hV _ (by omega) (by omega)).trans (World.alloc_heap_new w _)) (by omega) hs (h V (fun c h1 h2 => (hV c h1 (by omega)).trans ((Below.heap_alloc w _ c (by omega)).trans (hk c h1 h2))) hi (by omega)) (h' V (fun c h1 h2 => (hV c (by omega) (by omega)).trans (Below.heap_alloc w _ c h2)) hi (by omega))

theorem ret_N {fn : Func} {p : Tmp} (hf : fn.results = #[.cell p 33]) {V : World} {b : Nat} {x0 x1 x2 x3 : Value} (tmps : Array Value) (hp : tmps.getD p undef = .pointer (some ⟨b, 0, none⟩)) (h : V.heap[b]? = some (.cells #[x0, x1, x2, x3] 33 (0, 0))) : (results fn tmps).run Tryz.prog V = .ok (.agg #[x0, x1, x2, x3]) V := by
  have c0 : V.cell? ⟨b, 0, none⟩ = some x0 := cell_of_row V b 0 _ _ (0, 0) h
  have c1 : V.cell? ⟨b, 1, none⟩ = some x1 := cell_of_row V b 1 _ _ (0, 0) h
  have c2 : V.cell? ⟨b, 2, none⟩ = some x2 := cell_of_row V b 2 _ _ (0, 0) h
  have c3 : V.cell? ⟨b, 3, none⟩ = some x3 := cell_of_row V b 3 _ _ (0, 0) h
  have ia := Tryz.isAgg33
  have so := Tryz.sizeOf33
  simp only [results, hf]
  have hp' : tmps[p]?.getD undef = .pointer (some ⟨b, 0, none⟩) := by simpa using hp
  simp [go_sem, hp', c0, c1, c2, c3, ia, so]
/-- A node with three children, whose block is new. -/
theorem NdV.three {W : World} {hi : Nat} {k n : Int} {s : ByteArray} {t0 t1 t2 : TY.Nd} {k0 n0 k1 n1 k2 n2 : Int} {s0 s1 s2 : ByteArray} {K0 K1 K2 : Value} {g : Nat} (hg : W.heap[g]? = some (.cells #[.int .i64 k0, .int .i64 n0, .string s0, K0, .int .i64 k1, .int .i64 n1, .string s1, K1, .int .i64 k2, .int .i64 n2, .string s2, K2] 33 (0, 0))) (hlt : g < hi) (hs : s.size ≤ 1000) (h : NdV W hi t0 (ndv k0 n0 s0 K0)) (h' : NdV W hi t1 (ndv k1 n1 s1 K1)) (h'' : NdV W hi t2 (ndv k2 n2 s2 K2)) : NdV W hi (.mk k n s [t0, t1, t2]) (ndv k n s (.slice (some ⟨g, 0, none⟩) 3 3)) := by
  refine .mk k n s [t0, t1, t2] _ 3 [ndv k0 n0 s0 K0, ndv k1 n1 s1 K1, ndv k2 n2 s2 K2] rfl (Nat.le_refl _) (by simp [maxLen]) (by simp) hs (.inr ⟨g, 0, _, rfl, hlt, hg, fun i v hv => ?_⟩) fun i t v ht hv => ?_
  · match i, hv with
    | 0, hv => injection hv with hv; subst hv; exact ⟨k0, n0, s0, K0, rfl, rfl, rfl, rfl, rfl⟩
    | 1, hv => injection hv with hv; subst hv; exact ⟨k1, n1, s1, K1, rfl, rfl, rfl, rfl, rfl⟩
    | 2, hv => injection hv with hv; subst hv; exact ⟨k2, n2, s2, K2, rfl, rfl, rfl, rfl, rfl⟩
    | i + 3, hv => simp at hv
  · match i, ht, hv with
    | 0, ht, hv => injection hv with hv; injection ht with ht; subst hv ht; exact h
    | 1, ht, hv => injection hv with hv; injection ht with ht; subst hv ht; exact h'
    | 2, ht, hv => injection hv with hv; injection ht with ht; subst hv ht; exact h''
    | i + 3, _, hv => simp at hv
end Go.Proofs.YtlfpaemfhanpiaaGreatDoor

namespace Go.Proofs.YtlfpaemfhanpiaaGreatDoor
open Go Go.RowKit Go.Proofs
attribute [local go_sem] Oper.semAt_some

/-- What a slot is to hold: a value, a tree, the children of a node. -/
inductive Sp where
  | val (v : Value)
  | tree (t : TY.Nd)
  | kids (l : List TY.Nd)
def Sp.ok (w : World) : Sp → Value → Prop
  | .val v, x => x = v
  | .tree t, x => NdV w w.heap.size t x
  | .kids l, x => ∃ A c, x = .slice A l.length c ∧ ∀ (k n : Int) (s : ByteArray), s.size ≤ 1000 → NdV w w.heap.size (.mk k n s l) (ndv k n s x)
theorem Sp.ok.keep {w w' : World} {s : Sp} {x : Value} (h : s.ok w x) (hb : Below w.heap.size w w') : s.ok w' x := by
  cases s with
  | val v => exact h
  | tree t => exact NdV.under h hb hb.size
  | kids l =>
    obtain ⟨A, c, e, h⟩ := h
    exact ⟨A, c, e, fun k n s hs => (h k n s hs).under hb hb.size⟩
/-- Where the region stands: the operations that are listed have left what they are to leave. -/
structure RI (N lo x : Nat) (sl : Nat → Nat) (sp : Nat → Sp) (a0 : Act) (W : World) (listed : Array Bool) (a : Act) (w : World) : Prop where
  size : a.tmps.size = a0.tmps.size
  defers : a.defers = a0.defers
  low : ∀ j, j < lo → j ≠ x → a.tmps[j]? = a0.tmps[j]?
  below : Below W.heap.size W w
  ok : ∀ i, i < N → listed.getD i false = true → (sp i).ok w (a.tmps[sl i]?.getD undef)
section
variable {N lo x : Nat} {sl : Nat → Nat} {sp : Nat → Sp} {a0 a : Act} {W w w' : World} {listed : Array Bool}
theorem RI.put (hsl : ∀ i, i < N → sl i < a0.tmps.size ∧ (lo ≤ sl i ∨ sl i = x)) (hinj : ∀ i j, i < N → j < N → sl i = sl j → i = j) (h : RI N lo x sl sp a0 W listed a w) (hb : Below w.heap.size w w') {i : Nat} {v : Value} (hi : i < N) (hv : (sp i).ok w' v) (d : Tmp) (hd : d = sl i) :
    RI N lo x sl sp a0 W (listed.setIfInBounds i true) (a.put (some d) v) w' := by
  subst hd
  have hs := h.size
  refine ⟨by simp [Act.put, hs], h.defers, fun j hj hx => ?_, h.below.trans (hb.mono h.below.size), fun j hj hl => ?_⟩
  · rw [← h.low j hj hx]
    simp only [Act.put]
    rw [Array.getElem?_setIfInBounds_ne]
    have := (hsl i hi).2
    omega
  · simp only [Act.put]
    by_cases e : j = i
    · subst e
      rw [Array.getElem?_setIfInBounds_self, if_pos (by rw [hs]; exact (hsl j hj).1)]
      exact hv
    · rw [Array.getElem?_setIfInBounds_ne (fun e2 => e (hinj j i hj hi e2.symm))]
      refine (h.ok j hj ?_).keep hb
      rw [Array.getD_eq_getD_getElem?, Array.getElem?_setIfInBounds_ne (fun e2 => e e2.symm), ← Array.getD_eq_getD_getElem?] at hl
      exact hl
end
/-- Children in a block of their own. -/
theorem kids_of {W : World} {g : Nat} {C : Array Value} {l : List TY.Nd} (hg : W.heap[g]? = some (.cells C 33 (0, 0))) (hl : l.length ≤ 1000) (h : ∀ i t, l[i]? = some t → ∃ (k n : Int) (s : ByteArray) (K : Value), C[i * 4]? = some (.int .i64 k) ∧ C[i * 4 + 1]? = some (.int .i64 n) ∧ C[i * 4 + 2]? = some (.string s) ∧ C[i * 4 + 3]? = some K ∧ NdV W W.heap.size t (ndv k n s K)) :
    (Sp.kids l).ok W (.slice (some ⟨g, 0, none⟩) l.length l.length) := by
  refine ⟨_, _, rfl, fun k n s hs => ?_⟩
  have hlt := heap_lt hg
  have key : ∀ i : Nat, ∃ v, ∀ t, l[i]? = some t → (∃ (k n : Int) (s : ByteArray) (K : Value), v = ndv k n s K ∧ C[i * 4]? = some (.int .i64 k) ∧ C[i * 4 + 1]? = some (.int .i64 n) ∧ C[i * 4 + 2]? = some (.string s) ∧ C[i * 4 + 3]? = some K) ∧ NdV W W.heap.size t v := fun i => by
    cases hi : l[i]? with
    | none => exact ⟨undef, fun t ht => by cases ht⟩
    | some t =>
      obtain ⟨k, n, s, K, h1, h2, h3, h4, h5⟩ := h i t hi
      exact ⟨_, fun t' ht => by injection ht with ht; subst ht; exact ⟨⟨k, n, s, K, rfl, h1, h2, h3, h4⟩, h5⟩⟩
  let f : Nat → Value := fun i => (key i).choose
  have hf : ∀ i t, l[i]? = some t → _ := fun i t ht => (key i).choose_spec t ht
  refine .mk k n s l _ _ ((List.range l.length).map f) (by simp) (Nat.le_refl _) (by simp only [maxLen]; omega) (by omega) hs (.inr ⟨g, 0, C, rfl, hlt, hg, fun i v hv => ?_⟩) fun i t v ht hv => ?_
  · rw [List.getElem?_map] at hv
    have hi : i < l.length := by
      rcases Nat.lt_or_ge i l.length with h | h
      · exact h
      · rw [List.getElem?_eq_none (by simpa using h)] at hv; cases hv
    rw [List.getElem?_range hi] at hv
    injection hv with hv
    subst hv
    obtain ⟨⟨k, n, s, K, e, h1, h2, h3, h4⟩, _⟩ := hf i _ (List.getElem?_eq_getElem hi)
    exact ⟨k, n, s, K, e, by simpa using h1, by simpa using h2, by simpa using h3, by simpa using h4⟩
  · rw [List.getElem?_map] at hv
    have hi : i < l.length := (List.getElem?_eq_some_iff.1 ht).1
    rw [List.getElem?_range hi] at hv
    injection hv with hv
    subst hv
    exact (hf i t ht).2
theorem cells4 {V : World} {g : Nat} {x0 x1 x2 x3 : Value} {t : TypeId} (h : V.heap[g]? = some (.cells #[x0, x1, x2, x3] t (0, 0))) : V.cell? ⟨g, 0, none⟩ = some x0 ∧ V.cell? ⟨g, 1, none⟩ = some x1 ∧ V.cell? ⟨g, 2, none⟩ = some x2 ∧ V.cell? ⟨g, 3, none⟩ = some x3 ∧ V.frozen? ⟨g, 0, none⟩ = false ∧ V.frozen? ⟨g, 1, none⟩ = false ∧ V.frozen? ⟨g, 2, none⟩ = false ∧ V.frozen? ⟨g, 3, none⟩ = false :=
  ⟨cell_of_row V g 0 _ _ (0, 0) h, cell_of_row V g 1 _ _ (0, 0) h, cell_of_row V g 2 _ _ (0, 0) h, cell_of_row V g 3 _ _ (0, 0) h, by simp [World.frozen?, h], by simp [World.frozen?, h], by simp [World.frozen?, h], by simp [World.frozen?, h]⟩
/-- Every edge points back. -/
def backs (ops : Array Oper) : Bool := (List.range ops.size).all fun i => match ops[i]? with
  | some o => o.after.all fun e => decide (e.on < i)
  | none => true
theorem backs_spec {ops : Array Oper} (h : backs ops = true) {i : Nat} {o : Oper} (ho : ops[i]? = some o) {e : Edge} (he : e ∈ o.after) : e.on < i := by
  unfold backs at h
  rw [List.all_eq_true] at h
  have hi : i < ops.size := (Array.getElem?_eq_some_iff.1 ho).1
  have := h i (List.mem_range.2 hi)
  rw [ho] at this
  simp only at this
  rw [Array.all_eq_true_iff_forall_mem] at this
  simpa using this e he
/-- A region that draws its order, by what its slots are to hold. -/
theorem region_run {P : Program} {id : Nat} {ops : Array Oper} {Q : Exit → Act → World → Prop} {a0 : Act} {W : World} (N lo x : Nat) (sl : Nat → Nat) (sp : Nat → Sp) (hm : P.follows .mixedOrders = true) (hN : ops.size = N) (hb : backs ops = true)
    (step : ∀ (listed : Array Bool) (a : Act) (w : World) (i : Nat), RI N lo x sl sp a0 W.drew listed a w → i < N → (∀ o, ops[i]? = some o → ∀ e ∈ o.after, Region.binds .any e = true → listed.getD e.on false = true) → wpOp P ops Q i (RI N lo x sl sp a0 W.drew (listed.setIfInBounds i true)) a w)
    (fin : ∀ (a : Act) (w : World), a.tmps.size = a0.tmps.size → a.defers = a0.defers → (∀ j, j < lo → j ≠ x → a.tmps[j]? = a0.tmps[j]?) → Below W.drew.heap.size W.drew w → (∀ i, i < N → (sp i).ok w (a.tmps[sl i]?.getD undef)) → Q .normal a w) : (Code.region id ops true).wp P Q a0 W := by
  refine wp_region_any hm ?_
  refine wpAny_inv (RI N lo x sl sp a0 W.drew) (fun listed a w i hs hI hi => ?_) (fun listed a w hs hr hI => ?_) _ _ _ _ (by simp) (by simp) ⟨rfl, rfl, fun _ _ _ => rfl, Below.refl _ _, fun i hi hl => ?_⟩
  · obtain ⟨h1, _, h3⟩ := ready_spec hi
    refine step listed a w i hI (by omega) fun o ho e he hbd => ?_
    have := h3 o ho
    rw [Array.all_eq_true_iff_forall_mem] at this
    have := this e he
    rw [hbd] at this
    simpa using this
  · exact fin a w hI.size hI.defers hI.low hI.below fun i hi => hI.ok i hi (all_listed hs (fun i o ho e he => backs_spec hb ho he) hr i (by omega))
  · rw [Array.getD_eq_getD_getElem?, Array.getElem?_replicate] at hl
    split at hl <;> simp at hl
theorem st_run {P : Program} {ops : Array Oper} {Q : Exit → Act → World → Prop} {N lo x : Nat} {sl : Nat → Nat} {sp : Nat → Sp} {a0 a : Act} {W w w' : World} {listed : Array Bool} {i : Nat} {o : Oper} {v : Value} (hsl : ∀ i, i < N → sl i < a0.tmps.size ∧ (lo ≤ sl i ∨ sl i = x)) (hinj : ∀ i j, i < N → j < N → sl i = sl j → i = j) (hI : RI N lo x sl sp a0 W listed a w) (hi : i < N) (ho : ops[i]? = some o) (hg : o.guard = none) (hd : o.dst = some (sl i))
    (hrun : (execOp a.eval o).run P w = .ok (.value v) w') (hb : Below w.heap.size w w') (hv : (sp i).ok w' v) : wpOp P ops Q i (RI N lo x sl sp a0 W (listed.setIfInBounds i true)) a w := by
  unfold wpOp
  rw [ho]
  simp only
  rw [if_pos (by unfold Region.wanted; rw [hg])]
  refine .inl ?_
  unfold Oper.wp
  rw [hrun]
  show RI _ _ _ _ _ _ _ _ (a.put o.dst v) w'
  rw [hd]
  exact hI.put hsl hinj hb hi hv _ rfl
theorem st_call {P : Program} {ops : Array Oper} {Q : Exit → Act → World → Prop} {N lo x : Nat} {sl : Nat → Nat} {sp : Nat → Sp} {a0 a : Act} {W w : World} {listed : Array Bool} {i : Nat} {o : Oper} {v : Value} {f : FuncId} {args : Array Value} (hsl : ∀ i, i < N → sl i < a0.tmps.size ∧ (lo ≤ sl i ∨ sl i = x)) (hinj : ∀ i j, i < N → j < N → sl i = sl j → i = j) (hI : RI N lo x sl sp a0 W listed a w) (hi : i < N) (ho : ops[i]? = some o) (hg : o.guard = none) (hd : o.dst = some (sl i))
    (hrun : (execOp a.eval o).run P w = .ok (.enter f args) w) (hc : Calls P f args w fun e w' => e = .returned v ∧ Below w.heap.size w w' ∧ (sp i).ok w' v) : wpOp P ops Q i (RI N lo x sl sp a0 W (listed.setIfInBounds i true)) a w := by
  unfold wpOp
  rw [ho]
  simp only
  rw [if_pos (by unfold Region.wanted; rw [hg])]
  refine .inl ?_
  unfold Oper.wp
  rw [hrun]
  refine hc.mono ?_
  rintro e w' ⟨rfl, hb, hv⟩
  simp only
  rw [hd]
  exact hI.put hsl hinj hb hi hv _ rfl
end Go.Proofs.YtlfpaemfhanpiaaGreatDoor
