/-
  Words for memory: slices of integers that came in, that are handed on, that the call owns; what becomes of them where memory grows. No function of the program.
  The contracts of the reference model's Few and Ints: copies of a slice's first elements. Condition: the slice holds integers of its kind.
  The contracts of wire.Out: each method appends the encoding of its argument, Done hands back a copy. Conditions: the lengths are such of which we speak.
  The contracts of slices.Clone of bytes, of Out.Done and of NewIn. Condition: the slice holds bytes.
  The contracts of wire.In's small methods: Fail, Err, End, octet. No condition beyond the reader's shape.
  Decoding a tape, as a function on lists of bytes. Plain mathematics; no function of the program.
  The values of causes, messages, events and questions. No function of the program.
  Go's == of causes and messages. No condition.
-/
import Derived.Test.YtiokiecnglmbnaaRows
import Derived.Test.YtiokiecnglmbnaaK1
import Derived.Below
import Derived.Laws.OwnMore
import Derived.Deep.Draws
import Derived.Deep.AppendLies
import Derived.Laws.Rows
import Derived.Laws.AppendOwnNone
import Derived.OwnWalk
import Derived.Maps.AppendAt
import Derived.WalkKit
import Derived.WalkSpells
import Derived.WalkLawsBesides
import Derived.OpenShut
import Derived.Deep.QuietTactic
import Derived.BigQuiet
import Derived.Lib.Hide
import Derived.RangeFuncBox
import Derived.Test.YtiokiecnglmbnaaK2
import Derived.Lib.SliceRun
import Derived.Test.YtiokiecnglmbnaaK6
import Derived.Laws.StructEq
import Derived.ChangeKeysEq

namespace Go.Proofs.Ytiokiecnglmbnaa
open Go Go.RowKit

/-- The slice at A, of length n, lies below block B and holds the integers zs of kind k. -/
def Ints (k : IntKind) (B : Nat) (w : World) (A : Option Addr) (n : Nat) (zs : List Int) : Prop :=
  zs.length = n ∧ (0 < n → ∃ b off, A = some ⟨b, off, none⟩ ∧ b < B ∧ ∀ j, j < n → w.cell? ⟨b, off + j, none⟩ = some (.int k (zs[j]?.getD 0)))

section
variable {k : IntKind} {B B' n : Nat} {w w' : World} {A : Option Addr} {zs : List Int}
theorem Ints.len (h : Ints k B w A n zs) : zs.length = n := h.1
theorem Ints.nil (k : IntKind) (B : Nat) (w : World) (A : Option Addr) : Ints k B w A 0 [] := ⟨rfl, fun h => absurd h (by omega)⟩
theorem Ints.at_ (h : Ints k B w A n zs) (hn : 0 < n) : ∃ b off, A = some ⟨b, off, none⟩ ∧ b < B ∧ ∀ j, j < n → w.cell? ⟨b, off + j, none⟩ = some (.int k (zs[j]?.getD 0)) := h.2 hn
theorem Ints.keep (h : Ints k B w A n zs) (hk : ∀ p : Addr, p.block < B → w'.cell? p = w.cell? p) : Ints k B w' A n zs :=
  ⟨h.1, fun hn => by
    obtain ⟨b, off, e, hb, hc⟩ := h.2 hn
    exact ⟨b, off, e, hb, fun j hj => (hk ⟨b, off + j, none⟩ hb).trans (hc j hj)⟩⟩
theorem Ints.more (h : Ints k B w A n zs) (hB : B ≤ B') : Ints k B' w A n zs :=
  ⟨h.1, fun hn => by
    obtain ⟨b, off, e, hb, hc⟩ := h.2 hn
    exact ⟨b, off, e, by omega, hc⟩⟩
theorem Ints.below (h : Ints k B w A n zs) (hb : Below B w w') : Ints k B w' A n zs := h.keep fun _ hp => hb.cell hp
theorem Ints.alloc (h : Ints k B w A n zs) (hB : B ≤ w.heap.size) (o : Obj) : Ints k B (w.alloc o) A n zs := h.below ((Below.refl _ _).alloc hB o)
theorem Ints.drew (h : Ints k B w A n zs) : Ints k B w.drew A n zs := h.below (Below.refl _ _).drew
theorem Ints.setCell (h : Ints k B w A n zs) {p : Addr} (hB : B ≤ p.block) (u : Value) : Ints k B (w.setCell p u) A n zs := h.below ((Below.refl _ _).setCell hB u)

theorem getD_mem {l : List Int} {j : Nat} (h : j < l.length) : l[j]?.getD 0 ∈ l := by
  rw [List.getElem?_eq_getElem h]; exact List.getElem_mem h

/-- What a row that the call owns holds. -/
theorem Ints.of_own {base size : Nat} {e : TypeId} {a : Option Addr} {n c : Nat} {zs : List Int} (hs : size = 1) (h : w.ownsRow base e size (.slice a n c) n (zs.map (Value.int k))) : Ints k w.heap.size w a n zs := by
  subst hs
  refine ⟨by have := h.1; simpa using this, fun hn => ?_⟩
  obtain ⟨g, cap, hv, _, hlt⟩ := h.form hn
  have hA : a = some ⟨g, 0, none⟩ := by injection hv
  subst hA
  refine ⟨g, 0, rfl, hlt, fun j hj => ?_⟩
  have hl : zs.length = n := by have := h.1; simpa using this
  have hc := h.cells (g := g) rfl j (.int k (zs[j]?.getD 0)) (by rw [List.getElem?_map, List.getElem?_eq_getElem (by omega)]; rfl)
  rw [Addr.add_lit] at hc
  exact hc
end

/-- What a law is told of a slice of integers that came in. -/
def Row (k : IntKind) (w : World) (a : Option Addr) (len cap : Nat) (zs : List Int) : Prop :=
  (a = none ∧ len = 0 ∧ cap = 0 ∧ zs = []) ∨
  ∃ x, a = some x ∧ len ≤ cap ∧ cap ≤ maxLen ∧ zs.length = cap ∧ (∀ i, i < zs.length → w.cell? (x.add i) = some (.int k (zs.getD i 0))) ∧ ∀ n ∈ zs, (Lit.int k n).wf = true
theorem Row.ints {k : IntKind} {w : World} {a : Option Addr} {len cap : Nat} {zs : List Int} (h : Row k w a len cap zs) :
    Ints k w.heap.size w a len (zs.take len) ∧ len ≤ cap ∧ cap ≤ maxLen ∧ ∀ n ∈ zs.take len, (Lit.int k n).wf = true := by
  rcases h with ⟨rfl, rfl, rfl, rfl⟩ | ⟨x, rfl, hl, hm, hz, hcell, hwz⟩
  · exact ⟨Ints.nil _ _ _ _, Nat.le_refl _, by simp [maxLen], fun n hn => by cases hn⟩
  · refine ⟨⟨by simp; omega, fun hn => ?_⟩, hl, hm, fun n hn => hwz n (List.mem_of_mem_take hn)⟩
    obtain ⟨b, off, rfl, hc⟩ := ints_at hcell (by omega)
    have hb : b < w.heap.size := by
      have h0 := hc 0 (by omega)
      rcases Nat.lt_or_ge b w.heap.size with h | h
      · exact h
      · simp [World.cell?, Array.getElem?_eq_none h] at h0
    exact ⟨b, off, rfl, hb, fun j hj => by rw [hc j (by omega), List.getElem?_take_of_lt hj, List.getD_eq_getElem?_getD]⟩
theorem b8_of {l : List Int} (h : ∀ n ∈ l, (Lit.int .u8 n).wf = true) : ∀ n ∈ l, B8 n := fun n hn => by
  have := bounds_u8 (h n hn)
  unfold B8
  omega
theorem i64_of {l : List Int} (h : ∀ n ∈ l, (Lit.int .i64 n).wf = true) : ∀ n ∈ l, I64 n := fun n hn => by
  have := bounds_i64 (h n hn)
  unfold I64
  omega

/-- What may be appended to a slice of the call's own. -/
def Slc (k : IntKind) (w : World) (a : Option Addr) (n c : Nat) (zs : List Int) : Prop :=
  zs.length = n ∧ n ≤ c ∧ c ≤ maxLen ∧ ((a = none ∧ c = 0) ∨ ∃ x, a = some x ∧ ∀ i u, (zs.map (Value.int k))[i]? = some u → w.cell? (x.add i) = some u)
theorem Row.slc {k : IntKind} {w : World} {a : Option Addr} {len cap : Nat} {zs : List Int} (h : Row k w a len cap zs) : Slc k w a len cap (zs.take len) := by
  rcases h with ⟨rfl, rfl, rfl, rfl⟩ | ⟨x, rfl, hl, hm, hz, hcell, hwz⟩
  · exact ⟨rfl, Nat.le_refl _, by simp [maxLen], .inl ⟨rfl, rfl⟩⟩
  · refine ⟨by simp; omega, hl, hm, .inr ⟨x, rfl, fun i u hu => ?_⟩⟩
    rw [List.getElem?_map] at hu
    have hi : i < (zs.take len).length := by
      rcases Nat.lt_or_ge i (zs.take len).length with h | h
      · exact h
      · rw [List.getElem?_eq_none h] at hu; cases hu
    have hi2 : i < zs.length := by have := List.length_take_le' len zs; omega
    rw [hcell i hi2, ← hu, List.getElem?_eq_getElem hi, List.getElem_take, List.getD_eq_getElem?_getD, List.getElem?_eq_getElem hi2]
    rfl
theorem Slc.below {k : IntKind} {w w' : World} {a : Option Addr} {n c : Nat} {zs : List Int} (h : Slc k w a n c zs) (hb : Below w.heap.size w w') : Slc k w' a n c zs := by
  obtain ⟨h1, h2, h3, h4⟩ := h
  refine ⟨h1, h2, h3, ?_⟩
  rcases h4 with h4 | ⟨x, e, hx⟩
  · exact .inl h4
  · refine .inr ⟨x, e, fun i u hu => ?_⟩
    have hc := hx i u hu
    have hlt : (x.add i).block < w.heap.size := by
      rcases Nat.lt_or_ge (x.add i).block w.heap.size with h | h
      · exact h
      · simp [World.cell?, Array.getElem?_eq_none h] at hc
    exact (hb.cell hlt).trans hc

theorem own_slice {w : World} {base : Nat} {e : TypeId} {v : Value} {n : Nat} {xs : List Value} (h : w.ownsRow base e 1 v n xs) : ∃ A c, v = .slice A n c ∧ n ≤ c ∧ c ≤ maxLen := by
  rcases h.2 with ⟨rfl, rfl⟩ | ⟨g, cap, cur, rfl, _, _, h1, h2, _⟩
  · exact ⟨none, 0, rfl, Nat.le_refl _, by simp [maxLen]⟩
  · exact ⟨_, cap, rfl, h1, h2⟩
theorem own_slc {w : World} {base n c : Nat} {e : TypeId} {k : IntKind} {A : Option Addr} {zs : List Int} (h : w.ownsRow base e 1 (.slice A n c) n (zs.map (Value.int k))) : Slc k w A n c zs := by
  have hl : zs.length = n := by have := h.1; simpa using this
  rcases h.2 with ⟨e1, e2⟩ | ⟨g, cap, cur, e1, _, _, h1, h2, _⟩
  · injection e1 with ea eb ec
    exact ⟨hl, by omega, by rw [ec]; simp [maxLen], .inl ⟨ea, ec⟩⟩
  · injection e1 with ea eb ec
    subst ea ec
    exact ⟨hl, h1, h2, .inr ⟨_, rfl, h.cells rfl⟩⟩

/-- A function tells a bool and writes nothing that was there. -/
def Tells (b : Bool) (w : World) (e : Ending) (w' : World) : Prop := e = .returned (.bool b) ∧ Below w.heap.size w w'
theorem below_drewN' {B : Nat} {a w : World} (h : Below B a w) (n : Nat) : Below B a (w.drewN n) := ⟨h.os, h.tape, h.output, h.size, h.block⟩
theorem take_step {xs ys : List Int} {n k : Nat} {x : Int} (hx : xs.length = n) (hy : ys.length = n) (hk : k < n) (h : xs.take k = ys.take k) (h1 : xs[k]?.getD 0 = x) (h2 : ys[k]?.getD 0 = x) : Hid (xs.take (k + 1) = ys.take (k + 1)) := by
  show xs.take (k + 1) = ys.take (k + 1)
  rw [List.take_add_one, List.take_add_one, h]
  rw [List.getElem?_eq_getElem (by omega)] at h1 h2 ⊢
  rw [List.getElem?_eq_getElem (by omega)]
  simp only [Option.getD_some] at h1 h2
  rw [h1, h2]
theorem take_all {xs ys : List Int} {n : Nat} (hx : xs.length = n) (hy : ys.length = n) (h : xs.take n = ys.take n) : xs = ys := by
  rw [List.take_of_length_le (by omega), List.take_of_length_le (by omega)] at h
  exact h


/-- A slice of integers of kind k, in a block of plain cells of element type t below block B; nil let in. -/
def Lst (t : TypeId) (k : IntKind) (B : Nat) (w : World) (A : Option Addr) (n c : Nat) (zs : List Int) : Prop :=
  zs.length = n ∧ n ≤ c ∧ c ≤ maxLen ∧ ((A = none ∧ c = 0) ∨
    ∃ b off C, A = some ⟨b, off, none⟩ ∧ b < B ∧ w.heap[b]? = some (.cells C t (0, 0)) ∧ ∀ j, j < n → C[off + j]? = some (.int k (zs[j]?.getD 0)))
section
variable {t : TypeId} {k : IntKind} {B B' n c : Nat} {w w' : World} {A : Option Addr} {zs : List Int}
theorem Lst.len (h : Lst t k B w A n c zs) : zs.length = n := h.1
theorem Lst.le (h : Lst t k B w A n c zs) : n ≤ c := h.2.1
theorem Lst.cap (h : Lst t k B w A n c zs) : c ≤ maxLen := h.2.2.1
theorem Lst.none_ (t : TypeId) (k : IntKind) (B : Nat) (w : World) : Lst t k B w none 0 0 [] := ⟨rfl, Nat.le_refl _, by simp [maxLen], .inl ⟨rfl, rfl⟩⟩
theorem Lst.more (h : Lst t k B w A n c zs) (hB : B ≤ B') : Lst t k B' w A n c zs := by
  obtain ⟨h1, h2, h3, h4⟩ := h
  refine ⟨h1, h2, h3, ?_⟩
  rcases h4 with h4 | ⟨b, off, C, e, hb, hc⟩
  · exact .inl h4
  · exact .inr ⟨b, off, C, e, by omega, hc⟩
theorem Lst.keep (h : Lst t k B w A n c zs) (hk : ∀ b C, b < B → w.heap[b]? = some (.cells C t (0, 0)) → w'.heap[b]? = w.heap[b]?) : Lst t k B w' A n c zs := by
  obtain ⟨h1, h2, h3, h4⟩ := h
  refine ⟨h1, h2, h3, ?_⟩
  rcases h4 with h4 | ⟨b, off, C, e, hb, hc, hj⟩
  · exact .inl h4
  · exact .inr ⟨b, off, C, e, hb, (hk b C hb hc).trans hc, hj⟩
theorem Lst.below (h : Lst t k B w A n c zs) (hb : Below B w w') : Lst t k B w' A n c zs := h.keep fun b _ hB _ => hb.block b hB
theorem heap_lt {w : World} {b : Nat} {o : Obj} (h : w.heap[b]? = some o) : b < w.heap.size := (Array.getElem?_eq_some_iff.1 h).1
theorem Lst.grown {row : Option Nat} (h : Lst t k B w A n c zs) (hg : w.grownBy w' row) (hr : ∀ b C, row = some b → w.heap[b]? ≠ some (.cells C t (0, 0))) : Lst t k B w' A n c zs :=
  h.keep fun b C _ hc => hg.block b (heap_lt hc) (fun e => hr b C e.symm hc)
theorem Lst.ints (h : Lst t k B w A n c zs) : Ints k B w A n zs := by
  obtain ⟨h1, h2, h3, h4⟩ := h
  refine ⟨h1, fun hn => ?_⟩
  rcases h4 with ⟨rfl, h4⟩ | ⟨b, off, C, e, hb, hc, hj⟩
  · omega
  · exact ⟨b, off, e, hb, fun j hjn => by
      rw [cell_of_row w b (off + j) C t (0, 0) hc]
      exact hj j hjn⟩
theorem Lst.slc (h : Lst t k B w A n c zs) : Slc k w A n c zs := by
  obtain ⟨h1, h2, h3, h4⟩ := h
  refine ⟨h1, h2, h3, ?_⟩
  rcases h4 with h4 | ⟨b, off, C, e, hb, hc, hj⟩
  · exact .inl h4
  · refine .inr ⟨_, e, fun i u hu => ?_⟩
    rw [List.getElem?_map] at hu
    have hi : i < zs.length := by
      rcases Nat.lt_or_ge i zs.length with h | h
      · exact h
      · rw [List.getElem?_eq_none h] at hu; cases hu
    rw [List.getElem?_eq_getElem hi] at hu
    have := hj i (by omega)
    rw [List.getElem?_eq_getElem hi] at this
    rw [Addr.add_lit, cell_of_row w b (off + i) C t (0, 0) hc, this, ← hu]
    rfl
theorem Lst.of_own {base : Nat} (h : w.ownsRow base t 1 (.slice A n c) n (zs.map (Value.int k))) : Lst t k w.heap.size w A n c zs := by
  have hl : zs.length = n := by have := h.1; simpa using this
  rcases h.2 with ⟨e1, e2⟩ | ⟨g, cap, cur, e1, _, hg, h1, h2, h3, h4⟩
  · injection e1 with ea eb ec
    exact ⟨hl, by omega, by rw [ec]; simp [maxLen], .inl ⟨ea, ec⟩⟩
  · injection e1 with ea eb ec
    subst ea ec
    refine ⟨hl, h1, h2, .inr ⟨g, 0, cur, rfl, heap_lt hg, hg, fun j hj => ?_⟩⟩
    rw [Nat.zero_add]
    have e : (cur.toList.take (n * 1))[j]? = (zs.map (Value.int k))[j]? := by rw [h4]
    rw [List.getElem?_take_of_lt (by omega), Array.getElem?_toList, List.getElem?_map, List.getElem?_eq_getElem (by omega)] at e
    rw [e, List.getElem?_eq_getElem (by omega)]
    rfl
end

/-- One new cell, as a slice. -/
theorem slc_one (k : IntKind) (W : World) (x : Int) (t : TypeId) : Slc k (W.alloc (.cells #[.int k x] t)) (some ⟨W.heap.size, 0, none⟩) 1 1 [x] :=
  ⟨rfl, Nat.le_refl _, by simp [maxLen], .inr ⟨_, rfl, cell_one_new _ _ _⟩⟩

/-- append onto a row of the call's own, of one-cell integers, the source nil or not. -/
theorem wpList_append_slc {P : Program} {w : World} {ops : Array Oper} {rest : List Oper} {o : Oper} {a : Act} {Q : Exit → Act → World → Prop} (hgd : o.guard = none) (s x : Operand) (t : TypeId)
    (ho : o.op = .call { callee := .builtin .append, args := #[s, x], argTypes := #[t, t] })
    (base : Nat) (e : TypeId) (i : TypeInfo) (z : Value) (bytes : Nat) (ht : P.underlying t = some (.slice e)) (hi : P.info? e = some i) (hz : i.zero = some z)
    (hsize : i.size = 1) (hby : i.bytes = bytes) (hzs : z.cells.size = 1)
    (v : Value) (n : Nat) (xs : List Value) (hs : a.eval s = v) (hown : w.ownsRow base e 1 v n xs)
    (k : IntKind) (A : Option Addr) (m c : Nat) (zs : List Int) (hx : a.eval x = .slice A m c) (hz : Slc k w A m c zs)
    (h63 : n + m ≤ maxLen) (hbytes : (n + m) * bytes ≤ 140737488355328) (hbase : base ≤ w.heap.size)
    (h : ∀ A' c' w', w'.ownsRow base e 1 (.slice A' (n + m) c') (n + m) (xs ++ zs.map (Value.int k)) → w.grownBy w' v.ownBlock → wpList P ops Q rest (a.put o.dst (.slice A' (n + m) c')) w') : wpList P ops Q (o :: rest) a w := by
  obtain ⟨h1, h2, h3, h4⟩ := hz
  rcases h4 with ⟨rfl, rfl⟩ | ⟨ad, rfl, hc⟩
  · obtain rfl : m = 0 := by omega
    obtain rfl : zs = [] := List.eq_nil_of_length_eq_zero h1
    obtain ⟨A', c', rfl, _, _⟩ := own_slice hown
    exact wpList_append_own_none hgd s x t ho base e i 1 ht hi _ n xs hs hown hx (h A' c' w (by simpa using hown) ⟨rfl, rfl, rfl, Nat.le_refl _, fun _ _ _ => rfl⟩)
  · refine wpList_append_own _ hgd s x t ho base e i z 1 bytes ht hi ‹_› hsize hby hzs (by decide) v n xs hs hown ad m c (zs.map (Value.int k)) hx (by simp [h1]) hc (ints_oneCell _ _) h63 hbytes hbase ?_
    intro v' w' hown' hg _
    obtain ⟨A', c', rfl, _, _⟩ := own_slice hown'
    exact h A' c' w' hown' hg
end Go.Proofs.Ytiokiecnglmbnaa

namespace Go.Proofs.Ytiokiecnglmbnaa
open Go Go.RowKit

theorem info_int : (Try.prog.info? 3).map (fun i => (i.zero, i.size, i.bytes)) = some (some (.int .i64 0), 1, 8) := by kernel_rfl
theorem info_byte : (Try.prog.info? 5).map (fun i => (i.zero, i.size, i.bytes)) = some (some (.int .u8 0), 1, 1) := by kernel_rfl

/-- A slice that the call made, of the integers zs. -/
def Mk (t : TypeId) (k : IntKind) (w : World) (zs : List Int) (e : Ending) (w' : World) : Prop :=
  ∃ A n c, e = .returned (.slice A n c) ∧ zs.length = n ∧ Lst t k w'.heap.size w' A n c zs ∧ w'.ownsRow w.heap.size t 1 (.slice A n c) n (zs.map (Value.int k)) ∧ Below w.heap.size w w'
theorem mk_own {t : TypeId} {k : IntKind} {w w1 : World} {v : Value} {m : Nat} {zs : List Int} (h : w1.ownsRow w.heap.size t 1 v m (zs.map (Value.int k))) (hb : Below w.heap.size w w1) : Mk t k w zs (.returned v) w1 := by
  have hl : zs.length = m := by have := h.1; simpa using this
  obtain ⟨A, c, rfl, h1, h2⟩ := own_slice h
  exact ⟨A, m, c, rfl, hl, Lst.of_own h, h, hb⟩
theorem mk_of {t : TypeId} {k : IntKind} {w w1 : World} {v : Value} {m : Nat} {zs : List Int} (h : w1.ownsRow w.heap.size t 1 v (0 + m) ([] ++ zs.map (Value.int k))) (hb : Below w.heap.size w w1) : Mk t k w zs (.returned v) w1 := by
  rw [Nat.zero_add, List.nil_append] at h
  exact mk_own h hb
theorem mk_none (t : TypeId) (k : IntKind) (w : World) (zs : List Int) (h : zs = []) : Mk t k w zs (.returned (.slice none 0 0)) w := by
  subst h
  exact mk_own (m := 0) ⟨rfl, .inl ⟨rfl, rfl⟩⟩ (Below.refl _ _)

set_option maxHeartbeats 400000 in
theorem ints_any (a : Option Addr) (n c : Nat) (zs : List Int) (k : Int) (h0 : 0 ≤ k) (hk : k ≤ 1000) (w : World) (hS : Slc .i64 w a n c zs) :
    Calls Try.prog 26 #[.slice a n c, .int .i64 k] w (Mk 3 .i64 w (zs.take k.toNat)) := by
  obtain ⟨k, rfl⟩ := Int.eq_ofNat_of_zero_le h0
  obtain ⟨i0, hi, hz0, hz1, hz2⟩ := info_parts info_int
  obtain ⟨hl, hnc, hcm, hx⟩ := hS
  have hlt : (zs.take k).length = min k n := by rw [List.length_take, hl]
  have HL := Lib.hid hlt
  unfold maxLen at hcm
  rcases hx with ⟨rfl, rfl⟩ | ⟨x, rfl, hc⟩
  · obtain rfl : n = 0 := by omega
    obtain rfl : zs = [] := List.eq_nil_of_length_eq_zero hl
    clear hlt
    go_enter Try.func26, Try.ntmps26
    go_wp2_with (at_builtin; refine wpList_append_own_none rfl _ _ 22 rfl w.heap.size 3 i0 1 Try.underlying22 hi (.slice none 0 0) 0 [] rfl ⟨rfl, .inl ⟨rfl, rfl⟩⟩ rfl ?_)
    go_ret
    exact mk_none _ _ _ _ (by simp)
  · have hcs : ∀ j u, ((zs.take k).map (Value.int .i64))[j]? = some u → w.cell? (x.add j) = some u := fun j u hu => hc j u (by
      rw [List.map_take] at hu
      rw [← hu, List.getElem?_take_of_lt]
      rcases Nat.lt_or_ge j k with h | h
      · exact h
      · rw [List.getElem?_take_eq_none h] at hu; cases hu)
    have HC := Lib.hid hcs
    clear hc hcs hlt
    by_cases hkn : n ≤ k
    all_goals
      go_enter Try.func26, Try.ntmps26
      go_wp2_with (at_builtin
                   refine wpList_append_own _ rfl _ _ 22 rfl w.heap.size 3 i0 _ 1 8 Try.underlying22 hi hz0 hz1 hz2 rfl (by decide) (.slice none 0 0) 0 [] rfl ⟨rfl, .inl ⟨rfl, rfl⟩⟩ x _ _ ((zs.take k).map (Value.int .i64)) rfl (by rw [List.length_map, HL.out]; omega) HC.out (ints_oneCell _ _) (by simp only [maxLen]; omega) (by omega) (Nat.le_refl _) ?_
                   intro v' w1 hown' hgrow _)
      go_ret
      exact mk_of hown' ((Below.refl _ w).grown hgrow (Nat.le_refl _) (fun k e => by cases e))

set_option maxHeartbeats 400000 in
theorem few_any (a : Option Addr) (n c : Nat) (zs : List Int) (k : Int) (h0 : 0 ≤ k) (hk : k ≤ 1000) (w : World) (hS : Slc .u8 w a n c zs) :
    Calls Try.prog 36 #[.slice a n c, .int .i64 k] w (Mk 5 .u8 w (zs.take k.toNat)) := by
  obtain ⟨k, rfl⟩ := Int.eq_ofNat_of_zero_le h0
  obtain ⟨i0, hi, hz0, hz1, hz2⟩ := info_parts info_byte
  obtain ⟨hl, hnc, hcm, hx⟩ := hS
  have hlt : (zs.take k).length = min k n := by rw [List.length_take, hl]
  have HL := Lib.hid hlt
  unfold maxLen at hcm
  rcases hx with ⟨rfl, rfl⟩ | ⟨x, rfl, hc⟩
  · obtain rfl : n = 0 := by omega
    obtain rfl : zs = [] := List.eq_nil_of_length_eq_zero hl
    clear hlt
    go_enter Try.func36, Try.ntmps36
    go_wp2_with (at_builtin; refine wpList_append_own_none rfl _ _ 60 rfl w.heap.size 5 i0 1 Try.underlying60 hi (.slice none 0 0) 0 [] rfl ⟨rfl, .inl ⟨rfl, rfl⟩⟩ rfl ?_)
    go_ret
    exact mk_none _ _ _ _ (by simp)
  · have hcs : ∀ j u, ((zs.take k).map (Value.int .u8))[j]? = some u → w.cell? (x.add j) = some u := fun j u hu => hc j u (by
      rw [List.map_take] at hu
      rw [← hu, List.getElem?_take_of_lt]
      rcases Nat.lt_or_ge j k with h | h
      · exact h
      · rw [List.getElem?_take_eq_none h] at hu; cases hu)
    have HC := Lib.hid hcs
    clear hc hcs hlt
    by_cases hkn : n ≤ k
    all_goals
      go_enter Try.func36, Try.ntmps36
      go_wp2_with (at_builtin
                   refine wpList_append_own _ rfl _ _ 60 rfl w.heap.size 5 i0 _ 1 1 Try.underlying60 hi hz0 hz1 hz2 rfl (by decide) (.slice none 0 0) 0 [] rfl ⟨rfl, .inl ⟨rfl, rfl⟩⟩ x _ _ ((zs.take k).map (Value.int .u8)) rfl (by rw [List.length_map, HL.out]; omega) HC.out (ints_oneCell _ _) (by simp only [maxLen]; omega) (by omega) (Nat.le_refl _) ?_
                   intro v' w1 hown' hgrow _)
      go_ret
      exact mk_of hown' ((Below.refl _ w).grown hgrow (Nat.le_refl _) (fun k e => by cases e))

end Go.Proofs.Ytiokiecnglmbnaa

namespace Go.Proofs.Ytiokiecnglmbnaa
open Go Go.RowKit

/-- The Out at block g has collected the bytes bs; it and its bytes lie from block 'base' on. -/
def OutAt (base : Nat) (w : World) (g : Nat) (bs : List Int) : Prop :=
  ∃ A m c, Boxed w g 74 (.slice A m c) ∧ base ≤ g ∧ bs.length = m ∧ w.ownsRow base 5 1 (.slice A m c) m (bs.map (Value.int .u8))

theorem OutAt.below {base g : Nat} {w w' : World} {bs : List Int} (h : OutAt base w g bs) (hb : Below w.heap.size w w') : OutAt base w' g bs := by
  obtain ⟨A, m, c, h1, h2, h3, h4⟩ := h
  exact ⟨A, m, c, (hb.block g h1.lt).trans h1, h2, h3, h4.1, by
    rcases h4.2 with h5 | ⟨g', cap, cur, hv, hg, hh, r⟩
    · exact .inl h5
    · exact .inr ⟨g', cap, cur, hv, hg, (hb.block g' (heap_lt hh)).trans hh, r⟩⟩
theorem OutAt.new (w : World) : OutAt w.heap.size (w.alloc (.cells #[.slice none 0 0] 74)) w.heap.size [] :=
  ⟨_, 0, _, Boxed.new w _ _, Nat.le_refl _, rfl, rfl, .inl ⟨rfl, rfl⟩⟩
theorem OutAt.size {base g : Nat} {w : World} {bs : List Int} (h : OutAt base w g bs) : base ≤ w.heap.size := by
  obtain ⟨A, m, c, h1, h2, h3, h4⟩ := h
  have := h1.lt
  omega

theorem more_or (n : Int) : bits .or .u8 (n % 256) 128 = 128 + n % 128 := by
  have h0 : 0 ≤ n % 256 := by omega
  have h1 : n % 256 < 256 := by omega
  rw [u8_or _ _ h0 h1 (by omega) (by omega)]
  obtain ⟨k, hk⟩ := Int.eq_ofNat_of_zero_le h0
  rw [hk]
  have hk2 : k < 256 := by omega
  have e : ((k : Int).toNat ||| (128 : Int).toNat) = 128 + k % 128 := by
    have : ∀ k : Fin 256, (k.val ||| 128) = 128 + k.val % 128 := by decide +kernel
    exact this ⟨k, hk2⟩
  rw [e]
  omega

/-- What is neither the Out's block nor a plain block of bytes lies as it lay. -/
def Kept (g : Nat) (w w' : World) : Prop := ∀ k o, w.heap[k]? = some o → k ≠ g → (∀ C, o ≠ .cells C 5 (0, 0)) → w'.heap[k]? = some o
theorem Kept.refl (g : Nat) (w : World) : Kept g w w := fun _ _ h _ _ => h
theorem Kept.trans {g : Nat} {a b c : World} (h : Kept g a b) (k : Kept g b c) : Kept g a c := fun i o hi hne ho => k i o (h i o hi hne ho) hne ho
theorem Kept.push {base g m : Nat} {W w1 : World} {v v' : Value} {xs : List Value} (hrow : W.ownsRow base 5 1 v m xs) (hgrow : W.grownBy w1 v.ownBlock) : Kept g W (w1.setCell ⟨g, 0, none⟩ v') := by
  intro k o hk hne ho
  rw [Below.heap_setCell _ _ _ _ hne, hgrow.block k (heap_lt hk) ?_]
  · exact hk
  · intro e
    rcases hrow.2 with ⟨rfl, _⟩ | ⟨g', cap, cur, rfl, _, hh, _⟩
    · cases e
    · have e2 : k = g' := by simpa [Value.ownBlock] using e
      subst e2
      rw [hh] at hk
      injection hk with hk
      exact ho _ hk.symm
theorem Kept.alloc (g : Nat) (w : World) (o : Obj) : Kept g w (w.alloc o) := fun k _ hk _ _ => (Below.heap_alloc w o k (heap_lt hk)).trans hk

/-- One byte more. -/
theorem out_push {base g : Nat} {W w1 : World} {bs : List Int} {v v' : Value} {m : Nat} {x : Int} {tmp : Obj} (hv : Boxed W g 74 v) (hg : base ≤ g) (hrow : W.ownsRow base 5 1 v m (bs.map (Value.int .u8))) (hm : bs.length = m)
    (hown : w1.ownsRow base 5 1 v' (m + 1) (bs.map (Value.int .u8) ++ [Value.int .u8 x])) (hgrow : (W.alloc tmp).grownBy w1 v.ownBlock) :
    OutAt base (w1.setCell ⟨g, 0, none⟩ v') g (bs ++ [x]) ∧ Below base W (w1.setCell ⟨g, 0, none⟩ v') := by
  obtain ⟨h1, h2, h3, _, h5⟩ := hv.appended (by decide) hrow (by have := hv.lt; omega) hg hown hgrow
  obtain ⟨A', c', rfl, _, _⟩ := own_slice hown
  exact ⟨⟨A', m + 1, c', h2, hg, by simp [hm], by rw [List.map_append]; exact h3⟩, h5⟩

set_option maxHeartbeats 1000000 in
theorem out_uint_k (base g : Nat) (n : Int) (bs : List Int) (w : World) (h : OutAt base w g bs) (hn : W64 n) (hl : bs.length ≤ 1000000) :
    Calls Try.prog 40 #[.pointer (some ⟨g, 0, none⟩), .int .u64 n] w fun e w' => e = .returned (.tuple #[]) ∧ OutAt base w' g (bs ++ encU n) ∧ Below base w w' ∧ Kept g w w' := by
  obtain ⟨i0, hi, hz0, hz1, hz2⟩ := info_parts info_byte
  obtain ⟨hn0, hn1⟩ := hn
  go_enter Try.func40, Try.ntmps40
  go_wp2
  go_loopw [1] (fun x wr => ∃ (f : Nat) (m : Int) (pre : List Int), f < 10 ∧ 0 ≤ m ∧ m < 2 * 128 ^ f ∧ m < 18446744073709551616 ∧ x = .int .u64 m ∧ pre.length + f = 9 ∧ Hid (pre ++ encF (f + 1) m = encU n) ∧ OutAt base wr g (bs ++ pre) ∧ Below base w wr ∧ Kept g w wr) (fun x _ => (intOf x).toNat)
  case atStart => exact ⟨9, n, [], by omega, hn0, by simpa using hn1, hn1, rfl, rfl, rfl, by simpa using h, Below.refl _ _, Kept.refl _ _⟩
  case round =>
    obtain ⟨f, m, pre, hf, h0, h1, h2, rfl, hp, hE, ⟨A, k, c, hv, hg, hk, hrow⟩, hB, hKp⟩ := hrel
    have hB0 : base ≤ wr.heap.size := by have := hv.lt; omega
    have hkl : k ≤ 1000010 := by simp at hk; omega
    have hc := hv.cell
    have hfz := hv.frozen
    have HK := Lib.hid hk
    clear hk h
    have ho := Lib.hid (more_or m)
    have hnr := hv.not_row (by decide) hrow
    by_cases hlt : m < 128
    · have hge : ¬ 128 ≤ m := by omega
      go_wp2_with (at_builtin
                   refine wpList_append_own _ rfl _ _ 60 rfl base 5 i0 _ 1 1 Try.underlying60 hi hz0 hz1 hz2 rfl (by decide) _ _ _ rfl (hrow.alloc _) ⟨wr.heap.size, 0, none⟩ 1 1 [_] rfl rfl (cell_one_new _ _ _) (by simp [Value.oneCell']) (by simp only [maxLen]; omega) (by omega) (by simp; omega) ?_
                   intro v' w1 hown' hgrow _
                   obtain ⟨g', cap', rfl⟩ := ownsRow_succ hown'
                   have hv1 := (hv.alloc _).kept hgrow hnr
                   have hc1 := hv1.cell
                   have hf1 := hv1.frozen)
      obtain ⟨ha, hb⟩ := out_push hv hg hrow HK.out hown' hgrow
      go_end0
      exact ⟨rfl, by rw [← hE.out, encF_last f m hlt, ← List.append_assoc]; exact ha, hB.trans hb, hKp.trans ((Kept.alloc _ _ _).trans (Kept.push (hrow.alloc _) hgrow))⟩
    · have hge : 128 ≤ m := by omega
      obtain ⟨q, rfl⟩ : ∃ q, f = q + 1 := ⟨f - 1, by
        rcases f with _ | f
        · simp at h1; omega
        · omega⟩
      have h1' : m / 128 < 2 * 128 ^ q := by rw [Int.pow_succ] at h1; omega
      clear h1
      go_wp2_with (at_builtin
                   refine wpList_append_own _ rfl _ _ 60 rfl base 5 i0 _ 1 1 Try.underlying60 hi hz0 hz1 hz2 rfl (by decide) _ _ _ rfl (hrow.alloc _) ⟨wr.heap.size, 0, none⟩ 1 1 [_] rfl rfl (cell_one_new _ _ _) (by simp [Value.oneCell']) (by simp only [maxLen]; omega) (by omega) (by simp; omega) ?_
                   intro v' w1 hown' hgrow _
                   obtain ⟨g', cap', rfl⟩ := ownsRow_succ hown'
                   have hv1 := (hv.alloc _).kept hgrow hnr
                   have hc1 := hv1.cell
                   have hf1 := hv1.frozen)
      obtain ⟨ha, hb⟩ := out_push hv hg hrow HK.out hown' hgrow
      go_roundw
      case rel => exact ⟨q, m / 128, pre ++ [128 + m % 128], by omega, by omega, h1', by omega, rfl, by simp; omega, by show _ = _; rw [← hE.out, encF_step _ _ hlt]; simp, by rw [← ho.out, ← List.append_assoc]; exact ha, hB.trans hb, hKp.trans ((Kept.alloc _ _ _).trans (Kept.push (hrow.alloc _) hgrow))⟩
      case measure => simp [intOf]; omega

theorem out_uint (base g : Nat) (n : Int) (bs : List Int) (w : World) (h : OutAt base w g bs) (hn : W64 n) (hl : bs.length ≤ 1000000) :
    Calls Try.prog 40 #[.pointer (some ⟨g, 0, none⟩), .int .u64 n] w fun e w' => e = .returned (.tuple #[]) ∧ OutAt base w' g (bs ++ encU n) ∧ Below base w w' :=
  (out_uint_k base g n bs w h hn hl).mono fun _ _ ⟨h1, h2, h3, _⟩ => ⟨h1, h2, h3⟩

theorem wrap_i64_id {n : Int} (h : I64 n) : wrap64 n = n := by
  obtain ⟨_, _⟩ := h
  simp only [wrap64]
  omega
theorem zig_pos {n : Int} (h : I64 n) (h0 : 0 ≤ n) : IntKind.u64.wrap (IntKind.u64.wrap n * 2) = zig n := by
  obtain ⟨_, _⟩ := h
  unfold zig
  rw [IntKind.wrap_u64, IntKind.wrap_u64, if_neg (by omega)]
  omega
theorem zig_neg {n : Int} (h : I64 n) (h0 : n < 0) : bits .xor .u64 IntKind.u64.max (IntKind.u64.wrap (IntKind.u64.wrap n * 2)) = zig n := by
  obtain ⟨_, _⟩ := h
  have e : IntKind.u64.wrap (IntKind.u64.wrap n * 2) = 2 * n + 18446744073709551616 := by
    rw [IntKind.wrap_u64, IntKind.wrap_u64]
    omega
  rw [e]
  obtain ⟨k, hk⟩ := Int.eq_ofNat_of_zero_le (show 0 ≤ 2 * n + 18446744073709551616 by omega)
  rw [hk]
  have hk2 : k < 18446744073709551616 := by omega
  have em : IntKind.u64.max = ((18446744073709551615 : Nat) : Int) := by decide
  rw [em, bits_xor_u64_nat _ _ (by decide) hk2]
  have ex : (18446744073709551615 : Nat) ^^^ k = 18446744073709551615 - k := by
    have e1 : (BitVec.allOnes 64 ^^^ BitVec.ofNat 64 k).toNat = (~~~ BitVec.ofNat 64 k).toNat := by rw [BitVec.allOnes_xor]
    rw [BitVec.toNat_xor, BitVec.toNat_not, BitVec.toNat_ofNat, BitVec.toNat_allOnes, Nat.mod_eq_of_lt (by omega)] at e1
    exact e1
  rw [ex]
  unfold zig
  rw [if_pos h0]
  omega

set_option maxHeartbeats 400000 in
theorem zigzag_any (n : Int) (h : I64 n) (w : World) :
    Calls Try.prog 66 #[.int .i64 n] w fun e w' => e = .returned (.int .u64 (zig n)) ∧ w = w' := by
  by_cases h0 : n < 0
  · have H := Lib.hid (zig_neg h h0)
    clear h
    go_enter Try.func66, Try.ntmps66
    go_wp2
    go_ret
    exact ⟨by rw [← H.out]; rfl, rfl⟩
  · have H := Lib.hid (zig_pos h (by omega))
    clear h
    go_enter Try.func66, Try.ntmps66
    go_wp2
    go_ret
    exact ⟨by rw [← H.out]; rfl, rfl⟩

set_option maxHeartbeats 400000 in
theorem out_int (base g : Nat) (n : Int) (bs : List Int) (w : World) (h : OutAt base w g bs) (hn : I64 n) (hl : bs.length ≤ 1000000) :
    Calls Try.prog 41 #[.pointer (some ⟨g, 0, none⟩), .int .i64 n] w fun e w' => e = .returned (.tuple #[]) ∧ OutAt base w' g (bs ++ encI n) ∧ Below base w w' := by
  go_enter Try.func41, Try.ntmps41
  go_wp2_with fail
  refine (zigzag_any n hn _).mono ?_
  rintro e w1 ⟨rfl, rfl⟩
  go_wp2_with fail
  refine (out_uint base g (zig n) bs _ h (zig_w hn) hl).mono ?_
  rintro e w1 ⟨rfl, h1, hb1⟩
  go_wp2_with fail
  go_end0
  exact ⟨rfl, h1, hb1⟩

theorem take_succ_getD (l : List Int) (k : Nat) (h : k < l.length) : l.take (k + 1) = l.take k ++ [l[k]?.getD 0] := by
  rw [List.take_add_one, List.getElem?_eq_getElem h]; rfl
theorem encI_le (zs : List Int) : (zs.flatMap encI).length ≤ 10 * zs.length := by
  induction zs with
  | nil => simp
  | cons x xs ih =>
    have := encU_len (zig x)
    rw [List.flatMap_cons, List.length_append, List.length_cons]
    unfold encI at *
    omega
end Go.Proofs.Ytiokiecnglmbnaa

namespace Go.Proofs.Ytiokiecnglmbnaa
open Go Go.RowKit

set_option maxHeartbeats 1000000 in
theorem clone_any (B : Nat) (A : Option Addr) (n c : Nat) (zs : List Int) (w : World) (hz : Lst 5 .u8 B w A n c zs) (hn : n ≤ 1000000) :
    Calls Try.prog 67 #[.slice A n c] w (Mk 5 .u8 w zs) := by
  obtain ⟨i0, hi, hz0, hz1, hz2⟩ := info_parts info_byte
  rcases A with _ | ad
  · have hc : c = 0 := by rcases hz.2.2.2 with ⟨_, h⟩ | ⟨b, off, C, h, _⟩; exact h; cases h
    have hle := hz.le
    obtain rfl : n = 0 := by omega
    have H := Lib.hid (List.eq_nil_of_length_eq_zero hz.len)
    clear hz
    subst hc
    have he := run_eql_nil_slice (P := Try.prog) w 60 5 none 0 0 0 0 Try.underlying60
    go_enter Try.func67, Try.ntmps67
    go_wp2
    go_ret
    exact mk_none _ _ _ _ H.out
  · have hs := hz.slc
    clear hz
    have he := Lib.run_eql_slice_nil (P := Try.prog) w 60 5 (some ad) n c 0 0 Try.underlying60
    go_enter Try.func67, Try.ntmps67
    go_wp2_with (at_builtin
                 refine wpList_append_slc rfl _ _ 60 rfl w.heap.size 5 i0 _ 1 Try.underlying60 hi hz0 hz1 hz2 rfl _ _ _ rfl (World.ownsRow_made w #[] 0 (Nat.le_refl _) (by simp [maxLen]) (by simp)) .u8 _ _ _ _ rfl (hs.below ((Below.refl _ _).alloc (Nat.le_refl _) _)) (by simp only [maxLen]; omega) (by omega) (by simp) ?_
                 intro A' c' w2 hown' hgrow)
    go_ret
    simp only [Nat.zero_add, List.nil_append] at hown'
    show Mk 5 .u8 w zs (.returned (.slice A' n c')) w2
    exact mk_own hown' (((Below.refl _ _).alloc (Nat.le_refl _) _).grown hgrow (by simp) (fun k e => by
      have e2 : some w.heap.size = some k := e
      injection e2 with e2
      omega))

set_option maxHeartbeats 400000 in
theorem out_done (base g : Nat) (bs : List Int) (w : World) (h : OutAt base w g bs) (hl : bs.length ≤ 1000000) :
    Calls Try.prog 42 #[.pointer (some ⟨g, 0, none⟩)] w (Mk 5 .u8 w bs) := by
  obtain ⟨A, m, c, hv, hg, hk, hrow⟩ := h
  have hc := hv.cell
  have hm : m ≤ 1000000 := by omega
  have hL := Lst.of_own hrow
  clear hk
  go_enter Try.func42, Try.ntmps42
  go_wp2_with fail
  refine (clone_any _ _ _ _ bs _ hL hm).mono ?_
  rintro e w1 ⟨A', n', c', rfl, h1, h2, h3, h4⟩
  clear hL hc
  have H1 := Lib.hid h1
  clear h1
  go_wp2_with fail
  go_ret
  exact ⟨A', n', c', rfl, H1.out, h2, h3, h4⟩

/-- The In at block g: its unread bytes, or the error that it has recorded. -/
def InAt (B : Nat) (w : World) (g : Nat) : St → Prop
  | .ok bs => ∃ A n c, w.heap[g]? = some (.cells #[.slice A n c, .int .i64 0] 144 (0, 0)) ∧ Lst 5 .u8 B w A n c bs ∧ (∀ x ∈ bs, B8 x) ∧ n ≤ 1000000
  | .bad e => ∃ A n c, w.heap[g]? = some (.cells #[.slice A n c, .int .i64 e] 144 (0, 0)) ∧ (e == 0) = false ∧ I64 e

/-- No other block than g has turned. -/
abbrev But (g : Nat) (w w' : World) : Prop := w.grownBy w' (some g)
theorem heap_ne {w : World} {g b : Nat} {cs C : Array Value} {t t' : TypeId} {f f' : Nat × Nat} (h : w.heap[g]? = some (.cells cs t f)) (h' : w.heap[b]? = some (.cells C t' f')) (hne : t ≠ t') : g ≠ b := by
  rintro rfl
  rw [h] at h'
  injection h' with h'
  injection h' with _ ht
  exact hne ht

theorem InAt.lt {B g : Nat} {w : World} {s : St} (h : InAt B w g s) : g < w.heap.size := by
  cases s with
  | ok bs => obtain ⟨A, n, c, hg, _⟩ := h; exact heap_lt hg
  | bad e => obtain ⟨A, n, c, hg, _⟩ := h; exact heap_lt hg
theorem InAt.keep {B g : Nat} {w w' : World} {s : St} (h : InAt B w g s) (hg : w'.heap[g]? = w.heap[g]?) (hk : ∀ b C, b < B → w.heap[b]? = some (.cells C 5 (0, 0)) → w'.heap[b]? = w.heap[b]?) : InAt B w' g s := by
  cases s with
  | ok bs => obtain ⟨A, n, c, h1, h2, h3, h4⟩ := h; exact ⟨A, n, c, hg.trans h1, h2.keep hk, h3, h4⟩
  | bad e => obtain ⟨A, n, c, h1, h2, h3⟩ := h; exact ⟨A, n, c, hg.trans h1, h2, h3⟩
theorem InAt.below {B g : Nat} {w w' : World} {s : St} (h : InAt B w g s) (hb : Below w.heap.size w w') : InAt B w' g s :=
  h.keep (hb.block g h.lt) fun b _ _ hC => hb.block b (heap_lt hC)
/-- Another block has turned that holds no bytes, or lies from B on. -/
theorem InAt.grown {B g : Nat} {w w' : World} {s : St} {row : Option Nat} (h : InAt B w g s) (hg : w.grownBy w' row) (hne : some g ≠ row) (hr : ∀ b, row = some b → B ≤ b ∨ ∀ C, w.heap[b]? ≠ some (.cells C 5 (0, 0))) : InAt B w' g s :=
  h.keep (hg.block g h.lt hne) fun b C hb hC => hg.block b (heap_lt hC) fun e => by
    rcases hr b e.symm with h1 | h1
    · omega
    · exact h1 C hC
theorem InAt.b8 {B g : Nat} {w : World} {bs : List Int} (h : InAt B w g (.ok bs)) : ∀ x ∈ bs, B8 x := by
  obtain ⟨_, _, _, _, _, h8, _⟩ := h
  exact h8
theorem InAt.short {B g : Nat} {w : World} {bs : List Int} (h : InAt B w g (.ok bs)) : bs.length ≤ 1000000 := by
  obtain ⟨_, n, _, _, hL, _, hn⟩ := h
  rw [hL.len]
  exact hn

set_option maxHeartbeats 400000 in
theorem newin_any (A : Option Addr) (n c : Nat) (zs : List Int) (w : World) (B : Nat) (hz : Lst 5 .u8 B w A n c zs) (hn : n ≤ 1000000) (h8 : ∀ x ∈ zs, B8 x) :
    Calls Try.prog 76 #[.slice A n c] w fun e w' => ∃ g, e = .returned (.pointer (some ⟨g, 0, none⟩)) ∧ w.heap.size ≤ g ∧ InAt w'.heap.size w' g (.ok zs) ∧ Below w.heap.size w w' := by
  go_enter Try.func76, Try.ntmps76
  go_wp2_with fail
  refine (clone_any _ _ _ _ zs _ hz hn).mono ?_
  rintro e w1 ⟨A', n', c', rfl, h1, h2, h3, h4⟩
  have hn' : n' ≤ 1000000 := by rw [← h1, hz.len]; exact hn
  clear h1 hz
  have H8 := Lib.hid h8
  clear h8
  go_wp2_with fail
  go_ret
  have hs := h4.size
  refine ⟨w1.heap.size, rfl, hs, ⟨A', n', c', ?_, (h2.below ((Below.refl _ _).alloc (Nat.le_refl _) _)).more (by simp), H8.out, hn'⟩, h4.alloc hs _⟩
  exact World.alloc_heap_new w1 _
end Go.Proofs.Ytiokiecnglmbnaa

namespace Go.Proofs.Ytiokiecnglmbnaa
open Go Go.RowKit

/-! ### A block of two cells -/
section
variable {w : World} {g : Nat} {a b : Value} {t : TypeId}
theorem two_c0 (h : w.heap[g]? = some (.cells #[a, b] t (0, 0))) : w.cell? ⟨g, 0, none⟩ = some a := cell_of_row w g 0 _ t (0, 0) h
theorem two_c1 (h : w.heap[g]? = some (.cells #[a, b] t (0, 0))) : w.cell? ⟨g, 1, none⟩ = some b := cell_of_row w g 1 _ t (0, 0) h
theorem two_f (h : w.heap[g]? = some (.cells #[a, b] t (0, 0))) (i : Nat) : w.frozen? ⟨g, i, none⟩ = false := by simp [World.frozen?, h]
theorem two_s0 (h : w.heap[g]? = some (.cells #[a, b] t (0, 0))) (u : Value) : (w.setCell ⟨g, 0, none⟩ u).heap[g]? = some (.cells #[u, b] t (0, 0)) := by
  simp [World.setCell, Array.getElem?_modify, h]
theorem two_s1 (h : w.heap[g]? = some (.cells #[a, b] t (0, 0))) (u : Value) : (w.setCell ⟨g, 1, none⟩ u).heap[g]? = some (.cells #[a, u] t (0, 0)) := by
  simp [World.setCell, Array.getElem?_modify, h]
end
theorem but_set (w : World) (g i : Nat) (u : Value) : But g w (w.setCell ⟨g, i, none⟩ u) :=
  ⟨rfl, rfl, rfl, by simp [World.setCell], fun k _ hne => Below.heap_setCell _ _ _ _ (by rintro rfl; exact hne rfl)⟩
theorem but_refl (w : World) (g : Nat) : But g w w := ⟨rfl, rfl, rfl, Nat.le_refl _, fun _ _ _ => rfl⟩
theorem but_trans {a b c : World} {g : Nat} (h : But g a b) (k : But g b c) : But g a c :=
  ⟨k.os.trans h.os, k.tape.trans h.tape, k.output.trans h.output, Nat.le_trans h.size k.size, fun i hi hne => (k.block i (Nat.lt_of_lt_of_le hi h.size) hne).trans (h.block i hi hne)⟩
theorem but_below {a b c : World} {g : Nat} (h : But g a b) (k : Below b.heap.size b c) : But g a c :=
  ⟨k.os.trans h.os, k.tape.trans h.tape, k.output.trans h.output, Nat.le_trans h.size k.size, fun i hi hne => (k.block i (Nat.lt_of_lt_of_le hi h.size)).trans (h.block i hi hne)⟩
theorem Lst.set {t : TypeId} {k : IntKind} {B n c g : Nat} {w : World} {A : Option Addr} {zs : List Int} {cs : Array Value} {tg : TypeId} {f : Nat × Nat} (h : Lst t k B w A n c zs) (hg : w.heap[g]? = some (.cells cs tg f)) (hne : tg ≠ t) (i : Nat) (u : Value) : Lst t k B (w.setCell ⟨g, i, none⟩ u) A n c zs :=
  h.keep fun _ _ _ hC => Below.heap_setCell _ _ _ _ (fun e => heap_ne hg hC hne e.symm)

/-- What becomes of a reader that Fail is called on. -/
def St.fail (e : Int) : St → St
  | .ok _ => .bad e
  | .bad e0 => .bad e0

set_option maxHeartbeats 400000 in
theorem in_fail {B : Nat} (g : Nat) (s : St) (e : Int) (w : World) (h : InAt B w g s) (he : (e == 0) = false) (hi : I64 e) :
    Calls Try.prog 81 #[.pointer (some ⟨g, 0, none⟩), .int .i64 e] w fun r w' => r = .returned (.tuple #[]) ∧ InAt B w' g (s.fail e) ∧ But g w w' := by
  have HI := Lib.hid hi
  cases s with
  | ok bs =>
    obtain ⟨A, n, c, hg, hL, h8, hn⟩ := h
    have hc := two_c1 hg
    have hf := two_f hg 1
    have HE := Lib.hid he
    have H8 := Lib.hid h8
    clear he h8 hi
    go_enter Try.func81, Try.ntmps81
    go_wp2
    go_end0
    exact ⟨rfl, ⟨A, n, c, two_s1 hg _, HE.out, HI.out⟩, but_set _ _ _ _⟩
  | bad e0 =>
    obtain ⟨A, n, c, hg, h0, hi0⟩ := h
    have hc := two_c1 hg
    have HI0 := Lib.hid hi0
    clear he hi hi0
    go_enter Try.func81, Try.ntmps81
    go_wp2
    go_end0
    exact ⟨rfl, ⟨A, n, c, hg, h0, HI0.out⟩, but_refl _ _⟩
set_option maxHeartbeats 400000 in
/-- Fail(OK) does nothing. -/
theorem in_fail0 {B : Nat} (g : Nat) (bs : List Int) (w : World) (h : InAt B w g (.ok bs)) :
    Calls Try.prog 81 #[.pointer (some ⟨g, 0, none⟩), .int .i64 0] w fun r w' => r = .returned (.tuple #[]) ∧ InAt B w' g (.ok bs) ∧ But g w w' := by
  obtain ⟨A, n, c, hg, hL, h8, hn⟩ := h
  have hc := two_c1 hg
  have hf := two_f hg 1
  have H8 := Lib.hid h8
  clear h8
  go_enter Try.func81, Try.ntmps81
  go_wp2
  go_end0
  refine ⟨rfl, ⟨A, n, c, two_s1 hg _, (hL.set hg (by decide) _ _), H8.out, hn⟩, but_set _ _ _ _⟩

set_option maxHeartbeats 400000 in
theorem in_err {B : Nat} (g : Nat) (s : St) (w : World) (h : InAt B w g s) :
    Calls Try.prog 78 #[.pointer (some ⟨g, 0, none⟩)] w fun r w' => r = .returned (.int .i64 s.err) ∧ w = w' := by
  cases s with
  | ok bs =>
    obtain ⟨A, n, c, hg, hL, h8, hn⟩ := h
    have hc := two_c1 hg
    clear h8
    go_enter Try.func78, Try.ntmps78
    go_wp2
    go_ret
    exact ⟨rfl, rfl⟩
  | bad e0 =>
    obtain ⟨A, n, c, hg, h0, hi0⟩ := h
    have hc := two_c1 hg
    clear hi0
    go_enter Try.func78, Try.ntmps78
    go_wp2
    go_ret
    exact ⟨rfl, rfl⟩

theorem endE_ok {bs : List Int} : (St.ok bs).endE = if 0 < bs.length then 8 else 0 := by cases bs <;> simp [St.endE]
set_option maxHeartbeats 400000 in
theorem in_end {B : Nat} (g : Nat) (s : St) (w : World) (h : InAt B w g s) :
    Calls Try.prog 82 #[.pointer (some ⟨g, 0, none⟩)] w fun r w' => r = .returned (.int .i64 s.endE) ∧ w = w' := by
  cases s with
  | ok bs =>
    obtain ⟨A, n, c, hg, hL, h8, hn⟩ := h
    have hc0 := two_c0 hg
    have hc1 := two_c1 hg
    have HE := Lib.hid (endE_ok (bs := bs))
    have HL := Lib.hid hL.len
    clear h8 hL
    by_cases hn0 : 0 < n
    · go_enter Try.func82, Try.ntmps82
      go_wp2
      go_ret
      exact ⟨by rw [HE.out, if_pos (by rw [HL.out]; exact hn0)]; rfl, rfl⟩
    · go_enter Try.func82, Try.ntmps82
      go_wp2
      go_ret
      exact ⟨by rw [HE.out, if_neg (by rw [HL.out]; exact hn0)]; rfl, rfl⟩
  | bad e0 =>
    obtain ⟨A, n, c, hg, h0, hi0⟩ := h
    have hc := two_c1 hg
    have hc0 := two_c0 hg
    clear hi0
    go_enter Try.func82, Try.ntmps82
    go_wp2
    go_ret
    exact ⟨rfl, rfl⟩

/-- The slice behind the first element. -/
theorem Lst.tail {t : TypeId} {k : IntKind} {B n c b off : Nat} {w : World} {x : Int} {zs : List Int} (h : Lst t k B w (some ⟨b, off, none⟩) (n + 1) (c + 1) (x :: zs)) (off' : Nat) (ho : off' = off + 1 ∨ n = 0) : Lst t k B w (some ⟨b, off', none⟩) n c zs := by
  obtain ⟨h1, h2, h3, h4⟩ := h
  refine ⟨by simpa using h1, by omega, by omega, ?_⟩
  rcases h4 with ⟨h4, _⟩ | ⟨b', off0, C, e, hb, hc, hj⟩
  · cases h4
  · injection e with e
    injection e with e1 e2
    subst e1 e2
    refine .inr ⟨b, off', C, rfl, hb, hc, fun j hjn => ?_⟩
    rcases ho with rfl | rfl
    · have := hj (j + 1) (by omega)
      rw [List.getElem?_cons_succ] at this
      rw [← this]
      congr 1
      omega
    · omega
theorem Lst.some_ {t : TypeId} {k : IntKind} {B n c : Nat} {w : World} {A : Option Addr} {x : Int} {zs : List Int} (h : Lst t k B w A n c (x :: zs)) :
    ∃ b off m d, A = some ⟨b, off, none⟩ ∧ n = m + 1 ∧ c = d + 1 ∧ m ≤ d ∧ w.cell? ⟨b, off, none⟩ = some (.int k x) := by
  obtain ⟨h1, h2, h3, h4⟩ := h
  have hn : n = zs.length + 1 := by simpa using h1.symm
  obtain ⟨d, rfl⟩ : ∃ d, c = d + 1 := ⟨c - 1, by omega⟩
  rcases h4 with ⟨_, h4⟩ | ⟨b, off, C, e, hb, hc, hj⟩
  · omega
  · exact ⟨b, off, zs.length, d, e, hn, rfl, by omega, by rw [cell_of_row w b off C t (0, 0) hc]; exact hj 0 (by omega)⟩

set_option maxHeartbeats 400000 in
theorem in_octet {B : Nat} (g : Nat) (s : St) (w : World) (h : InAt B w g s) :
    Calls Try.prog 101 #[.pointer (some ⟨g, 0, none⟩)] w fun r w' => r = .returned (.int .u8 (rdO s).1) ∧ InAt B w' g (rdO s).2 ∧ But g w w' := by
  have h' := h
  cases s with
  | bad e0 =>
    obtain ⟨A, n, c, hg, h0, hi0⟩ := h
    have hc := two_c1 hg
    have hc0 := two_c0 hg
    have hF := in_fail g (.bad e0) 7 w h' (by decide) (by unfold I64; omega)
    have HF := Lib.hid hF
    clear hi0 hF
    have hne : (e0 != 0) = true := by rw [bne, h0]; rfl
    by_cases hn : n = 0
    · subst hn
      go_enter Try.func101, Try.ntmps101
      go_wp2_with fail
      refine HF.out.mono ?_
      rintro e w1 ⟨rfl, h1, hb⟩
      obtain ⟨A1, n1, c1, hg1, _, hi1⟩ := h1
      have hcc := two_c1 hg1
      have HI := Lib.hid hi1
      clear hc hc0 hi1
      go_wp2_with fail
      go_ret
      exact ⟨rfl, ⟨A1, n1, c1, hg1, h0, HI.out⟩, hb⟩
    · have hn2 : ((n : Int) == 0) = false := by simp; omega
      go_enter Try.func101, Try.ntmps101
      go_wp2_with fail
      go_ret
      exact ⟨rfl, h', but_refl _ _⟩
  | ok bs =>
    obtain ⟨A, n, c, hg, hL, h8, hn⟩ := h
    have hc := two_c1 hg
    have hc0 := two_c0 hg
    cases bs with
    | nil =>
      have hF := in_fail g (.ok []) 7 w h' (by decide) (by unfold I64; omega)
      have HF := Lib.hid hF
      obtain rfl : n = 0 := hL.len.symm
      clear hF h8 hL
      go_enter Try.func101, Try.ntmps101
      go_wp2_with fail
      refine HF.out.mono ?_
      rintro e w1 ⟨rfl, h1, hb⟩
      obtain ⟨A1, n1, c1, hg1, _, hi1⟩ := h1
      have hcc := two_c1 hg1
      have HI := Lib.hid hi1
      clear hc hc0 hi1
      go_wp2_with fail
      go_ret
      exact ⟨rfl, ⟨A1, n1, c1, hg1, by decide, HI.out⟩, hb⟩
    | cons x xs =>
      obtain ⟨b, off, m, d, rfl, rfl, rfl, hmd, hcx⟩ := hL.some_
      have hf := two_f hg 0
      have hn2 : (((m + 1 : Nat) : Int) == 0) = false := by simp; omega
      have H8 := Lib.hid h8
      clear h8
      by_cases hd : d = 0
      · subst hd
        obtain rfl : m = 0 := by omega
        go_enter Try.func101, Try.ntmps101
        go_wp2_with fail
        go_ret
        refine ⟨rfl, ⟨_, 0, 0, two_s0 hg _, ((hL.tail _ ?_).set hg (by decide) _ _), fun y hy => H8.out y (by simp [hy]), by omega⟩, but_set _ _ _ _⟩
        omega
      · go_enter Try.func101, Try.ntmps101
        go_wp2_with fail
        go_ret
        refine ⟨rfl, ⟨_, m, d, two_s0 hg _, ((hL.tail _ ?_).set hg (by decide) _ _), fun y hy => H8.out y (by simp [hy]), by omega⟩, but_set _ _ _ _⟩
        omega
end Go.Proofs.Ytiokiecnglmbnaa

namespace Go.Proofs.Ytiokiecnglmbnaa
open Go

/-- The state behind n numbers, and the numbers. -/
def rdZ : Nat → St → List Int × St
  | 0, s => ([], s)
  | n + 1, s => ((rdI s).1 :: (rdZ n (rdI s).2).1, (rdZ n (rdI s).2).2)
def gZ (l : List Int) (i : Nat) : Int := l[i]?.getD 0
def evZ (l : List Int) : NM.Ev := ⟨gZ l 0, gZ l 1, gZ l 2, ⟨gZ l 3, gZ l 4, gZ l 5, gZ l 6, gZ l 7⟩⟩
def anZ (l : List Int) : TP.An := (⟨gZ l 0, gZ l 1, gZ l 2, gZ l 3, gZ l 4⟩, gZ l 5)
def rdE (s : St) : NM.Ev × St := (evZ (rdZ 8 s).1, (rdZ 8 s).2)
def rdA (s : St) : TP.An × St := (anZ (rdZ 6 s).1, (rdZ 6 s).2)
/-- The length of a list, and the state behind it. -/
def rdC (most : Int) (s : St) : Int × St := ((rdU s).1, if most < (rdU s).1 then (rdU s).2.fail 2 else (rdU s).2)
def rdEs : Nat → List NM.Ev → St → List NM.Ev × St
  | 0, acc, s => (acc, s)
  | _ + 1, acc, .bad e => (acc, .bad e)
  | n + 1, acc, .ok r => rdEs n (acc ++ [(rdE (.ok r)).1]) (rdE (.ok r)).2
/-- What the program holds against an answer that follows others. -/
def chkO (acc : List TP.An) (a : TP.An) (s : St) : St := match acc.getLast? with
  | some b => if TP.ltQ b.1 a.1 then s else s.fail 5
  | none => s
def chkA (acc : List TP.An) (a : TP.An) (s : St) : St := if a.2 ≤ 0 then (chkO acc a s).fail 6 else chkO acc a s
def rdAs : Nat → List TP.An → St → List TP.An × St
  | 0, acc, s => (acc, s)
  | _ + 1, acc, .bad e => (acc, .bad e)
  | n + 1, acc, .ok r => rdAs n (acc ++ [(rdA (.ok r)).1]) (chkA acc (rdA (.ok r)).1 (rdA (.ok r)).2)
/-- The events, the answers, the state at the end. -/
def decT (bs : List Int) : (List NM.Ev × List TP.An) × St :=
  (((rdEs (rdC 5000 (.ok bs)).1.toNat [] (rdC 5000 (.ok bs)).2).1, (rdAs (rdC 10000 (rdEs (rdC 5000 (.ok bs)).1.toNat [] (rdC 5000 (.ok bs)).2).2).1.toNat [] (rdC 10000 (rdEs (rdC 5000 (.ok bs)).1.toNat [] (rdC 5000 (.ok bs)).2).2).2).1),
    (rdAs (rdC 10000 (rdEs (rdC 5000 (.ok bs)).1.toNat [] (rdC 5000 (.ok bs)).2).2).1.toNat [] (rdC 10000 (rdEs (rdC 5000 (.ok bs)).1.toNat [] (rdC 5000 (.ok bs)).2).2).2).2)
theorem rdC_bad {most : Int} (hm : 0 ≤ most) (e : Int) : rdC most (.bad e) = (0, .bad e) := by
  have : ¬ most < 0 := by omega
  simp [rdC, rdU, this]
theorem rdEs_bad (n : Nat) (acc : List NM.Ev) (e : Int) : rdEs n acc (.bad e) = (acc, .bad e) := by cases n <;> rfl
theorem rdAs_bad (n : Nat) (acc : List TP.An) (e : Int) : rdAs n acc (.bad e) = (acc, .bad e) := by cases n <;> rfl
theorem fail_bad (c e : Int) : St.fail c (.bad e) = .bad e := rfl
theorem rdC_ok {most : Int} {bs : List Int} {n : Int} {s : St} (h : rdC most (.ok bs) = (n, s)) (hs : ∀ e, s ≠ .bad e) : ¬ most < n ∧ ∃ r, s = .ok r := by
  unfold rdC at h
  injection h with h1 h2
  rw [h1] at h2
  split at h2
  · rename_i hlt
    exfalso
    cases hr : (rdU (.ok bs)).2 with
    | ok r => rw [hr] at h2; exact hs _ h2.symm
    | bad e => rw [hr] at h2; exact hs _ h2.symm
  · rename_i hlt
    refine ⟨hlt, ?_⟩
    cases s with
    | ok r => exact ⟨r, rfl⟩
    | bad e => exact absurd rfl (hs e)
end Go.Proofs.Ytiokiecnglmbnaa

namespace Go.Proofs.Ytiokiecnglmbnaa
open Go Go.RowKit Go.Proofs
attribute [local go_sem] Oper.semAt_some

abbrev cV (c h t : Int) : Value := .agg #[.int .i64 c, .int .i64 h, .int .i64 t]
abbrev msV (m : NM.Ms) : Value := .agg #[.int .i64 m.c, .int .i64 m.h, .int .i64 m.t, .int .i64 m.i, .int .i64 m.p]
abbrev evV (e : NM.Ev) : Value := .agg #[.int .i64 e.k, .int .i64 e.n, .int .i64 e.a, .int .i64 e.m.c, .int .i64 e.m.h, .int .i64 e.m.t, .int .i64 e.m.i, .int .i64 e.m.p]
abbrev quV (q : NM.Qu) : Value := .agg #[.int .i64 q.c, .int .i64 q.h, .int .i64 q.t, .int .i64 q.k, .int .i64 q.i]
theorem new_at {V : World} {o : Obj} {g : Nat} (hg : g = V.heap.size) : (V.alloc o).heap[g]? = some o := by
  subst hg
  exact World.alloc_heap_new V o
theorem row5 {V : World} {g : Nat} {t : TypeId} {x0 x1 x2 x3 x4 : Value} (h : V.heap[g]? = some (.cells #[x0, x1, x2, x3, x4] t (0, 0))) : V.cell? ⟨g, 0, none⟩ = some x0 ∧ V.cell? ⟨g, 1, none⟩ = some x1 ∧ V.cell? ⟨g, 2, none⟩ = some x2 ∧ V.cell? ⟨g, 3, none⟩ = some x3 ∧ V.cell? ⟨g, 4, none⟩ = some x4 :=
  ⟨cell_of_row _ _ 0 _ _ (0, 0) h, cell_of_row _ _ 1 _ _ (0, 0) h, cell_of_row _ _ 2 _ _ (0, 0) h, cell_of_row _ _ 3 _ _ (0, 0) h, cell_of_row _ _ 4 _ _ (0, 0) h⟩
/-- Two boxes. -/
theorem two_boxes (w : World) (A B : Obj) : ∃ U, (w.alloc A).alloc B = U ∧ Below w.heap.size w U ∧ U.heap[w.heap.size]? = some A ∧ U.heap[w.heap.size + 1]? = some B ∧ w.heap.size + 1 < U.heap.size := by
  refine ⟨_, rfl, ((Below.refl _ _).alloc (Nat.le_refl _) _).alloc (by simp) _, ?_, new_at (by simp), by simp⟩
  rw [Below.heap_alloc _ _ _ (by simp)]
  exact new_at rfl
theorem one_box (w : World) (o : Obj) : Below w.heap.size w (w.alloc o) := (Below.refl _ _).alloc (Nat.le_refl _) _
theorem drewN_below (w : World) (q : Nat) : Below w.heap.size w (w.drewN q) := ⟨rfl, rfl, rfl, Nat.le_refl _, fun _ _ => rfl⟩
end Go.Proofs.Ytiokiecnglmbnaa

namespace Go.Proofs.Ytiokiecnglmbnaa
open Go Go.RowKit Go.Proofs
attribute [local go_sem] Oper.semAt_some

set_option maxRecDepth 100000 in
theorem eq_cause (d : Nat) (c h t c' h' t' : Int) (W : World) : (Op.equalIn (d + 2) 28 (.agg #[.int .i64 c, .int .i64 h, .int .i64 t]) (.agg #[.int .i64 c', .int .i64 h', .int .i64 t'])).run Try.prog W = .ok (c == c' && (h == h' && t == t')) W := by
  have u3 := Try.underlying3
  have a3 := Try.isAgg3
  have z3 := Try.sizeOf3
  have ht : Try.prog.underlying 28 = some (.struct (Try.prog.fieldsOf 28)) := by kernel_rfl
  have hp : Try.prog.stoodInHeld 28 = false := by kernel_rfl
  have hf : (Try.prog.fieldsOf 28).toList = [⟨"Node", 3, 0, false, "", "", 0⟩, ⟨"Handler", 3, 1, false, "", "", 8⟩, ⟨"Count", 3, 2, false, "", "", 16⟩] := by kernel_rfl
  rw [run_equalIn_agg _ (d + 1) _ _ _ ht hp, hf]
  clear hf ht hp
  cases e1 : c == c' <;> cases e2 : h == h' <;> cases e3 : t == t' <;> simp [Op.eqFields, go_sem, u3, a3, z3, e1, e2, e3]
set_option maxRecDepth 100000 in
theorem eq_msg (d : Nat) (c h t i p c' h' t' i' p' : Int) (W : World) : (Op.equalIn (d + 3) 45 (.agg #[.int .i64 c, .int .i64 h, .int .i64 t, .int .i64 i, .int .i64 p]) (.agg #[.int .i64 c', .int .i64 h', .int .i64 t', .int .i64 i', .int .i64 p'])).run Try.prog W = .ok ((c == c' && (h == h' && t == t')) && (i == i' && p == p')) W := by
  have u3 := Try.underlying3
  have a3 := Try.isAgg3
  have z3 := Try.sizeOf3
  have a23 := Try.isAgg28
  have z23 := Try.sizeOf28
  have ht : Try.prog.underlying 45 = some (.struct (Try.prog.fieldsOf 45)) := by kernel_rfl
  have hp : Try.prog.stoodInHeld 45 = false := by kernel_rfl
  have hf : (Try.prog.fieldsOf 45).toList = [⟨"Cause", 28, 0, false, "", "", 0⟩, ⟨"Index", 3, 3, false, "", "", 24⟩, ⟨"Copy", 3, 4, false, "", "", 32⟩] := by kernel_rfl
  have hq := eq_cause d c h t c' h' t'
  rw [run_equalIn_agg _ (d + 2) _ _ _ ht hp, hf]
  clear hf ht hp
  generalize (c == c' && (h == h' && t == t')) = b at *
  cases b <;> cases e2 : i == i' <;> cases e3 : p == p' <;> simp [Op.eqFields, go_sem, u3, a3, z3, a23, z23, hq, e2, e3]
theorem beq_dec (a b : Int) : (a == b) = decide (a = b) := rfl
theorem eqM_any (x y : NM.Ms) (W : World) : (binOp .eql 45 (msV x) (msV y)).run Try.prog W = .ok (.bool (decide (x = y))) W := by
  obtain ⟨c, h, t, i, p⟩ := x
  obtain ⟨c', h', t', i', p'⟩ := y
  rw [run_eql_struct, show (10000 : Nat) = 9997 + 3 from rfl, eq_msg]
  show Result.ok (Value.bool _) W = _
  congr 2
  rw [Bool.eq_iff_iff]
  simp [and_assoc]
end Go.Proofs.Ytiokiecnglmbnaa
