/-
  The reference's Vals makes a slice of values such as the laws speak of. Condition: the slice holds ints.
-/
import Derived.Test.YtcojbloflaeefaaWEnc
import Derived.Test.YtcojbloflaeefaaWPure
import Derived.Test.YtcojbloflaeefaaAround
import Derived.Deep.RegionLaw
import Derived.BigRegion
namespace Go.Proofs.Ytcojbloflaeefaa
open Go Go.RowKit

theorem info_val : (Try.prog.info? 28).map (fun i => (i.zero, i.size, i.bytes)) = some (some (.agg #[.int .i64 0, .int .u64 0, .int .i64 0, .slice none 0 0, .slice none 0 0]), 5, 72) := by kernel_rfl
theorem row_below {w w' : World} {base size n : Nat} {t : TypeId} {v : Value} {xs : List Value} (h : w.ownsRow base t size v n xs) (hb : Below w.heap.size w w') : w'.ownsRow base t size v n xs := by
  obtain ⟨h1, h2⟩ := h
  refine ⟨h1, ?_⟩
  rcases h2 with h2 | ⟨g, cap, cur, hv, hg, hh, r⟩
  · exact .inl h2
  · exact .inr ⟨g, cap, cur, hv, hg, (hb.block g (heap_lt hh)).trans hh, r⟩
/-- Five new cells, as a source of append. -/
theorem cells5_new (W : World) (c0 c1 c2 c3 c4 : Value) (t : TypeId) (g : Nat) (hg : g = W.heap.size) : ∀ j u, [c0, c1, c2, c3, c4][j]? = some u → (W.alloc (.cells #[c0, c1, c2, c3, c4] t)).cell? ((⟨g, 0, none⟩ : Addr).add j) = some u := by
  intro j u hu
  subst hg
  rw [Addr.add_lit, Nat.zero_add, cell_of_row _ _ j _ _ _ (World.alloc_heap_new W _), ← hu]
  match j with
  | 0 => rfl
  | 1 => rfl
  | 2 => rfl
  | 3 => rfl
  | 4 => rfl
  | j + 5 => rfl

theorem VAt.grown {B : Nat} {w w' : World} {x : V} {v : Value} {row : Option Nat} (h : VAt B w x v) (hg : w.grownBy w' row) (hr : ∀ b, row = some b → B ≤ b ∨ ∃ C, w.heap[b]? = some (.cells C 28 (0, 0))) : VAt B w' x v := by
  obtain ⟨bA, bn, bc, lA, ln, lc, e, h1, h2⟩ := h
  have key : ∀ (t : TypeId) (b : Nat) (C : Array Value), t ≠ 28 → b < B → w.heap[b]? = some (.cells C t (0, 0)) → w'.heap[b]? = w.heap[b]? := fun t b C hne hb hC => hg.block b (heap_lt hC) fun e => by
    rcases hr b e.symm with h | ⟨C', h⟩
    · omega
    · exact heap_ne h hC (Ne.symm hne) rfl
  exact ⟨bA, bn, bc, lA, ln, lc, e, h1.keep fun b C hb hC => key _ b C (by decide) hb hC, h2.keep fun b C hb hC => key _ b C (by decide) hb hC⟩

/-- The cells of values, in a row. -/
def VRows (B : Nat) (w : World) (xs : List V) (cs : List Value) : Prop :=
  cs.length = xs.length * 5 ∧ ∀ i x, xs[i]? = some x → ∃ c0 c1 c2 c3 c4, VAt B w x (.agg #[c0, c1, c2, c3, c4]) ∧ cs[i * 5]? = some c0 ∧ cs[i * 5 + 1]? = some c1 ∧ cs[i * 5 + 2]? = some c2 ∧ cs[i * 5 + 3]? = some c3 ∧ cs[i * 5 + 4]? = some c4
theorem VRows.nil (B : Nat) (w : World) : VRows B w [] [] := ⟨rfl, fun i x h => by simp at h⟩
theorem VRows.imp {B B' : Nat} {w w' : World} {xs : List V} {cs : List Value} (h : VRows B w xs cs) (hk : ∀ x v, VAt B w x v → VAt B' w' x v) : VRows B' w' xs cs :=
  ⟨h.1, fun i x hx => by
    obtain ⟨c0, c1, c2, c3, c4, hv, hc⟩ := h.2 i x hx
    exact ⟨c0, c1, c2, c3, c4, hk _ _ hv, hc⟩⟩
theorem VRows.snoc {B : Nat} {w : World} {xs : List V} {cs : List Value} (h : VRows B w xs cs) {x : V} {c0 c1 c2 c3 c4 : Value} (hv : VAt B w x (.agg #[c0, c1, c2, c3, c4])) : VRows B w (xs ++ [x]) (cs ++ [c0, c1, c2, c3, c4]) := by
  obtain ⟨h1, h2⟩ := h
  refine ⟨by simp [h1]; omega, fun i y hy => ?_⟩
  by_cases hi : i < xs.length
  · rw [List.getElem?_append_left hi] at hy
    obtain ⟨d0, d1, d2, d3, d4, hd, e0, e1, e2, e3, e4⟩ := h2 i y hy
    refine ⟨d0, d1, d2, d3, d4, hd, ?_, ?_, ?_, ?_, ?_⟩ <;> rw [List.getElem?_append_left (by omega)] <;> assumption
  · have hi2 : i = xs.length := by
      have := (List.getElem?_eq_some_iff.1 hy).1
      simp at this
      omega
    subst hi2
    have e : x = y := by simpa using hy
    subst e
    refine ⟨c0, c1, c2, c3, c4, hv, ?_, ?_, ?_, ?_, ?_⟩
    · rw [List.getElem?_append_right (by omega), h1, Nat.sub_self]; rfl
    · rw [List.getElem?_append_right (by omega), show xs.length * 5 + 1 - cs.length = 1 by omega]; rfl
    · rw [List.getElem?_append_right (by omega), show xs.length * 5 + 2 - cs.length = 2 by omega]; rfl
    · rw [List.getElem?_append_right (by omega), show xs.length * 5 + 3 - cs.length = 3 by omega]; rfl
    · rw [List.getElem?_append_right (by omega), show xs.length * 5 + 4 - cs.length = 4 by omega]; rfl
/-- A row that the call owns, of values. -/
theorem Vls.of_own {w : World} {base n c : Nat} {A : Option Addr} {xs : List V} {cs : List Value} (h : w.ownsRow base 28 5 (.slice A n c) n cs) (hr : VRows w.heap.size w xs cs) : Vls w.heap.size w A n c xs := by
  obtain ⟨r1, r2⟩ := hr
  obtain ⟨h1, h2⟩ := h
  have hl : xs.length = n := by omega
  rcases h2 with ⟨e, h0⟩ | ⟨g, cap, cur, e, hg, hh, hn, hm, hs, ht⟩
  · injection e with e1 e2 e3
    exact ⟨hl, by omega, by rw [e3]; simp [maxLen], fun hn => by omega⟩
  · injection e with e1 e2 e3
    subst e1 e3
    refine ⟨hl, hn, hm, fun _ => ⟨g, 0, cur, rfl, heap_lt hh, hh, fun i x hx => ?_⟩⟩
    obtain ⟨c0, c1, c2, c3, c4, hv, q0, q1, q2, q3, q4⟩ := r2 i x hx
    have hi : i < xs.length := (List.getElem?_eq_some_iff.1 hx).1
    have at_ : ∀ j u, i * 5 + j < n * 5 → cs[i * 5 + j]? = some u → cur[0 + (i * 5 + j)]? = some u := fun j u hj hu => by
      rw [Nat.zero_add, ← Array.getElem?_toList, ← hu, ← ht, List.getElem?_take_of_lt hj]
    refine ⟨_, hv, fun j u hu => ?_⟩
    match j, hu with
    | 0, hu => exact at_ 0 u (by omega) (by rw [← hu]; exact q0)
    | 1, hu => exact at_ 1 u (by omega) (by rw [← hu]; exact q1)
    | 2, hu => exact at_ 2 u (by omega) (by rw [← hu]; exact q2)
    | 3, hu => exact at_ 3 u (by omega) (by rw [← hu]; exact q3)
    | 4, hu => exact at_ 4 u (by omega) (by rw [← hu]; exact q4)
    | j + 5, hu => exact absurd hu (by simp [Value.cells])

theorem four {n : Int} (h0 : 0 ≤ n) (h1 : n < 4) : n = 0 ∨ n = 1 ∨ n = 2 ∨ n = 3 := by omega
/-- A value as Vals makes them. -/
def V.good (x : V) : Prop := x.wf ∧ x.flat ∧ x.b.length ≤ 9 ∧ x.l.length ≤ 4
theorem len_snoc {ys : List Int} {j : Nat} (h : ys.length = j) (q : Int) : Hid ((ys ++ [q]).length = j + 1) := by
  show _ = _
  rw [List.length_append, h]
  rfl
theorem shr_i64 {x : Int} (h : I64 x) (q : Nat) : I64 (x / 2 ^ q) := by
  obtain ⟨h0, h1⟩ := h
  have hp : (0 : Int) < 2 ^ q := Int.pow_pos (by decide)
  unfold I64
  have h2 : (1 : Int) ≤ 2 ^ q := by omega
  constructor
  · rw [Int.le_ediv_iff_mul_le hp]
    have := Int.mul_le_mul_of_nonpos_left (show (-9223372036854775808 : Int) ≤ 0 by decide) h2
    omega
  · rw [Int.ediv_lt_iff_lt_mul hp]
    have := Int.mul_le_mul_of_nonneg_left h2 (show (0 : Int) ≤ 9223372036854775808 by decide)
    omega
theorem i64_snoc {ys : List Int} (h : ∀ y ∈ ys, I64 y) {x : Int} (hx : I64 x) (q : Nat) : Hid (∀ y ∈ ys ++ [x / 2 ^ q], I64 y) := by
  intro y hy
  simp only [List.mem_append, List.mem_singleton] at hy
  rcases hy with hy | rfl
  · exact h y hy
  · exact shr_i64 hx q
theorem good0 {u : Int} (h : W64 u) : V.good { kind := 0, u := u, n := 0, b := [], l := [] } := by
  simpa [V.good, V.wf, V.flat, I64, W64] using h
theorem good1 {n : Int} (h : I64 n) : V.good { kind := 1, u := 0, n := n, b := [], l := [] } := by
  simpa [V.good, V.wf, V.flat, I64, W64] using h
theorem good2 {b : List Int} (h : ∀ c ∈ b, B8 c) (hl : b.length ≤ 9) : V.good { kind := 2, u := 0, n := 0, b := b, l := [] } := by
  have h1 : b.length ≤ 1000 := by omega
  simp [V.good, V.wf, V.flat, I64, W64, h1, hl]
  exact h
theorem good3 {l : List Int} (h : ∀ c ∈ l, I64 c) (hl : l.length ≤ 4) : V.good { kind := 3, u := 0, n := 0, b := [], l := l } := by
  have h1 : l.length ≤ 1000 := by omega
  simp only [V.good, V.wf, V.flat]
  refine ⟨⟨by unfold W64; omega, by unfold I64; omega, by simp, h, by simp, h1, by simp⟩, by simp, by simp, hl⟩
theorem vs_len {xs : List V} {k : Nat} (h : xs.length = k) (x : V) : Hid ((xs ++ [x]).length = k + 1) := by
  show _ = _
  rw [List.length_append, h]
  rfl
theorem vs_good {xs : List V} (h : ∀ x ∈ xs, V.good x) {x : V} (hx : V.good x) : Hid (∀ y ∈ xs ++ [x], V.good y) := by
  intro y hy
  simp only [List.mem_append, List.mem_singleton] at hy
  rcases hy with hy | rfl
  · exact h y hy
  · exact hx
theorem shr_w64 (x : Int) (q : Nat) : W64 (IntKind.u64.wrap x / 2 ^ q) := by
  rw [IntKind.wrap_u64]
  have hp : (0 : Int) < 2 ^ q := Int.pow_pos (by decide)
  have h0 : 0 ≤ x % 18446744073709551616 := by omega
  have h1 := Int.ediv_nonneg h0 (Int.le_of_lt hp)
  have h2 := Int.ediv_le_self (2 ^ q) h0
  constructor <;> omega
theorem u8_snoc {ys : List Int} (h : ∀ y ∈ ys, B8 y) (q : Int) : Hid (∀ y ∈ ys ++ [IntKind.u8.wrap q], B8 y) := by
  intro y hy
  simp only [List.mem_append, List.mem_singleton] at hy
  rcases hy with hy | rfl
  · exact h y hy
  · rw [IntKind.wrap_u8']
    unfold B8
    omega

/-- A field's own row is no block of another type. -/
theorem field_ne {w : World} {base size n g : Nat} {t tv : TypeId} {v : Value} {xs : List Value} {cs : Array Value} {f : Nat × Nat} (h : w.ownsRow base t size v n xs) (hg : w.heap[g]? = some (.cells cs tv f)) (hne : tv ≠ t) : some g ≠ v.ownBlock := fun e => by
  rcases h.2 with ⟨e2, _⟩ | ⟨g', cap, cur, e2, _, hh, _⟩
  · rw [e2] at e; cases e
  · rw [e2] at e
    have e3 : some g = some g' := e
    injection e3 with e3
    subst e3
    exact heap_ne hg hh hne rfl
theorem field_kept {w w' : World} {g i : Nat} {v u : Value} {x : Value} {t : TypeId} (h : (w.alloc (.cells #[x] t)).drew.grownBy w' v.ownBlock) (hne : some g ≠ v.ownBlock) (hc : w.cell? ⟨g, i, none⟩ = some u) (hf : w.frozen? ⟨g, i, none⟩ = false) : w'.cell? ⟨g, i, none⟩ = some u ∧ w'.frozen? ⟨g, i, none⟩ = false := by
  have hl : g < w.heap.size := World.block_lt_of_cell? w ⟨g, i, none⟩ hc
  have hb : w'.heap[g]? = w.heap[g]? := (h.block g (by simp; omega) hne).trans (Below.heap_alloc w _ g hl)
  exact ⟨(World.cell?_of_block (w := w) (a := ⟨g, i, none⟩) hb).trans hc, (World.frozen?_of_block (w := w) (a := ⟨g, i, none⟩) hb).trans hf⟩
theorem field_step3 {wo wr w4 : World} {g j base : Nat} {t : TypeId} {c0 c1 c2 c4 v u x : Value} {zs ys : List Value} (hblk : wr.heap[g]? = some (.cells #[c0, c1, c2, v, c4] 28 (0, 0))) (hown : wr.ownsRow base t 1 v j ys) (hne : some g ≠ v.ownBlock) (ht : 28 ≠ t)
    (hg : (wr.alloc (.cells #[x] t)).drew.grownBy w4 v.ownBlock) (hown4 : w4.ownsRow base t 1 u (j + 1) zs) (hB : Below base wo wr) (hbase : base ≤ wr.heap.size) (hbg : base ≤ g) :
    (w4.setCell ⟨g, 3, none⟩ u).heap[g]? = some (.cells #[c0, c1, c2, u, c4] 28 (0, 0)) ∧ (w4.setCell ⟨g, 3, none⟩ u).ownsRow base t 1 u (j + 1) zs ∧ Below base wo (w4.setCell ⟨g, 3, none⟩ u) := by
  have hl := heap_lt hblk
  have h4 : w4.heap[g]? = some (.cells #[c0, c1, c2, v, c4] 28 (0, 0)) := ((hg.block g (by simp; omega) hne).trans (Below.heap_alloc wr _ g hl)).trans hblk
  refine ⟨by simp [World.setCell, Array.getElem?_modify, h4], own_but hown4 (but_set _ _ _ _) h4 ht, Below.setCell (p := ⟨g, 3, none⟩) ?_ hbg _⟩
  exact (hB.trans (((Below.refl base wr).alloc hbase _).drew)).grown hg (by simp; omega) fun b e => (hown.lt b e).1
theorem field_step4 {wo wr w4 : World} {g j base : Nat} {t : TypeId} {c0 c1 c2 c3 v u x : Value} {zs ys : List Value} (hblk : wr.heap[g]? = some (.cells #[c0, c1, c2, c3, v] 28 (0, 0))) (hown : wr.ownsRow base t 1 v j ys) (hne : some g ≠ v.ownBlock) (ht : 28 ≠ t)
    (hg : (wr.alloc (.cells #[x] t)).drew.grownBy w4 v.ownBlock) (hown4 : w4.ownsRow base t 1 u (j + 1) zs) (hB : Below base wo wr) (hbase : base ≤ wr.heap.size) (hbg : base ≤ g) :
    (w4.setCell ⟨g, 4, none⟩ u).heap[g]? = some (.cells #[c0, c1, c2, c3, u] 28 (0, 0)) ∧ (w4.setCell ⟨g, 4, none⟩ u).ownsRow base t 1 u (j + 1) zs ∧ Below base wo (w4.setCell ⟨g, 4, none⟩ u) := by
  have hl := heap_lt hblk
  have h4 : w4.heap[g]? = some (.cells #[c0, c1, c2, c3, v] 28 (0, 0)) := ((hg.block g (by simp; omega) hne).trans (Below.heap_alloc wr _ g hl)).trans hblk
  refine ⟨by simp [World.setCell, Array.getElem?_modify, h4], own_but hown4 (but_set _ _ _ _) h4 ht, Below.setCell (p := ⟨g, 4, none⟩) ?_ hbg _⟩
  exact (hB.trans (((Below.refl base wr).alloc hbase _).drew)).grown hg (by simp; omega) fun b e => (hown.lt b e).1
theorem vals_step {w wr W w4 : World} {xs : List V} {cs : List Value} {A' : Option Addr} {c' k : Nat} {x : V} {c0 c1 c2 c3 c4 : Value} (hB : Below w.heap.size w wr) (hrow : wr.ownsRow w.heap.size 28 5 (.slice A' k c') k cs) (hV : VRows wr.heap.size wr xs cs)
    (hW : Below wr.heap.size wr W) (hx : VAt W.heap.size W x (.agg #[c0, c1, c2, c3, c4])) (hg : (W.alloc (.cells #[c0, c1, c2, c3, c4] 28)).grownBy w4 (Value.slice A' k c').ownBlock) :
    VRows w4.heap.size w4 (xs ++ [x]) (cs ++ [c0, c1, c2, c3, c4]) ∧ Below w.heap.size w w4 := by
  have hs := hB.size
  have hsW := hW.size
  have bT := Below.alloc (Below.refl W.heap.size W) (Nat.le_refl _) (.cells #[c0, c1, c2, c3, c4] 28)
  have bW := hW.trans (bT.mono hsW)
  have hrow2 := row_below hrow bW
  have hr : ∀ B b, (Value.slice A' k c').ownBlock = some b → B ≤ b ∨ ∃ C, (W.alloc (.cells #[c0, c1, c2, c3, c4] 28)).heap[b]? = some (.cells C 28 (0, 0)) := fun B b e => by
    rcases hrow2.2 with ⟨e2, _⟩ | ⟨g', cap, cur, e2, _, hh, _⟩
    · rw [e2] at e; cases e
    · rw [e2] at e
      have e3 : some g' = some b := e
      injection e3 with e3
      subst e3
      exact .inr ⟨cur, hh⟩
  have sz := hg.size
  refine ⟨VRows.snoc (hV.imp fun y v hy => ((hy.below bW).grown hg (hr _)).more ?_) (((hx.below bT).grown hg (hr _)).more ?_), (hB.trans (bW.mono hs)).grown hg (by have := bW.size; omega) fun b e => (hrow2.lt b e).1⟩
  · have := bW.size; omega
  · have := bT.size; omega

set_option maxRecDepth 100000 in
set_option maxHeartbeats 2000000 in
theorem vals_any (A : Option Addr) (n c : Nat) (zs : List Int) (w : World) (hI : Ints .i64 w.heap.size w A n zs) (hi : ∀ x ∈ zs, I64 x) (hn : n ≤ 9223372036854775807) :
    Calls Try.prog 6 #[.slice A n c] w fun e w' => ∃ A' n' c' xs cs, e = .returned (.slice A' n' c') ∧ n' ≤ 8 ∧ xs.length = n' ∧ (∀ x ∈ xs, V.good x) ∧ w'.ownsRow w.heap.size 28 5 (.slice A' n' c') n' cs ∧ VRows w'.heap.size w' xs cs ∧ Below w.heap.size w w' := by
  have HI := Lib.hid hi
  have HL := Lib.hid hI.len
  obtain ⟨i1, hi1, hy0, hy1, hy2⟩ := info_parts info_val
  obtain ⟨i0, hi0, hz0, hz1, hz2⟩ := info_parts info_byte
  obtain ⟨i2, hi2, hq0, hq1, hq2⟩ := info_parts info_int
  clear hi
  go_enter Try.func6, Try.ntmps6
  go_wp2
  go_loopw [3, 4] (fun o i wr => ∃ (k : Nat) (A' : Option Addr) (c' : Nat) (xs : List V) (cs : List Value), k ≤ n ∧ k ≤ 8 ∧ i = .int .i64 k ∧ o = .slice A' k c' ∧ Hid (xs.length = k) ∧ Hid (∀ x ∈ xs, V.good x) ∧ wr.ownsRow w.heap.size 28 5 (.slice A' k c') k cs ∧ VRows wr.heap.size wr xs cs ∧ Below w.heap.size w wr) (fun _ i _ => 8 - (intOf i).toNat)
  case atStart => exact ⟨0, none, 0, [], [], Nat.zero_le _, Nat.zero_le _, rfl, rfl, rfl, (show ∀ x ∈ ([] : List V), V.good x from fun x hx => by cases hx), ⟨rfl, .inl ⟨rfl, rfl⟩⟩, VRows.nil _ _, Below.refl _ _⟩
  case round =>
    obtain ⟨k, A', c', xs, cs, hk, hk8, rfl, rfl, hxl, hxg, hrow, hV, hB⟩ := hrel
    by_cases hlt : k < n ∧ k < 8
    · obtain ⟨hlt1, hlt2⟩ := hlt
      obtain ⟨b, off, rfl, hbl, hcs⟩ := hI.at_ (by omega)
      have hck := (hB.cell (p := ⟨b, off + k, none⟩) hbl).trans (hcs k hlt1)
      obtain ⟨x0, x1⟩ := HI.out _ (getD_mem (l := zs) (j := k) (by rw [HL.out]; exact hlt1))
      obtain ⟨x, ex⟩ : ∃ x, zs[k]?.getD 0 = x := ⟨_, rfl⟩
      rw [ex] at hck x0 x1
      clear ex hI hcs
      obtain ⟨r0, r1⟩ := around_in x 4 (by decide)
      have HA := Lib.hid (around_any x 4 ⟨x0, x1⟩ (by decide) (by decide) wr)
      obtain ⟨kd, hkd⟩ : ∃ kd, around x 4 = kd := ⟨_, rfl⟩
      rw [hkd] at HA r0 r1
      go_wp2_with fail
      refine HA.out.mono ?_
      rintro e v1 ⟨rfl, rfl⟩
      clear hkd
      have hx4 : I64 (x.tdiv 4) := by
        unfold I64
        rcases Int.le_total 0 x with h | h
        · rw [Int.tdiv_eq_ediv_of_nonneg h]; omega
        · have e : x.tdiv 4 = -((-x) / 4) := by
            rw [← Int.tdiv_eq_ediv_of_nonneg (by omega), Int.neg_tdiv, Int.neg_neg]
          rw [e]; omega
      obtain ⟨s0, s1⟩ := around_in (x.tdiv 4) 63 (by decide)
      have HA2 := Lib.hid (around_any (x.tdiv 4) 63 hx4 (by decide) (by decide) wr)
      obtain ⟨sh, hsh⟩ : ∃ sh, around (x.tdiv 4) 63 = sh := ⟨_, rfl⟩
      rw [hsh] at HA2 s0 s1
      clear hsh hx4
      obtain ⟨sh, rfl⟩ := Int.eq_ofNat_of_zero_le s0
      go_wp2_with fail
      refine HA2.out.mono ?_
      rintro e v1 ⟨rfl, rfl⟩
      have hbw : b < wr.heap.size := by have := hB.size; omega
      have hS := hB.size
      rcases four r0 r1 with rfl | rfl | rfl | rfl
      · go_wp2_with (at_builtin
                     refine wpList_append_own _ rfl _ _ 25 rfl w.heap.size 28 i1 _ 5 72 Try.underlying25 hi1 hy0 hy1 hy2 rfl (by decide) _ _ _ rfl (row_below hrow (((Below.refl _ _).alloc (Nat.le_refl _) _).alloc (by simp) _)) ⟨_, 0, none⟩ 1 1 [_, _, _, _, _] rfl rfl (cells5_new _ _ _ _ _ _ _ _ (by simp)) (by simp [Value.oneCell']) (by simp only [maxLen]; omega) (by omega) (by simp; omega) ?_
                     intro v' w4 hown' hgrow _
                     obtain ⟨g', cap', rfl⟩ := ownsRow_succ hown')
        obtain ⟨hV4, hB4⟩ := vals_step (x := { kind := 0, u := IntKind.u64.wrap x / 2 ^ sh, n := 0, b := [], l := [] }) hB hrow hV ((Below.refl _ _).alloc (Nat.le_refl _) _) ⟨_, _, _, _, _, _, rfl, Lst.none_ _ _ _ _, Lst.none_ _ _ _ _⟩ hgrow
        go_roundw
        case rel =>
          exact ⟨k + 1, _, _, _, _, by omega, by omega, by go_num, rfl, vs_len hxl.out _, vs_good hxg.out (good0 (shr_w64 _ _)), hown', hV4, hB4⟩
        case measure => simp [intOf]; omega
      · go_wp2_with (at_builtin
                     refine wpList_append_own _ rfl _ _ 25 rfl w.heap.size 28 i1 _ 5 72 Try.underlying25 hi1 hy0 hy1 hy2 rfl (by decide) _ _ _ rfl (row_below hrow (((Below.refl _ _).alloc (Nat.le_refl _) _).alloc (by simp) _)) ⟨_, 0, none⟩ 1 1 [_, _, _, _, _] rfl rfl (cells5_new _ _ _ _ _ _ _ _ (by simp)) (by simp [Value.oneCell']) (by simp only [maxLen]; omega) (by omega) (by simp; omega) ?_
                     intro v' w4 hown' hgrow _
                     obtain ⟨g', cap', rfl⟩ := ownsRow_succ hown')
        obtain ⟨hV4, hB4⟩ := vals_step (x := { kind := 1, u := 0, n := x / 2 ^ sh, b := [], l := [] }) hB hrow hV ((Below.refl _ _).alloc (Nat.le_refl _) _) ⟨_, _, _, _, _, _, rfl, Lst.none_ _ _ _ _, Lst.none_ _ _ _ _⟩ hgrow
        go_roundw
        case rel => exact ⟨k + 1, _, _, _, _, by omega, by omega, by go_num, rfl, vs_len hxl.out _, vs_good hxg.out (good1 (shr_i64 ⟨x0, x1⟩ _)), hown', hV4, hB4⟩
        case measure => simp [intOf]; omega
      · obtain ⟨wo, hwo⟩ : ∃ W, W = wr := ⟨_, rfl⟩
        subst hwo
        go_wp2_with fail
        go_loopw [8] (fun i wq => ∃ (j : Nat) (bA : Option Addr) (bc : Nat) (ys : List Int), j ≤ 9 ∧ i = .int .i64 j ∧ Hid (ys.length = j) ∧ Hid (∀ y ∈ ys, B8 y) ∧ Hid (wq.heap[wo.heap.size]? = some (.cells #[.int .i64 2, .int .u64 0, .int .i64 0, .slice bA j bc, .slice none 0 0] 28 (0, 0))) ∧ wq.ownsRow wo.heap.size 5 1 (.slice bA j bc) j (ys.map (Value.int .u8)) ∧ Below wo.heap.size wo wq) (fun i _ => 10 - (intOf i).toNat)
        case atStart => exact ⟨0, none, 0, [], by omega, rfl, rfl, (show ∀ y ∈ ([] : List Int), B8 y from fun y hy => by cases hy), World.alloc_heap_new wo _, ⟨rfl, .inl ⟨rfl, rfl⟩⟩, (Below.refl _ _).alloc (Nat.le_refl _) _⟩
        case round =>
          obtain ⟨j, bA, bc, ys, hj, rfl, hyl, hy8, hblk, hown, hBq⟩ := hrel
          obtain ⟨d0, d1, d2, d3, d4⟩ := five_c hblk.out
          obtain ⟨e0, e1, e2, e3, e4⟩ := five_f hblk.out
          have hckq := (hBq.cell (p := ⟨b, off + k, none⟩) hbw).trans hck
          have hsz := hBq.size
          have hgl := heap_lt hblk.out
          by_cases hjl : (j : Int) < (sh : Int) % 10
          · have hj9 : j < 9 := by omega
            have HNE := Lib.hid (field_ne hown hblk.out (by decide))
            have HO := Lib.hid hown
            clear hown
            go_wp2_with fail
            go_region_law (refine step_append_lies _ rfl (.tmp 83) (.tmp 92) 24 rfl wo.heap.size 5 i0 _ 1 1 Try.underlying24 hi0 hz0 hz1 hz2 rfl (by decide) (.slice bA j bc) j _ (by simp [Act.eval]) (row_below HO.out (((Below.refl _ _).alloc (Nat.le_refl _) _).drew)) ⟨wr.heap.size, 0, none⟩ 1 1 [_] (by simp [Act.eval]) rfl (fun j u hu => cell_one_new wr _ _ j u hu) (by simp [Value.oneCell']) (by decide) (by simp only [maxLen]; omega) (by omega) (by simp; omega) _ rfl ?_; intro g4 c4 w4 hown4 hgrow4 _ _; have f1 := field_kept hgrow4 HNE.out d3 e3)
            all_goals
              obtain ⟨k1, k2, k3⟩ := field_step3 hblk.out HO.out HNE.out (by decide) hgrow4 hown4 hBq hsz (Nat.le_refl _)
              go_wp2_with fail
              go_roundw
              case rel => exact ⟨j + 1, _, _, ys ++ [_], by omega, by go_num, len_snoc hyl.out _, u8_snoc hy8.out _, k1, by rw [List.map_append]; exact k2, k3⟩
              case measure => simp [intOf]; omega
          · have HVx := Lib.hid hV
            have HRx := Lib.hid hrow
            have hLx := Lst.of_own hown
            have HOx := Lib.hid hown
            clear hV hrow hown hckq
            have hno : ¬ (j : Int) < (sh : Int) % 10 := hjl
            go_wp2_with (at_builtin
                         refine wpList_append_own _ rfl _ _ 25 rfl w.heap.size 28 i1 _ 5 72 Try.underlying25 hi1 hy0 hy1 hy2 rfl (by decide) _ _ _ rfl (row_below HRx.out (hBq.trans (((Below.refl _ _).alloc hsz _)))) ⟨_, 0, none⟩ 1 1 [_, _, _, _, _] rfl rfl (cells5_new _ _ _ _ _ _ _ _ rfl) (by simp [Value.oneCell']) (by simp only [maxLen]; omega) (by omega) (by simp; omega) ?_
                         intro v' w5 hown' hgrow _
                         obtain ⟨g', cap', rfl⟩ := ownsRow_succ hown')
            obtain ⟨hV4, hB4⟩ := vals_step (x := { kind := 2, u := 0, n := 0, b := ys, l := [] }) hB HRx.out HVx.out hBq ⟨_, _, _, _, _, _, rfl, hLx, Lst.none_ _ _ _ _⟩ hgrow
            go_roundw
            case rel =>
              exact ⟨k + 1, _, _, _, _, by omega, by omega, by go_num, rfl, vs_len hxl.out _, vs_good hxg.out (good2 hy8.out (by rw [hyl.out]; exact hj)), hown', hV4, hB4⟩
            case measure => simp [intOf]; omega
      · obtain ⟨wo, hwo⟩ : ∃ W, W = wr := ⟨_, rfl⟩
        subst hwo
        go_wp2_with fail
        go_loopw [9] (fun i wq => ∃ (j : Nat) (bA : Option Addr) (bc : Nat) (ys : List Int), j ≤ 4 ∧ i = .int .i64 j ∧ Hid (ys.length = j) ∧ Hid (∀ y ∈ ys, I64 y) ∧ Hid (wq.heap[wo.heap.size]? = some (.cells #[.int .i64 3, .int .u64 0, .int .i64 0, .slice none 0 0, .slice bA j bc] 28 (0, 0))) ∧ wq.ownsRow wo.heap.size 3 1 (.slice bA j bc) j (ys.map (Value.int .i64)) ∧ Below wo.heap.size wo wq) (fun i _ => 5 - (intOf i).toNat)
        case atStart => exact ⟨0, none, 0, [], by omega, rfl, rfl, (show ∀ y ∈ ([] : List Int), I64 y from fun y hy => by cases hy), World.alloc_heap_new wo _, ⟨rfl, .inl ⟨rfl, rfl⟩⟩, (Below.refl _ _).alloc (Nat.le_refl _) _⟩
        case round =>
          obtain ⟨j, bA, bc, ys, hj, rfl, hyl, hy8, hblk, hown, hBq⟩ := hrel
          obtain ⟨d0, d1, d2, d3, d4⟩ := five_c hblk.out
          obtain ⟨e0, e1, e2, e3, e4⟩ := five_f hblk.out
          have hckq := (hBq.cell (p := ⟨b, off + k, none⟩) hbw).trans hck
          have hsz := hBq.size
          have hgl := heap_lt hblk.out
          by_cases hjl : (j : Int) < (sh : Int) % 5
          · have hj9 : j < 4 := by omega
            have HNE := Lib.hid (field_ne hown hblk.out (by decide))
            have HO := Lib.hid hown
            clear hown
            go_wp2_with fail
            go_region_law (refine step_append_lies _ rfl (.tmp 41) (.tmp 50) 22 rfl wo.heap.size 3 i2 _ 1 8 Try.underlying22 hi2 hq0 hq1 hq2 rfl (by decide) (.slice bA j bc) j _ (by simp [Act.eval]) (row_below HO.out (((Below.refl _ _).alloc (Nat.le_refl _) _).drew)) ⟨wr.heap.size, 0, none⟩ 1 1 [_] (by simp [Act.eval]) rfl (fun j u hu => cell_one_new wr _ _ j u hu) (by simp [Value.oneCell']) (by decide) (by simp only [maxLen]; omega) (by omega) (by simp; omega) _ rfl ?_; intro g4 c4 w4 hown4 hgrow4 _ _; have f1 := field_kept hgrow4 HNE.out d4 e4)
            all_goals
              obtain ⟨k1, k2, k3⟩ := field_step4 hblk.out HO.out HNE.out (by decide) hgrow4 hown4 hBq hsz (Nat.le_refl _)
              go_wp2_with fail
              go_roundw
              case rel => exact ⟨j + 1, _, _, ys ++ [_], by omega, by go_num, len_snoc hyl.out _, i64_snoc hy8.out ⟨x0, x1⟩ _, k1, by rw [List.map_append]; exact k2, k3⟩
              case measure => simp [intOf]; omega
          · have HVx := Lib.hid hV
            have HRx := Lib.hid hrow
            have hLx := Lst.of_own hown
            have HOx := Lib.hid hown
            clear hV hrow hown hckq
            have hno : ¬ (j : Int) < (sh : Int) % 5 := hjl
            go_wp2_with (at_builtin
                         refine wpList_append_own _ rfl _ _ 25 rfl w.heap.size 28 i1 _ 5 72 Try.underlying25 hi1 hy0 hy1 hy2 rfl (by decide) _ _ _ rfl (row_below HRx.out (hBq.trans (((Below.refl _ _).alloc hsz _)))) ⟨_, 0, none⟩ 1 1 [_, _, _, _, _] rfl rfl (cells5_new _ _ _ _ _ _ _ _ rfl) (by simp [Value.oneCell']) (by simp only [maxLen]; omega) (by omega) (by simp; omega) ?_
                         intro v' w5 hown' hgrow _
                         obtain ⟨g', cap', rfl⟩ := ownsRow_succ hown')
            obtain ⟨hV4, hB4⟩ := vals_step (x := { kind := 3, u := 0, n := 0, b := [], l := ys }) hB HRx.out HVx.out hBq ⟨_, _, _, _, _, _, rfl, Lst.none_ _ _ _ _, hLx⟩ hgrow
            go_roundw
            case rel =>
              exact ⟨k + 1, _, _, _, _, by omega, by omega, by go_num, rfl, vs_len hxl.out _, vs_good hxg.out (good3 hy8.out (by rw [hyl.out]; exact hj)), hown', hV4, hB4⟩
            case measure => simp [intOf]; omega
    · have hno : ¬ (k < n ∧ k < 8) := hlt
      by_cases hkn : k < n
      · have h8 : ¬ k < 8 := by omega
        clear hlt hno
        go_wp2_with fail
        go_ret
        exact ⟨A', k, c', xs, cs, rfl, hk8, hxl.out, hxg.out, hrow, hV, hB⟩
      · clear hlt hno
        go_wp2_with fail
        go_ret
        exact ⟨A', k, c', xs, cs, rfl, hk8, hxl.out, hxg.out, hrow, hV, hB⟩
end Go.Proofs.Ytcojbloflaeefaa
