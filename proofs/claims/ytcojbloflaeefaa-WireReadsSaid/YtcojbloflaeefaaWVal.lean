/-
  The laws' values: write, read and encode of the law's package, by value and in slices. Condition: the values are such as the laws make.
-/
import Derived.Test.YtcojbloflaeefaaWList
namespace Go.Proofs.Ytcojbloflaeefaa
open Go Go.RowKit

/-- A value of the laws, by value. -/
def VAt (B : Nat) (w : World) (x : V) (v : Value) : Prop :=
  ∃ bA bn bc lA ln lc, v = .agg #[.int .i64 x.kind, .int .u64 x.u, .int .i64 x.n, .slice bA bn bc, .slice lA ln lc] ∧ Lst 5 .u8 B w bA bn bc x.b ∧ Lst 3 .i64 B w lA ln lc x.l
theorem VAt.below {B : Nat} {w w' : World} {x : V} {v : Value} (h : VAt B w x v) (hb : Below B w w') : VAt B w' x v := by
  obtain ⟨bA, bn, bc, lA, ln, lc, e, h1, h2⟩ := h
  exact ⟨bA, bn, bc, lA, ln, lc, e, h1.below hb, h2.below hb⟩
theorem VAt.more {B B' : Nat} {w : World} {x : V} {v : Value} (h : VAt B w x v) (hB : B ≤ B') : VAt B' w x v := by
  obtain ⟨bA, bn, bc, lA, ln, lc, e, h1, h2⟩ := h
  exact ⟨bA, bn, bc, lA, ln, lc, e, h1.more hB, h2.more hB⟩

set_option maxHeartbeats 1000000 in
theorem write_any (base g : Nat) (x : V) (v : Value) (bs : List Int) (w : World) (h : OutAt base w g bs) (hv : VAt base w x v) (hx : x.wf) (hl : bs.length ≤ 800000) :
    Calls Try.prog 9 #[.pointer (some ⟨g, 0, none⟩), v] w fun e w' => e = .returned (.tuple #[]) ∧ OutAt base w' g (bs ++ encV x) ∧ Below base w w' := by
  obtain ⟨k, u, n, b, l⟩ := x
  obtain ⟨bA, bn, bc, lA, ln, lc, rfl, hb, hll⟩ := hv
  obtain ⟨h1, h2, h3, h4, h5, h6, hk⟩ := hx
  simp only at h1 h2 h3 h4 h5 h6 hk hb hll
  have hs := h.size
  have ha := Below.alloc (Below.refl base w) hs (.cells #[.int .i64 k, .int .u64 u, .int .i64 n, .slice bA bn bc, .slice lA ln lc] 28)
  have hO := h.below (Below.alloc (Below.refl w.heap.size w) (Nat.le_refl _) (.cells #[.int .i64 k, .int .u64 u, .int .i64 n, .slice bA bn bc, .slice lA ln lc] 28))
  have hb' := hb.below ha
  have hl' := hll.below ha
  rw [hb.len] at h5
  rw [hll.len] at h6
  have H3 := Lib.hid h3
  have H4 := Lib.hid h4
  clear h h3 h4 hb hll
  rcases hk with rfl | rfl | rfl | rfl
  · have HC := Lib.hid (out_uint base g u bs _ hO h1 (by omega))
    go_enter Try.func9, Try.ntmps9
    go_wp2_with fail
    refine HC.out.mono ?_
    rintro e w1 ⟨rfl, ho, hbw⟩
    go_wp2_with fail
    go_end0
    exact ⟨rfl, ho, ha.trans hbw⟩
  · have HC := Lib.hid (out_int base g n bs _ hO h2 (by omega))
    go_enter Try.func9, Try.ntmps9
    go_wp2_with fail
    refine HC.out.mono ?_
    rintro e w1 ⟨rfl, ho, hbw⟩
    go_wp2_with fail
    go_end0
    exact ⟨rfl, ho, ha.trans hbw⟩
  · have HC := Lib.hid (out_bytes base g _ _ _ b bs _ hO hb' (by omega))
    go_enter Try.func9, Try.ntmps9
    go_wp2_with fail
    refine HC.out.mono ?_
    rintro e w1 ⟨rfl, ho, hbw⟩
    go_wp2_with fail
    go_end0
    exact ⟨rfl, ho, ha.trans hbw⟩
  · have HC := Lib.hid (out_ints base g _ _ _ l bs _ hO hl' H4.out (by omega))
    go_enter Try.func9, Try.ntmps9
    go_wp2_with fail
    refine HC.out.mono ?_
    rintro e w1 ⟨rfl, ho, hbw⟩
    go_wp2_with fail
    go_end0
    exact ⟨rfl, ho, ha.trans hbw⟩

/-! ### A block of five cells -/
def five (k u n b l : Value) : Array Value := #[k, u, n, b, l]
section
variable {w : World} {g : Nat} {c0 c1 c2 c3 c4 : Value} {t : TypeId}
theorem five_c (h : w.heap[g]? = some (.cells #[c0, c1, c2, c3, c4] t (0, 0))) : w.cell? ⟨g, 0, none⟩ = some c0 ∧ w.cell? ⟨g, 1, none⟩ = some c1 ∧ w.cell? ⟨g, 2, none⟩ = some c2 ∧ w.cell? ⟨g, 3, none⟩ = some c3 ∧ w.cell? ⟨g, 4, none⟩ = some c4 :=
  ⟨cell_of_row w g 0 _ t (0, 0) h, cell_of_row w g 1 _ t (0, 0) h, cell_of_row w g 2 _ t (0, 0) h, cell_of_row w g 3 _ t (0, 0) h, cell_of_row w g 4 _ t (0, 0) h⟩
theorem five_f (h : w.heap[g]? = some (.cells #[c0, c1, c2, c3, c4] t (0, 0))) : w.frozen? ⟨g, 0, none⟩ = false ∧ w.frozen? ⟨g, 1, none⟩ = false ∧ w.frozen? ⟨g, 2, none⟩ = false ∧ w.frozen? ⟨g, 3, none⟩ = false ∧ w.frozen? ⟨g, 4, none⟩ = false := by
  simp [World.frozen?, h]
end

/-- A value whose fields but the kind are zero. -/
def zeroV (k : Int) : Array Value := #[.int .i64 k, .int .u64 0, .int .i64 0, .slice none 0 0, .slice none 0 0]
/-- The world of 'read' ahead of its call, and what is known behind it. -/
theorem read_at {B g : Nat} {w : World} {s : St} (k : Int) (h : InAt B w g s) :
    ∃ W, W = (w.alloc (.cells #[.int .i64 0, .int .u64 0, .int .i64 0, .slice none 0 0, .slice none 0 0] 28)).alloc (.cells #[.int .i64 k, .int .u64 0, .int .i64 0, .slice none 0 0, .slice none 0 0] 28) ∧
      InAt B W g s ∧ W.heap.size = w.heap.size + 2 ∧ Below w.heap.size w W ∧ ∀ w1, But g W w1 →
        w1.heap[w.heap.size]? = some (.cells #[.int .i64 0, .int .u64 0, .int .i64 0, .slice none 0 0, .slice none 0 0] 28 (0, 0)) ∧ w1.heap[w.heap.size + 1]? = some (.cells #[.int .i64 k, .int .u64 0, .int .i64 0, .slice none 0 0, .slice none 0 0] 28 (0, 0)) ∧ But g w w1 := by
  have b1 : Below w.heap.size w (w.alloc (.cells #[.int .i64 0, .int .u64 0, .int .i64 0, .slice none 0 0, .slice none 0 0] 28)) := (Below.refl _ _).alloc (Nat.le_refl _) _
  have b2 := b1.alloc b1.size (.cells #[.int .i64 k, .int .u64 0, .int .i64 0, .slice none 0 0, .slice none 0 0] 28)
  have hg := h.lt
  refine ⟨_, rfl, h.below b2, by simp, b2, fun w1 hb => ⟨?_, ?_, ?_⟩⟩
  · rw [hb.block _ (by simp; omega) (by simp; omega), Below.heap_alloc _ _ _ (by simp)]
    exact World.alloc_heap_new w _
  · rw [hb.block _ (by simp) (by simp; omega)]
    have := World.alloc_heap_new (w.alloc (.cells #[.int .i64 0, .int .u64 0, .int .i64 0, .slice none 0 0, .slice none 0 0] 28)) (.cells #[.int .i64 k, .int .u64 0, .int .i64 0, .slice none 0 0, .slice none 0 0] 28)
    simpa using this
  · exact ⟨hb.os.trans b2.os, hb.tape.trans b2.tape, hb.output.trans b2.output, Nat.le_trans b2.size hb.size, fun i hi hne => (hb.block i (Nat.lt_of_lt_of_le hi b2.size) hne).trans (b2.block i hi)⟩

/-- Only the blocks p and q have turned. -/
def Apart (p q : Nat) (w w' : World) : Prop := w'.os = w.os ∧ w'.tape = w.tape ∧ w'.output = w.output ∧ w'.heap.size = w.heap.size ∧ ∀ b, b ≠ p → b ≠ q → w'.heap[b]? = w.heap[b]?
theorem Apart.refl (p q : Nat) (w : World) : Apart p q w w := ⟨rfl, rfl, rfl, rfl, fun _ _ _ => rfl⟩
theorem Apart.one {p q : Nat} {w w' : World} (h : Apart p q w w') (i : Nat) (u : Value) : Apart p q w (w'.setCell ⟨p, i, none⟩ u) :=
  ⟨h.1, h.2.1, h.2.2.1, by simpa [World.setCell] using h.2.2.2.1, fun b hb hc => (Below.heap_setCell _ _ _ _ hb).trans (h.2.2.2.2 b hb hc)⟩
theorem Apart.two {p q : Nat} {w w' : World} (h : Apart p q w w') (i : Nat) (u : Value) : Apart p q w (w'.setCell ⟨q, i, none⟩ u) :=
  ⟨h.1, h.2.1, h.2.2.1, by simpa [World.setCell] using h.2.2.2.1, fun b hb hc => (Below.heap_setCell _ _ _ _ hc).trans (h.2.2.2.2 b hb hc)⟩
section
variable {B g : Nat} {w w1 W' : World} {s : St} {cs cs' : Array Value} {f f' : Nat × Nat}
theorem Apart.inAt (h : Apart w.heap.size (w.heap.size + 1) w1 W') (hi : InAt B w1 g s) (hB : B ≤ w.heap.size) (hg : g < w.heap.size) : InAt B W' g s :=
  hi.keep (h.2.2.2.2 g (by omega) (by omega)) fun b _ hb _ => h.2.2.2.2 b (by omega) (by omega)
theorem Apart.but (h : Apart w.heap.size (w.heap.size + 1) w1 W') (hb : But g w w1) : But g w W' :=
  ⟨h.1.trans hb.os, h.2.1.trans hb.tape, h.2.2.1.trans hb.output, by rw [h.2.2.2.1]; exact hb.size, fun i hi hne => (h.2.2.2.2 i (by omega) (by omega)).trans (hb.block i hi hne)⟩
theorem Apart.lst {t tv : TypeId} {k : IntKind} {n c : Nat} {A : Option Addr} {zs : List Int} {p q : Nat} (h : Apart p q w1 W') (hl : Lst t k w1.heap.size w1 A n c zs) (h1 : w1.heap[p]? = some (.cells cs tv f)) (h2 : w1.heap[q]? = some (.cells cs' tv f')) (hne : tv ≠ t) : Lst t k W'.heap.size W' A n c zs := by
  rw [h.2.2.2.1]
  exact hl.keep fun b C _ hC => h.2.2.2.2 b (fun e => heap_ne h1 hC hne e.symm) (fun e => heap_ne h2 hC hne e.symm)
end

set_option maxHeartbeats 2000000 in
theorem read_any {B : Nat} (g : Nat) (s : St) (k most : Int) (w : World) (h : InAt B w g s) (hB : B ≤ w.heap.size) (hm : I64 most) (hk : k = 0 ∨ k = 1 ∨ k = 2 ∨ k = 3) :
    Calls Try.prog 17 #[.pointer (some ⟨g, 0, none⟩), .int .i64 k, .int .i64 most] w fun e w' => ∃ v, e = .returned v ∧ VAt w'.heap.size w' (rdV k most s).1 v ∧ InAt B w' g (rdV k most s).2 ∧ But g w w' := by
  rcases hk with rfl | rfl | rfl | rfl
  · obtain ⟨W, hW, hI, hsz, hbW, hnext⟩ := read_at 0 h
    have HN := Lib.hid hnext
    have HC := Lib.hid (in_uint g s W hI)
    have HW := Lib.hid hW
    clear hnext hW hI
    go_enter Try.func17, Try.ntmps17
    go_wp2_with fail
    rw [← HW.out]
    refine HC.out.mono ?_
    rintro r w1 ⟨rfl, h1, hb⟩
    obtain ⟨n1, n2, n3⟩ := HN.out w1 hb
    obtain ⟨c0, c1, c2, c3, c4⟩ := five_c n1
    obtain ⟨d0, d1, d2, d3, d4⟩ := five_c n2
    obtain ⟨f0, f1, f2, f3, f4⟩ := five_f n1
    obtain ⟨e0, e1, e2, e3, e4⟩ := five_f n2
    go_wp2_with fail
    have hap := fun (i : Nat) (u0 u1 u2 u3 u4 u5 : Value) => ((((((Apart.refl w.heap.size (w.heap.size + 1) w1).two i u0).one 0 u1).one 1 u2).one 2 u3).one 3 u4).one 4 u5
    refine bodyPost_ret (v := .agg #[.int .i64 0, .int .u64 (rdU s).1, .int .i64 0, .slice none 0 0, .slice none 0 0]) (by simp [results, Try.results17, go_sem, *]) rfl ⟨_, rfl, ?_, (hap _ _ _ _ _ _ _).inAt h1 hB h.lt, (hap _ _ _ _ _ _ _).but n3⟩
    exact ⟨_, _, _, _, _, _, rfl, Lst.none_ _ _ _ _, Lst.none_ _ _ _ _⟩
  · obtain ⟨W, hW, hI, hsz, hbW, hnext⟩ := read_at 1 h
    have HN := Lib.hid hnext
    have HC := Lib.hid (in_int g s W hI)
    have HW := Lib.hid hW
    clear hnext hW hI
    go_enter Try.func17, Try.ntmps17
    go_wp2_with fail
    rw [← HW.out]
    refine HC.out.mono ?_
    rintro r w1 ⟨rfl, h1, hb⟩
    obtain ⟨n1, n2, n3⟩ := HN.out w1 hb
    obtain ⟨c0, c1, c2, c3, c4⟩ := five_c n1
    obtain ⟨d0, d1, d2, d3, d4⟩ := five_c n2
    obtain ⟨f0, f1, f2, f3, f4⟩ := five_f n1
    obtain ⟨e0, e1, e2, e3, e4⟩ := five_f n2
    go_wp2_with fail
    have hap := fun (i : Nat) (u0 u1 u2 u3 u4 u5 : Value) => ((((((Apart.refl w.heap.size (w.heap.size + 1) w1).two i u0).one 0 u1).one 1 u2).one 2 u3).one 3 u4).one 4 u5
    refine bodyPost_ret (v := .agg #[.int .i64 1, .int .u64 0, .int .i64 (rdI s).1, .slice none 0 0, .slice none 0 0]) (by simp [results, Try.results17, go_sem, *]) rfl ⟨_, rfl, ?_, (hap _ _ _ _ _ _ _).inAt h1 hB h.lt, (hap _ _ _ _ _ _ _).but n3⟩
    exact ⟨_, _, _, _, _, _, rfl, Lst.none_ _ _ _ _, Lst.none_ _ _ _ _⟩
  · obtain ⟨W, hW, hI, hsz, hbW, hnext⟩ := read_at 2 h
    have HN := Lib.hid hnext
    have HC := Lib.hid (in_bytes g s most W hI (by omega) hm)
    have HW := Lib.hid hW
    clear hnext hW hI
    go_enter Try.func17, Try.ntmps17
    go_wp2_with fail
    rw [← HW.out]
    refine HC.out.mono ?_
    rintro r w1 ⟨⟨A, n, c, rfl, hn, hL, -, hb⟩, h1⟩
    obtain ⟨n1, n2, n3⟩ := HN.out w1 hb
    obtain ⟨c0, c1, c2, c3, c4⟩ := five_c n1
    obtain ⟨d0, d1, d2, d3, d4⟩ := five_c n2
    obtain ⟨f0, f1, f2, f3, f4⟩ := five_f n1
    obtain ⟨e0, e1, e2, e3, e4⟩ := five_f n2
    clear hn
    go_wp2_with fail
    have hap := fun (i : Nat) (u0 u1 u2 u3 u4 u5 : Value) => ((((((Apart.refl w.heap.size (w.heap.size + 1) w1).two i u0).one 0 u1).one 1 u2).one 2 u3).one 3 u4).one 4 u5
    refine bodyPost_ret (v := .agg #[.int .i64 2, .int .u64 0, .int .i64 0, .slice A n c, .slice none 0 0]) (by simp [results, Try.results17, go_sem, *]) rfl ⟨_, rfl, ?_, (hap _ _ _ _ _ _ _).inAt h1 hB h.lt, (hap _ _ _ _ _ _ _).but n3⟩
    exact ⟨_, _, _, _, _, _, rfl, (hap _ _ _ _ _ _ _).lst hL n1 n2 (by decide), Lst.none_ _ _ _ _⟩
  · obtain ⟨W, hW, hI, hsz, hbW, hnext⟩ := read_at 3 h
    have HN := Lib.hid hnext
    have HC := Lib.hid (in_ints g s most W hI (by omega) hm)
    have HW := Lib.hid hW
    clear hnext hW hI
    go_enter Try.func17, Try.ntmps17
    go_wp2_with fail
    rw [← HW.out]
    refine HC.out.mono ?_
    rintro r w1 ⟨⟨A, n, c, rfl, hn, hL, -, hb⟩, h1⟩
    obtain ⟨n1, n2, n3⟩ := HN.out w1 hb
    obtain ⟨c0, c1, c2, c3, c4⟩ := five_c n1
    obtain ⟨d0, d1, d2, d3, d4⟩ := five_c n2
    obtain ⟨f0, f1, f2, f3, f4⟩ := five_f n1
    obtain ⟨e0, e1, e2, e3, e4⟩ := five_f n2
    clear hn
    go_wp2_with fail
    have hap := fun (i : Nat) (u0 u1 u2 u3 u4 u5 : Value) => ((((((Apart.refl w.heap.size (w.heap.size + 1) w1).two i u0).one 0 u1).one 1 u2).one 2 u3).one 3 u4).one 4 u5
    refine bodyPost_ret (v := .agg #[.int .i64 3, .int .u64 0, .int .i64 0, .slice none 0 0, .slice A n c]) (by simp [results, Try.results17, go_sem, *]) rfl ⟨_, rfl, ?_, (hap _ _ _ _ _ _ _).inAt h1 hB h.lt, (hap _ _ _ _ _ _ _).but n3⟩
    exact ⟨_, _, _, _, _, _, rfl, Lst.none_ _ _ _ _, (hap _ _ _ _ _ _ _).lst hL n1 n2 (by decide)⟩
end Go.Proofs.Ytcojbloflaeefaa
