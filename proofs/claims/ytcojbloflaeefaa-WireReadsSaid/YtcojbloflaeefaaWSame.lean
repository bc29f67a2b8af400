/-
  The reference's Same answers true for two values that are equal. Condition: lengths of which we speak.
-/
import Derived.Test.YtcojbloflaeefaaWEnc
import Derived.Test.YtcojbloflaeefaaSame
namespace Go.Proofs.Ytcojbloflaeefaa
open Go Go.RowKit

theorem sameInts_eq (A A' : Option Addr) (n n' c c' : Nat) (xs : List Int) (w : World) (hx : Ints .i64 w.heap.size w A n xs) (hy : Ints .i64 w.heap.size w A' n' xs) (hn : n ≤ 1000000) :
    Calls Try.prog 35 #[.slice A n c, .slice A' n' c'] w (Tells true w) :=
  (sameInts_any A A' n n' c c' xs xs w hx hy hn).mono fun _ _ h => by rw [decide_eq_true rfl] at h; exact h
theorem sameBytes_eq (A A' : Option Addr) (n n' c c' : Nat) (xs : List Int) (w : World) (hx : Ints .u8 w.heap.size w A n xs) (hy : Ints .u8 w.heap.size w A' n' xs) (hn : n ≤ 1000000) :
    Calls Try.prog 10 #[.slice A n c, .slice A' n' c'] w (Tells true w) :=
  (sameBytes_any A A' n n' c c' xs xs w hx hy hn).mono fun _ _ h => by rw [decide_eq_true rfl] at h; exact h

set_option maxHeartbeats 1000000 in
theorem same_any (x : V) (v v' : Value) (w : World) (h : VAt w.heap.size w x v) (h' : VAt w.heap.size w x v') (hb : x.b.length ≤ 1000000) (hl : x.l.length ≤ 1000000) :
    Calls Try.prog 16 #[v, v'] w (Tells true w) := by
  obtain ⟨bA, bn, bc, lA, ln, lc, rfl, hb1, hl1⟩ := h
  obtain ⟨bA', bn', bc', lA', ln', lc', rfl, hb2, hl2⟩ := h'
  have a1 : Below w.heap.size w (w.alloc (.cells #[.int .i64 x.kind, .int .u64 x.u, .int .i64 x.n, .slice bA bn bc, .slice lA ln lc] 28)) := (Below.refl _ _).alloc (Nat.le_refl _) _
  have a2 := a1.alloc a1.size (.cells #[.int .i64 x.kind, .int .u64 x.u, .int .i64 x.n, .slice bA' bn' bc', .slice lA' ln' lc'] 28)
  rw [hb1.len] at hb
  rw [hl1.len] at hl
  have HS := Lib.hid (sameBytes_eq bA bA' bn bn' bc bc' x.b _ ((hb1.below a2).ints.more a2.size) ((hb2.below a2).ints.more a2.size) hb)
  have hl1' := hl1.below a2
  have hl2' := hl2.below a2
  clear hb1 hb2 hl1 hl2
  go_enter Try.func16, Try.ntmps16
  go_wp2_with fail
  refine HS.out.mono ?_
  rintro e w1 ⟨rfl, hb1⟩
  have HS2 := Lib.hid (sameInts_eq lA lA' ln ln' lc lc' x.l w1 ((hl1'.below (hb1.mono a2.size)).ints.more (Nat.le_trans a2.size hb1.size)) ((hl2'.below (hb1.mono a2.size)).ints.more (Nat.le_trans a2.size hb1.size)) hl)
  have hcs : ∀ b o, b < w.heap.size + 2 → w1.cell? ⟨b, o, none⟩ = ((w.alloc (.cells #[.int .i64 x.kind, .int .u64 x.u, .int .i64 x.n, .slice bA bn bc, .slice lA ln lc] 28)).alloc (.cells #[.int .i64 x.kind, .int .u64 x.u, .int .i64 x.n, .slice bA' bn' bc', .slice lA' ln' lc'] 28)).cell? ⟨b, o, none⟩ := fun b o hb => hb1.cell (p := ⟨b, o, none⟩) (by simpa using hb)
  have c1 := hcs w.heap.size 4 (by omega)
  have c2 := hcs (w.heap.size + 1) 4 (by omega)
  clear hcs
  go_wp2_with fail
  refine HS2.out.mono ?_
  rintro e w2 ⟨rfl, hb2⟩
  go_wp2_with fail
  go_ret
  exact ⟨rfl, a2.trans ((hb1.trans (hb2.mono hb1.size)).mono a2.size)⟩
end Go.Proofs.Ytcojbloflaeefaa
