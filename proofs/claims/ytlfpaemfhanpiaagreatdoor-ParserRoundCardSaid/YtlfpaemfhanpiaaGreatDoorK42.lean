/-
  The library's sort of no handlers. No condition.
  The law's examples: lives. Conditions: the library's variables; the library's sort.
-/
import Derived.Test.YtlfpaemfhanpiaaGreatDoorK41
import Derived.Shelf.SlSortCmp.NoneTotal
import Derived.Test.YtlfpaemfhanpiaaGreatDoorK32

namespace Go.Proofs.YtlfpaemfhanpiaaGreatDoor
open Go Go.RowKit Go.Sort Go.Proofs Go.Lib

theorem shNone : ShNone := by
  intro A c w
  exact AnyF.slices_SortFunc_none { Tryz.sortHd with } A c _ w
end Go.Proofs.YtlfpaemfhanpiaaGreatDoor

namespace Go.Proofs.YtlfpaemfhanpiaaGreatDoor
open Go Go.RowKit Go.Proofs Go.Proofs.YtlfpaemfhanpiaaGreatDoor.LX
attribute [local go_sem] Oper.semAt_some

/-- Parse at whatever world lies above w, where the library's variables stand. -/
theorem Parse_any (s : ByteArray) (hs : s.size ≤ 1000000000) (w : World) (hE : ErrV w) : Calls Tryz.prog 15 #[.string s] w (PaRes w (PS.parse (bsOf s))) :=
  parse_any (fun tb g mb mv mo => sortsH_of shSort shNone tb g mb mv mo) s hs w hE
theorem ex1 : ∃ b, PS.parse (bsOf ⟨#[111, 110, 32, 115, 116, 97, 114, 116, 123, 120, 61, 49, 59, 125]⟩) = .ok ⟨[], [], [b]⟩ := ⟨_, rfl⟩
theorem ex2 : PS.parse (bsOf ⟨#[100, 117, 114, 97, 98, 108, 101, 32, 120, 44, 120, 59]⟩) = .err 10 4 := rfl
theorem ex3 : PS.parse (bsOf ⟨#[111, 110, 32, 116, 105, 109, 101, 114, 32, 56, 123, 125]⟩) = .err 9 6 := rfl
set_option maxRecDepth 100000 in
set_option maxHeartbeats 4000000 in
theorem lives_any (w : World) (hE : ErrV w) : Calls Tryz.prog 9 #[] w fun e w' => e = .returned (.bool true) ∧ Below w.heap.size w w' := by
  have H1 := Lib.hid (show Calls Tryz.prog 15 #[.string ⟨#[111, 110, 32, 115, 116, 97, 114, 116, 123, 120, 61, 49, 59, 125]⟩] w fun e w' => (∃ (A B C : Option Addr) (a b c a' b' : Nat), e = .returned (.tuple #[.agg #[.slice A a a', .slice B b b', .slice C 1 c], .int .i64 0, .int .i64 0])) ∧ Below w.heap.size w w' from (Parse_any _ (by decide) w hE).mono (by
    obtain ⟨t, ht⟩ := ex1
    rw [ht]
    rintro e w' ⟨hb, v, rfl, x, y, A, c, cs, rfl, hx, hy, _⟩
    obtain ⟨Ax, cx, rfl, _⟩ := hx.form
    obtain ⟨Ay, cy, rfl, _⟩ := hy.form
    exact ⟨⟨Ax, Ay, A, _, _, c, cx, cy, rfl⟩, hb⟩))
  have H2 := Lib.hid (show ∀ W, ErrV W → Calls Tryz.prog 15 #[.string ⟨#[100, 117, 114, 97, 98, 108, 101, 32, 120, 44, 120, 59]⟩] W fun e w' => e = .returned (.tuple #[.agg #[.slice none 0 0, .slice none 0 0, .slice none 0 0], .int .i64 10, .int .i64 4]) ∧ Below W.heap.size W w' from fun W h => (Parse_any _ (by decide) W h).mono (by
    rw [ex2]
    rintro e w' ⟨hb, rfl⟩
    exact ⟨rfl, hb⟩))
  have H3 := Lib.hid (show ∀ W, ErrV W → Calls Tryz.prog 15 #[.string ⟨#[111, 110, 32, 116, 105, 109, 101, 114, 32, 56, 123, 125]⟩] W fun e w' => e = .returned (.tuple #[.agg #[.slice none 0 0, .slice none 0 0, .slice none 0 0], .int .i64 9, .int .i64 6]) ∧ Below W.heap.size W w' from fun W h => (Parse_any _ (by decide) W h).mono (by
    rw [ex3]
    rintro e w' ⟨hb, rfl⟩
    exact ⟨rfl, hb⟩))
  have HE := Lib.hid hE
  clear hE
  go_enter Tryz.func9, Tryz.ntmps9
  go_wp2_with fail
  refine H1.out.mono ?_
  clear H1
  rintro e w1 ⟨⟨A, B, C, a, b, c, a', b', rfl⟩, hb1⟩
  have K1 := Lib.hid (hb1.alloc (o := .cells #[.slice A a a', .slice B b b', .slice C 1 c] 26) hb1.size)
  have z1 := hb1.size
  have hbx := World.alloc_heap_new w1 (.cells #[.slice A a a', .slice B b b', .slice C 1 c] 26)
  have HX := Lib.hid hbx
  have S1 : (w1.alloc (.cells #[.slice A a a', .slice B b b', .slice C 1 c] 26)).heap.size = w1.heap.size + 1 := World.size_alloc _ _
  clear hb1 hbx
  go_wp2_with fail
  obtain ⟨W1, hW1⟩ : ∃ U, w1.alloc (.cells #[.slice A a a', .slice B b b', .slice C 1 c] 26) = U := ⟨_, rfl⟩
  rw [hW1] at K1 HX S1 ⊢
  refine (H2.out _ (HE.out.keep K1.out)).mono ?_
  clear H2 hW1
  rintro e w2 ⟨rfl, hb2⟩
  have z2 := hb2.size
  have K2 := Lib.hid ((K1.out.trans (hb2.mono (by omega))).alloc (o := .cells #[.slice none 0 0, .slice none 0 0, .slice none 0 0] 26) (by omega))
  have HX2 := Lib.hid ((hb2.block _ (by omega)).trans HX.out)
  have S2 : (w2.alloc (.cells #[.slice none 0 0, .slice none 0 0, .slice none 0 0] 26)).heap.size = w2.heap.size + 1 := World.size_alloc _ _
  have HX3 := Lib.hid ((Below.heap_alloc w2 (.cells #[.slice none 0 0, .slice none 0 0, .slice none 0 0] 26) _ (show w1.heap.size < w2.heap.size by omega)).trans HX2.out)
  clear hb2
  go_wp2_with fail
  obtain ⟨W2, hW2⟩ : ∃ U, w2.alloc (.cells #[.slice none 0 0, .slice none 0 0, .slice none 0 0] 26) = U := ⟨_, rfl⟩
  rw [hW2] at K2 HX3 S2 ⊢
  refine (H3.out _ (HE.out.keep K2.out)).mono ?_
  clear H3 hW2
  rintro e w3 ⟨rfl, hb3⟩
  have z3 := hb3.size
  have K3 := Lib.hid ((K2.out.trans (hb3.mono (by omega))).alloc (o := .cells #[.slice none 0 0, .slice none 0 0, .slice none 0 0] 26) (by omega))
  have hX4 := (hb3.block _ (show w1.heap.size < W2.heap.size by omega)).trans HX3.out
  have e2 : (w3.alloc (.cells #[.slice none 0 0, .slice none 0 0, .slice none 0 0] 26)).cell? ⟨w1.heap.size, 2, none⟩ = some (.slice C 1 c) := cell_of_row _ _ 2 _ _ (0, 0) ((Below.heap_alloc w3 _ _ (by omega)).trans hX4)
  clear hb3 hX4
  go_wp2_with fail
  go_ret
  exact ⟨rfl, K3.out⟩
end Go.Proofs.YtlfpaemfhanpiaaGreatDoor
