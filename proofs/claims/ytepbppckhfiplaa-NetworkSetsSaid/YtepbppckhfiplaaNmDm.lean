/-
  The comparisons of causes and messages. No condition.
-/
import Derived.Test.YtepbppckhfiplaaNmC
import Derived.Test.YtepbppckhfiplaaNmDa
namespace Go.Proofs.Ytepbppckhfiplaa
open Go Go.RowKit Go.Proofs
attribute [local go_sem] Oper.semAt_some

theorem pairsAt_two {V : World} {g : Nat} {t : TypeId} {a b c d : Int} (h : V.heap[g]? = some (.cells #[.int .i64 a, .int .i64 b, .int .i64 c, .int .i64 d] t (0, 0))) : PairsAt V g [(a, b), (c, d)] := by
  intro j x hx
  match j, hx with
  | 0, hx =>
    obtain rfl := Option.some.inj hx
    exact ⟨cell_of_row _ _ 0 _ _ (0, 0) h, cell_of_row _ _ 1 _ _ (0, 0) h⟩
  | 1, hx =>
    obtain rfl := Option.some.inj hx
    exact ⟨cell_of_row _ _ 2 _ _ (0, 0) h, cell_of_row _ _ 3 _ _ (0, 0) h⟩
  | j + 2, hx => simp at hx
theorem pairsAt_three {V : World} {g : Nat} {t : TypeId} {a b c d e f : Int} (h : V.heap[g]? = some (.cells #[.int .i64 a, .int .i64 b, .int .i64 c, .int .i64 d, .int .i64 e, .int .i64 f] t (0, 0))) : PairsAt V g [(a, b), (c, d), (e, f)] := by
  intro j x hx
  match j, hx with
  | 0, hx =>
    obtain rfl := Option.some.inj hx
    exact ⟨cell_of_row _ _ 0 _ _ (0, 0) h, cell_of_row _ _ 1 _ _ (0, 0) h⟩
  | 1, hx =>
    obtain rfl := Option.some.inj hx
    exact ⟨cell_of_row _ _ 2 _ _ (0, 0) h, cell_of_row _ _ 3 _ _ (0, 0) h⟩
  | 2, hx =>
    obtain rfl := Option.some.inj hx
    exact ⟨cell_of_row _ _ 4 _ _ (0, 0) h, cell_of_row _ _ 5 _ _ (0, 0) h⟩
  | j + 3, hx => simp at hx
theorem numbers_two {V : World} {g : Nat} {t : TypeId} {a b c d : Int} (h : V.heap[g]? = some (.cells #[.int .i64 a, .int .i64 b, .int .i64 c, .int .i64 d] t (0, 0))) :
    Calls Try.prog 33 #[.slice (some ⟨g, 0, none⟩) 2 2] V fun e w' => e = .returned (.int .i64 (NM.lexL [a, c] [b, d])) ∧ Below V.heap.size V w' :=
  numbers_any g 2 [(a, b), (c, d)] V rfl (by omega) (heap_lt h) (pairsAt_two h)
theorem numbers_three {V : World} {g : Nat} {t : TypeId} {a b c d e f : Int} (h : V.heap[g]? = some (.cells #[.int .i64 a, .int .i64 b, .int .i64 c, .int .i64 d, .int .i64 e, .int .i64 f] t (0, 0))) :
    Calls Try.prog 33 #[.slice (some ⟨g, 0, none⟩) 3 3] V fun x w' => x = .returned (.int .i64 (NM.lexL [a, c, e] [b, d, f])) ∧ Below V.heap.size V w' :=
  numbers_any g 3 [(a, b), (c, d), (e, f)] V rfl (by omega) (heap_lt h) (pairsAt_three h)
theorem or_two {V : World} {g : Nat} {t : TypeId} {x y : Int} (h : V.heap[g]? = some (.cells #[.int .i64 x, .int .i64 y] t (0, 0))) :
    Calls Try.prog 31 #[.slice (some ⟨g, 0, none⟩) 2 2] V fun e w' => e = .returned (.int .i64 (NM.orI x y)) ∧ V = w' :=
  or_any g x y V (cell_of_row _ _ 0 _ _ (0, 0) h) (cell_of_row _ _ 1 _ _ (0, 0) h)

theorem or_below {V : World} {g : Nat} {t : TypeId} {x y : Int} (h : V.heap[g]? = some (.cells #[.int .i64 x, .int .i64 y] t (0, 0))) :
    Calls Try.prog 31 #[.slice (some ⟨g, 0, none⟩) 2 2] V fun e w' => e = .returned (.int .i64 (NM.orI x y)) ∧ Below V.heap.size V w' :=
  (or_two h).mono fun _ _ ⟨he, hw⟩ => ⟨he, hw ▸ Below.refl _ _⟩
set_option maxHeartbeats 1000000 in
set_option maxRecDepth 100000 in
theorem cause_any (c h t c' h' t' : Int) (w : World) : Calls Try.prog 32 #[cV c h t, cV c' h' t'] w fun e w' => e = .returned (.int .i64 (NM.lexL [c, h, t] [c', h', t'])) ∧ Below w.heap.size w w' := by
  go_enter Try.func32, Try.ntmps32
  go_wp2_with fail
  refine (numbers_three (new_at (by simp))).mono ?_
  rintro e w1 ⟨rfl, hb⟩
  have HB := Lib.hid hb
  clear hb
  go_wp2_with fail
  go_ret
  exact ⟨rfl, ((((Below.refl _ _).alloc (Nat.le_refl _) _).alloc (by simp) _).alloc (by simp; omega) _).trans (HB.out.mono (by simp; omega))⟩
theorem row8 {V : World} {g : Nat} {t : TypeId} {x0 x1 x2 x3 x4 x5 x6 x7 : Value} (h : V.heap[g]? = some (.cells #[x0, x1, x2, x3, x4, x5, x6, x7] t (0, 0))) : V.cell? ⟨g, 0, none⟩ = some x0 ∧ V.cell? ⟨g, 1, none⟩ = some x1 ∧ V.cell? ⟨g, 2, none⟩ = some x2 ∧ V.cell? ⟨g, 3, none⟩ = some x3 ∧ V.cell? ⟨g, 4, none⟩ = some x4 ∧ V.cell? ⟨g, 5, none⟩ = some x5 ∧ V.cell? ⟨g, 6, none⟩ = some x6 ∧ V.cell? ⟨g, 7, none⟩ = some x7 :=
  ⟨cell_of_row _ _ 0 _ _ (0, 0) h, cell_of_row _ _ 1 _ _ (0, 0) h, cell_of_row _ _ 2 _ _ (0, 0) h, cell_of_row _ _ 3 _ _ (0, 0) h, cell_of_row _ _ 4 _ _ (0, 0) h, cell_of_row _ _ 5 _ _ (0, 0) h, cell_of_row _ _ 6 _ _ (0, 0) h, cell_of_row _ _ 7 _ _ (0, 0) h⟩
set_option maxHeartbeats 4000000 in
set_option maxRecDepth 100000 in
theorem cmpMsg_any (a b : NM.Ms) (w : World) : Calls Try.prog 25 #[msV a, msV b] w fun e w' => e = .returned (.int .i64 (NM.lexL (NM.msL a) (NM.msL b))) ∧ Below w.heap.size w w' := by
  obtain ⟨c, h, t, i, p⟩ := a
  obtain ⟨c', h', t', i', p'⟩ := b
  have e : NM.lexL (NM.msL ⟨c, h, t, i, p⟩) (NM.msL ⟨c', h', t', i', p'⟩) = NM.orI (NM.lexL [c, h, t] [c', h', t']) (NM.lexL [i, p] [i', p']) := NM.lexL_append [c, h, t] [c', h', t'] [i, p] [i', p'] rfl
  have HC := Lib.hid (fun V => cause_any c h t c' h' t' V)
  obtain ⟨x, hx⟩ : ∃ x, NM.lexL [c, h, t] [c', h', t'] = x := ⟨_, rfl⟩
  obtain ⟨y, hy⟩ : ∃ y, NM.lexL [i, p] [i', p'] = y := ⟨_, rfl⟩
  rw [hx] at HC e
  rw [hy] at e
  have HY := Lib.hid hy
  have HR := Lib.hid e
  clear hx hy e
  obtain ⟨U, hU, hb, k1, k2, hlt⟩ := two_boxes w (.cells #[.int .i64 c, .int .i64 h, .int .i64 t, .int .i64 i, .int .i64 p] 26) (.cells #[.int .i64 c', .int .i64 h', .int .i64 t', .int .i64 i', .int .i64 p'] 26)
  have hl0 : w.heap.size < U.heap.size := by omega
  have HK := Lib.hid (show ∀ V, Below U.heap.size U V → V.cell? ⟨w.heap.size, 0, none⟩ = some (.int .i64 c) ∧ V.cell? ⟨w.heap.size, 1, none⟩ = some (.int .i64 h) ∧ V.cell? ⟨w.heap.size, 2, none⟩ = some (.int .i64 t) ∧ V.cell? ⟨w.heap.size, 3, none⟩ = some (.int .i64 i) ∧ V.cell? ⟨w.heap.size, 4, none⟩ = some (.int .i64 p) ∧ V.cell? ⟨w.heap.size + 1, 0, none⟩ = some (.int .i64 c') ∧ V.cell? ⟨w.heap.size + 1, 1, none⟩ = some (.int .i64 h') ∧ V.cell? ⟨w.heap.size + 1, 2, none⟩ = some (.int .i64 t') ∧ V.cell? ⟨w.heap.size + 1, 3, none⟩ = some (.int .i64 i') ∧ V.cell? ⟨w.heap.size + 1, 4, none⟩ = some (.int .i64 p') from by
    intro V B
    obtain ⟨a0, a1, a2, a3, a4⟩ := row5 k1
    obtain ⟨b0, b1, b2, b3, b4⟩ := row5 k2
    exact ⟨(B.cell (p := ⟨w.heap.size, 0, none⟩) hl0).trans a0, (B.cell (p := ⟨w.heap.size, 1, none⟩) hl0).trans a1, (B.cell (p := ⟨w.heap.size, 2, none⟩) hl0).trans a2, (B.cell (p := ⟨w.heap.size, 3, none⟩) hl0).trans a3, (B.cell (p := ⟨w.heap.size, 4, none⟩) hl0).trans a4, (B.cell (p := ⟨w.heap.size + 1, 0, none⟩) hlt).trans b0, (B.cell (p := ⟨w.heap.size + 1, 1, none⟩) hlt).trans b1, (B.cell (p := ⟨w.heap.size + 1, 2, none⟩) hlt).trans b2, (B.cell (p := ⟨w.heap.size + 1, 3, none⟩) hlt).trans b3, (B.cell (p := ⟨w.heap.size + 1, 4, none⟩) hlt).trans b4⟩)
  have HU := Lib.hid hU
  have HB := Lib.hid hb
  clear hU hb k1 k2
  have B : Below U.heap.size U U := Below.refl _ _
  go_enter Try.func25, Try.ntmps25
  go_wp2_with fail
  rw [HU.out]
  clear HU
  go_region_held3 (fun V => V.cell? ⟨w.heap.size, 0, none⟩ = some (.int .i64 c) ∧ V.cell? ⟨w.heap.size, 1, none⟩ = some (.int .i64 h) ∧ V.cell? ⟨w.heap.size, 2, none⟩ = some (.int .i64 t) ∧ V.cell? ⟨w.heap.size, 3, none⟩ = some (.int .i64 i) ∧ V.cell? ⟨w.heap.size, 4, none⟩ = some (.int .i64 p) ∧ V.cell? ⟨w.heap.size + 1, 0, none⟩ = some (.int .i64 c') ∧ V.cell? ⟨w.heap.size + 1, 1, none⟩ = some (.int .i64 h') ∧ V.cell? ⟨w.heap.size + 1, 2, none⟩ = some (.int .i64 t') ∧ V.cell? ⟨w.heap.size + 1, 3, none⟩ = some (.int .i64 i') ∧ V.cell? ⟨w.heap.size + 1, 4, none⟩ = some (.int .i64 p'))
    (first | exact HK.out _ B | exact HK.out _ (B.alloc B.size _) | exact HK.out _ B.drew | exact HK.out _ (B.drew.alloc B.size _))
    (first
      | (go_at_call 32; ((with_reducible refine (HC.out _).mono ?_); rintro e w5 ⟨rfl, hb⟩); (first | (have B := B.trans (hb.mono B.size)) | (have B := B.drew.trans (hb.mono B.size)) | (have K1 : Hid (w5.heap[U.heap.size]? = some (.cells #[.int .i64 i, .int .i64 i', .int .i64 p, .int .i64 p'] 62 (0, 0))) := (hb.block U.heap.size (by simp)).trans (new_at (by simp)); (first | (have B := (B.alloc B.size _).trans (hb.mono (by simp))) | (have B := (B.drew.alloc B.size _).trans (hb.mono (by simp)))))); clear hb)
      | (go_at_call 33; (first | (refine (numbers_two (new_at (by simp))).mono ?_; rintro e w5 ⟨rfl, hb⟩; rw [HY.out]; (first | (have B := (B.alloc B.size _).trans (hb.mono (by have := B.size; simp; try omega))) | (have B := (B.drew.alloc B.size _).trans (hb.mono (by have := B.size; simp; try omega))) | (have B := (B.alloc B.size _).drew.trans (hb.mono (by have := B.size; simp; try omega)))); clear hb) | (refine (numbers_two K1.out).mono ?_; rintro e w5 ⟨rfl, hb⟩; rw [HY.out]; have B := B.trans (hb.mono B.size); clear hb)))
      | (go_at_call 31; (refine (or_below (new_at (by simp))).mono ?_; rintro e w5 ⟨rfl, hb⟩); (first | (have B := (B.alloc B.size _).trans (hb.mono (by have := B.size; simp; try omega))) | (have B := (B.drew.alloc B.size _).trans (hb.mono (by have := B.size; simp; try omega))) | (have B := (B.alloc B.size _).drew.trans (hb.mono (by have := B.size; simp; try omega)))); clear hb))
  all_goals
    go_wp2_with fail
    go_ret
    exact ⟨by rw [HR.out]; rfl, HB.out.trans (B.mono HB.out.size)⟩
end Go.Proofs.Ytepbppckhfiplaa
