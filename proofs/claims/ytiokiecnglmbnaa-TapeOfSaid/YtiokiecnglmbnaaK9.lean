/-
  The order of questions, with exact worlds behind it: what is below stands, and no draw is taken back. No condition.
-/
import Derived.Test.YtiokiecnglmbnaaK8
import Derived.Test.YtiokiecnglmbnaaK3
import Derived.Sort.Grow

namespace Go.Proofs.Ytiokiecnglmbnaa
open Go Go.RowKit Go.Sort Go.Proofs
attribute [local go_sem] Oper.semAt_some

/-- As Below, and no draw is taken back. -/
def Bd (B : Nat) (w w' : World) : Prop := Below B w w' ∧ w.drawn ≤ w'.drawn
theorem Bd.refl (B : Nat) (w : World) : Bd B w w := ⟨Below.refl B w, Nat.le_refl _⟩
theorem Bd.trans {B : Nat} {a b c : World} (h : Bd B a b) (k : Bd B b c) : Bd B a c := ⟨h.1.trans k.1, Nat.le_trans h.2 k.2⟩
theorem Bd.mono {B B' : Nat} {w w' : World} (h : Bd B w w') (hB : B' ≤ B) : Bd B' w w' := ⟨h.1.mono hB, h.2⟩
theorem Bd.drew {B : Nat} {a w : World} (h : Bd B a w) : Bd B a w.drew := ⟨h.1.drew, Nat.le_trans h.2 (Nat.le_succ _)⟩
theorem Bd.alloc {B : Nat} {a w : World} (h : Bd B a w) (hB : B ≤ w.heap.size) (o : Obj) : Bd B a (w.alloc o) := ⟨h.1.alloc hB o, h.2⟩
theorem Bd.size {B : Nat} {w w' : World} (h : Bd B w w') : w.heap.size ≤ w'.heap.size := h.1.size
theorem Bd.cell {B : Nat} {w w' : World} (h : Bd B w w') {p : Addr} (hp : p.block < B) : w'.cell? p = w.cell? p := h.1.cell hp
theorem Bd.block {B : Nat} {w w' : World} (h : Bd B w w') (k : Nat) (hk : k < B) : w'.heap[k]? = w.heap[k]? := h.1.block k hk
/-- Behind such a call the world is the old one, some draws and some new blocks later. -/
theorem Bd.exact {w w' : World} (h : Bd w.heap.size w w') : ∃ q os, w' = grow (w.drewN q) os := by
  obtain ⟨⟨h1, h2, h3, h4, h5⟩, h6⟩ := h
  refine ⟨w'.drawn - w.drawn, w'.heap.extract w.heap.size w'.heap.size, ?_⟩
  have hh : w'.heap = w.heap ++ w'.heap.extract w.heap.size w'.heap.size := by
    apply Array.ext_getElem?
    intro i
    by_cases hi : i < w.heap.size
    · rw [Array.getElem?_append_left hi, h5 i hi]
    · rw [Array.getElem?_append_right (by omega), Array.getElem?_extract]
      by_cases hj : i < w'.heap.size
      · rw [if_pos (by omega), show w.heap.size + (i - w.heap.size) = i by omega]
      · rw [if_neg (by omega), Array.getElem?_eq_none (by omega)]
  obtain ⟨hp, tp, dr, o, out⟩ := w'
  obtain ⟨hp', tp', dr', o', out'⟩ := w
  simp only at *
  subst h1
  subst h2
  subst h3
  have hd : dr = dr' + (dr - dr') := by omega
  show World.mk hp tp dr o out = World.mk (hp' ++ hp.extract hp'.size hp.size) tp (dr' + (dr - dr')) o out
  rw [← hd, ← hh]
theorem two_boxesD (w : World) (A B : Obj) : ∃ U, (w.alloc A).alloc B = U ∧ Bd w.heap.size w U ∧ U.heap[w.heap.size]? = some A ∧ U.heap[w.heap.size + 1]? = some B ∧ w.heap.size + 1 < U.heap.size := by
  refine ⟨_, rfl, ((Bd.refl _ _).alloc (Nat.le_refl _) _).alloc (by simp) _, ?_, new_at (by simp), by simp⟩
  rw [Below.heap_alloc _ _ _ (by simp)]
  exact new_at rfl
set_option maxRecDepth 100000 in
set_option maxHeartbeats 4000000 in
theorem numbersD_any (g n : Nat) (l : List (Int × Int)) (w : World) (hl : l.length = n) (hn : n ≤ 1000) (hg : g < w.heap.size) (h : PairsAt w g l) :
    Calls Try.prog 65 #[.slice (some ⟨g, 0, none⟩) n n] w fun e w' => e = .returned (.int .i64 (prL l)) ∧ Bd w.heap.size w w' := by
  have HL := Lib.hid hl
  have HP := Lib.hid h
  clear hl h
  go_enter Try.func65, Try.ntmps65
  go_wp2_with fail
  go_loopw [8] (fun i V => ∃ k : Nat, k ≤ n ∧ i = .int .i64 (k : Int) ∧ Hid (prL l = prL (l.drop k)) ∧ Bd w.heap.size w V) (fun i _ => n - (intOf i).toNat)
  case atStart => exact ⟨0, by omega, rfl, rfl, Bd.refl _ _⟩
  case round =>
    obtain ⟨k, hk, rfl, hpr, hB⟩ := hrel
    by_cases hlt : k < n
    · obtain ⟨x, hx⟩ : ∃ x, l[k]? = some x := ⟨_, List.getElem?_eq_getElem (by rw [HL.out]; exact hlt)⟩
      obtain ⟨c0, c1⟩ := HP.out k x hx
      have d0 := (hB.cell (p := ⟨g, k * 2, none⟩) hg).trans c0
      have d1 := (hB.cell (p := ⟨g, k * 2 + 1, none⟩) hg).trans c1
      have hstep := prL_drop hx
      obtain ⟨xa, xb⟩ := x
      have d0 : wr.cell? ⟨g, k * 2, none⟩ = some (.int .i64 xa) := d0
      have d1 : wr.cell? ⟨g, k * 2 + 1, none⟩ = some (.int .i64 xb) := d1
      have hstep : prL (l.drop k) = NM.orI (NM.cmpI xa xb) (prL (l.drop (k + 1))) := hstep
      have HC := Lib.hid (fun V => cmp_any xa xb V)
      obtain ⟨c, hc⟩ : ∃ c, NM.cmpI xa xb = c := ⟨_, rfl⟩
      rw [hc] at HC hstep
      have HS := Lib.hid hstep
      have HB2 := Lib.hid (hB.alloc hB.size (.cells #[.int .i64 xa, .int .i64 xb] 113))
      clear hx c0 c1 hstep hc
      by_cases hz : c = 0
      · subst hz
        have HE : Hid (prL l = prL (l.drop (k + 1))) := by
          have := HS.out
          unfold NM.orI at this
          rw [if_pos rfl] at this
          exact hpr.out.trans this
        go_wp2_with (go_at_call 87; refine (HC.out _).mono ?_; rintro e wc ⟨rfl, hwc⟩; have hwc := hwc.symm; subst hwc)
        go_roundw
        case rel => exact ⟨k + 1, by omega, by go_num, HE.out, HB2.out⟩
        case measure => simp [intOf]; omega
      · have hn1 : (c != 0) = true := by simp [hz]
        have HE : Hid (prL l = c) := by
          have := HS.out
          unfold NM.orI at this
          rw [if_neg hz] at this
          exact hpr.out.trans this
        clear hz
        go_wp2_with (go_at_call 87; refine (HC.out _).mono ?_; rintro e wc ⟨rfl, hwc⟩; have hwc := hwc.symm; subst hwc)
        go_ret
        exact ⟨by rw [HE.out]; rfl, HB2.out⟩
    · have HE : Hid (prL l = 0) := by
        have := hpr.out
        rw [List.drop_of_length_le (by rw [HL.out]; omega)] at this
        exact this
      go_wp2_with fail
      go_ret
      exact ⟨by rw [HE.out]; rfl, hB⟩
theorem pairsAt_two {V : World} {g : Nat} {t : TypeId} {a b c d : Int} (h : V.heap[g]? = some (.cells #[.int .i64 a, .int .i64 b, .int .i64 c, .int .i64 d] t (0, 0))) : PairsAt V g [(a, b), (c, d)] := by
  intro j x hx
  match j, hx with
  | 0, hx =>
    obtain rfl := Option.some.inj hx
    exact ⟨cell_of_row _ _ 0 _ _ (0, 0) h, cell_of_row _ _ 1 _ _ (0, 0) h⟩
  | 1, hx =>
    obtain rfl := Option.some.inj hx
    exact ⟨cell_of_row _ _ 2 _ _ (0, 0) h, cell_of_row _ _ 3 _ _ (0, 0) h⟩
  | j + 2, hx => simp at hx
theorem pairsAt_three {V : World} {g : Nat} {t : TypeId} {a b c d e f : Int} (h : V.heap[g]? = some (.cells #[.int .i64 a, .int .i64 b, .int .i64 c, .int .i64 d, .int .i64 e, .int .i64 f] t (0, 0))) : PairsAt V g [(a, b), (c, d), (e, f)] := by
  intro j x hx
  match j, hx with
  | 0, hx =>
    obtain rfl := Option.some.inj hx
    exact ⟨cell_of_row _ _ 0 _ _ (0, 0) h, cell_of_row _ _ 1 _ _ (0, 0) h⟩
  | 1, hx =>
    obtain rfl := Option.some.inj hx
    exact ⟨cell_of_row _ _ 2 _ _ (0, 0) h, cell_of_row _ _ 3 _ _ (0, 0) h⟩
  | 2, hx =>
    obtain rfl := Option.some.inj hx
    exact ⟨cell_of_row _ _ 4 _ _ (0, 0) h, cell_of_row _ _ 5 _ _ (0, 0) h⟩
  | j + 3, hx => simp at hx
theorem numbersD_two {V : World} {g : Nat} {t : TypeId} {a b c d : Int} (h : V.heap[g]? = some (.cells #[.int .i64 a, .int .i64 b, .int .i64 c, .int .i64 d] t (0, 0))) :
    Calls Try.prog 65 #[.slice (some ⟨g, 0, none⟩) 2 2] V fun e w' => e = .returned (.int .i64 (NM.lexL [a, c] [b, d])) ∧ Bd V.heap.size V w' :=
  numbersD_any g 2 [(a, b), (c, d)] V rfl (by omega) (heap_lt h) (pairsAt_two h)
theorem numbersD_three {V : World} {g : Nat} {t : TypeId} {a b c d e f : Int} (h : V.heap[g]? = some (.cells #[.int .i64 a, .int .i64 b, .int .i64 c, .int .i64 d, .int .i64 e, .int .i64 f] t (0, 0))) :
    Calls Try.prog 65 #[.slice (some ⟨g, 0, none⟩) 3 3] V fun x w' => x = .returned (.int .i64 (NM.lexL [a, c, e] [b, d, f])) ∧ Bd V.heap.size V w' :=
  numbersD_any g 3 [(a, b), (c, d), (e, f)] V rfl (by omega) (heap_lt h) (pairsAt_three h)
theorem or_two {V : World} {g : Nat} {t : TypeId} {x y : Int} (h : V.heap[g]? = some (.cells #[.int .i64 x, .int .i64 y] t (0, 0))) :
    Calls Try.prog 63 #[.slice (some ⟨g, 0, none⟩) 2 2] V fun e w' => e = .returned (.int .i64 (NM.orI x y)) ∧ V = w' :=
  or_any g x y V (cell_of_row _ _ 0 _ _ (0, 0) h) (cell_of_row _ _ 1 _ _ (0, 0) h)

theorem orD_below {V : World} {g : Nat} {t : TypeId} {x y : Int} (h : V.heap[g]? = some (.cells #[.int .i64 x, .int .i64 y] t (0, 0))) :
    Calls Try.prog 63 #[.slice (some ⟨g, 0, none⟩) 2 2] V fun e w' => e = .returned (.int .i64 (NM.orI x y)) ∧ Bd V.heap.size V w' :=
  (or_two h).mono fun _ _ ⟨he, hw⟩ => ⟨he, hw ▸ Bd.refl _ _⟩
set_option maxHeartbeats 1000000 in
set_option maxRecDepth 100000 in
theorem causeD_any (c h t c' h' t' : Int) (w : World) : Calls Try.prog 64 #[cV c h t, cV c' h' t'] w fun e w' => e = .returned (.int .i64 (NM.lexL [c, h, t] [c', h', t'])) ∧ Bd w.heap.size w w' := by
  go_enter Try.func64, Try.ntmps64
  go_wp2_with fail
  refine (numbersD_three (new_at (by simp))).mono ?_
  rintro e w1 ⟨rfl, hb⟩
  have HB := Lib.hid hb
  clear hb
  go_wp2_with fail
  go_ret
  exact ⟨rfl, ((((Bd.refl _ _).alloc (Nat.le_refl _) _).alloc (by simp) _).alloc (by simp; omega) _).trans (HB.out.mono (by simp; omega))⟩
set_option maxHeartbeats 4000000 in
set_option maxRecDepth 100000 in
theorem cmpQueD_any (a b : NM.Qu) (w : World) : Calls Try.prog 39 #[quV a, quV b] w fun e w' => e = .returned (.int .i64 (NM.lexL (NM.quL a) (NM.quL b))) ∧ Bd w.heap.size w w' := by
  obtain ⟨c, h, t, k, i⟩ := a
  obtain ⟨c', h', t', k', i'⟩ := b
  have e : NM.lexL (NM.quL ⟨c, h, t, k, i⟩) (NM.quL ⟨c', h', t', k', i'⟩) = NM.orI (NM.lexL [c, h, t] [c', h', t']) (NM.lexL [k, i] [k', i']) := NM.lexL_append [c, h, t] [c', h', t'] [k, i] [k', i'] rfl
  have HC := Lib.hid (fun V => causeD_any c h t c' h' t' V)
  obtain ⟨x, hx⟩ : ∃ x, NM.lexL [c, h, t] [c', h', t'] = x := ⟨_, rfl⟩
  obtain ⟨y, hy⟩ : ∃ y, NM.lexL [k, i] [k', i'] = y := ⟨_, rfl⟩
  rw [hx] at HC e
  rw [hy] at e
  have HY := Lib.hid hy
  have HR := Lib.hid e
  clear hx hy e
  obtain ⟨U, hU, hb, k1, k2, hlt⟩ := two_boxesD w (.cells #[.int .i64 c, .int .i64 h, .int .i64 t, .int .i64 k, .int .i64 i] 30) (.cells #[.int .i64 c', .int .i64 h', .int .i64 t', .int .i64 k', .int .i64 i'] 30)
  have hl0 : w.heap.size < U.heap.size := by omega
  have HK := Lib.hid (show ∀ V, Bd U.heap.size U V → V.cell? ⟨w.heap.size, 0, none⟩ = some (.int .i64 c) ∧ V.cell? ⟨w.heap.size, 1, none⟩ = some (.int .i64 h) ∧ V.cell? ⟨w.heap.size, 2, none⟩ = some (.int .i64 t) ∧ V.cell? ⟨w.heap.size, 3, none⟩ = some (.int .i64 k) ∧ V.cell? ⟨w.heap.size, 4, none⟩ = some (.int .i64 i) ∧ V.cell? ⟨w.heap.size + 1, 0, none⟩ = some (.int .i64 c') ∧ V.cell? ⟨w.heap.size + 1, 1, none⟩ = some (.int .i64 h') ∧ V.cell? ⟨w.heap.size + 1, 2, none⟩ = some (.int .i64 t') ∧ V.cell? ⟨w.heap.size + 1, 3, none⟩ = some (.int .i64 k') ∧ V.cell? ⟨w.heap.size + 1, 4, none⟩ = some (.int .i64 i') from by
    intro V B
    obtain ⟨a0, a1, a2, a3, a4⟩ := row5 k1
    obtain ⟨b0, b1, b2, b3, b4⟩ := row5 k2
    exact ⟨(B.cell (p := ⟨w.heap.size, 0, none⟩) hl0).trans a0, (B.cell (p := ⟨w.heap.size, 1, none⟩) hl0).trans a1, (B.cell (p := ⟨w.heap.size, 2, none⟩) hl0).trans a2, (B.cell (p := ⟨w.heap.size, 3, none⟩) hl0).trans a3, (B.cell (p := ⟨w.heap.size, 4, none⟩) hl0).trans a4, (B.cell (p := ⟨w.heap.size + 1, 0, none⟩) hlt).trans b0, (B.cell (p := ⟨w.heap.size + 1, 1, none⟩) hlt).trans b1, (B.cell (p := ⟨w.heap.size + 1, 2, none⟩) hlt).trans b2, (B.cell (p := ⟨w.heap.size + 1, 3, none⟩) hlt).trans b3, (B.cell (p := ⟨w.heap.size + 1, 4, none⟩) hlt).trans b4⟩)
  have HU := Lib.hid hU
  have HB := Lib.hid hb
  clear hU hb k1 k2
  have B : Bd U.heap.size U U := Bd.refl _ _
  go_enter Try.func39, Try.ntmps39
  go_wp2_with fail
  rw [HU.out]
  clear HU
  go_region_held3 (fun V => V.cell? ⟨w.heap.size, 0, none⟩ = some (.int .i64 c) ∧ V.cell? ⟨w.heap.size, 1, none⟩ = some (.int .i64 h) ∧ V.cell? ⟨w.heap.size, 2, none⟩ = some (.int .i64 t) ∧ V.cell? ⟨w.heap.size, 3, none⟩ = some (.int .i64 k) ∧ V.cell? ⟨w.heap.size, 4, none⟩ = some (.int .i64 i) ∧ V.cell? ⟨w.heap.size + 1, 0, none⟩ = some (.int .i64 c') ∧ V.cell? ⟨w.heap.size + 1, 1, none⟩ = some (.int .i64 h') ∧ V.cell? ⟨w.heap.size + 1, 2, none⟩ = some (.int .i64 t') ∧ V.cell? ⟨w.heap.size + 1, 3, none⟩ = some (.int .i64 k') ∧ V.cell? ⟨w.heap.size + 1, 4, none⟩ = some (.int .i64 i'))
    (first | exact HK.out _ B | exact HK.out _ (B.alloc B.size _) | exact HK.out _ B.drew | exact HK.out _ (B.drew.alloc B.size _))
    (first
      | (go_at_call 64; ((with_reducible refine (HC.out _).mono ?_); rintro e w5 ⟨rfl, hb⟩); (first | (have B := B.trans (hb.mono B.size)) | (have B := B.drew.trans (hb.mono B.size)) | (have K1 : Hid (w5.heap[U.heap.size]? = some (.cells #[.int .i64 k, .int .i64 k', .int .i64 i, .int .i64 i'] 113 (0, 0))) := (hb.block U.heap.size (by simp)).trans (new_at (by simp)); (first | (have B := (B.alloc B.size _).trans (hb.mono (by simp))) | (have B := (B.drew.alloc B.size _).trans (hb.mono (by simp)))))); clear hb)
      | (go_at_call 65; (first | (refine (numbersD_two (new_at (by simp))).mono ?_; rintro e w5 ⟨rfl, hb⟩; rw [HY.out]; (first | (have B := (B.alloc B.size _).trans (hb.mono (by have := B.size; simp; try omega))) | (have B := (B.drew.alloc B.size _).trans (hb.mono (by have := B.size; simp; try omega))) | (have B := (B.alloc B.size _).drew.trans (hb.mono (by have := B.size; simp; try omega)))); clear hb) | (refine (numbersD_two K1.out).mono ?_; rintro e w5 ⟨rfl, hb⟩; rw [HY.out]; have B := B.trans (hb.mono B.size); clear hb)))
      | (go_at_call 63; (refine (orD_below (new_at (by simp))).mono ?_; rintro e w5 ⟨rfl, hb⟩); (first | (have B := (B.alloc B.size _).trans (hb.mono (by have := B.size; simp; try omega))) | (have B := (B.drew.alloc B.size _).trans (hb.mono (by have := B.size; simp; try omega))) | (have B := (B.alloc B.size _).drew.trans (hb.mono (by have := B.size; simp; try omega)))); clear hb))
  all_goals
    go_wp2_with fail
    go_ret
    exact ⟨by rw [HR.out]; rfl, HB.out.trans (B.mono HB.out.size)⟩
end Go.Proofs.Ytiokiecnglmbnaa
