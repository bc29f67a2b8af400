/-
  The program's order of two lists of questions with their answers, and of two steps. No condition.
-/
import Derived.Test.YtggallpnbbidfaaGreatDoorNmSa
import Derived.Test.YtggallpnbbidfaaGreatDoorNmRi
import Derived.IntWalk
namespace Go.Proofs.YtggallpnbbidfaaGreatDoor
open Go Go.RowKit Go.Proofs
attribute [local go_sem] Oper.semAt_some

/-- Row j of the block g holds the question and the answer x. -/
def AskAt (w : World) (g j : Nat) (x : NM.Qu × Int) : Prop := ∃ r : Int, w.cell? ⟨g, j * 7, none⟩ = some (.int .i64 x.1.c) ∧ w.cell? ⟨g, j * 7 + 1, none⟩ = some (.int .i64 x.1.h) ∧ w.cell? ⟨g, j * 7 + 2, none⟩ = some (.int .i64 x.1.t) ∧ w.cell? ⟨g, j * 7 + 3, none⟩ = some (.int .i64 x.1.k) ∧ w.cell? ⟨g, j * 7 + 4, none⟩ = some (.int .i64 x.1.i) ∧ w.cell? ⟨g, j * 7 + 5, none⟩ = some (.int .i64 r) ∧ w.cell? ⟨g, j * 7 + 6, none⟩ = some (.int .i64 x.2)
/-- A slice of questions with their answers. -/
def Asks (w : World) (A : Option Addr) (n : Nat) (l : List (NM.Qu × Int)) : Prop := l.length = n ∧ (0 < n → ∃ g, A = some ⟨g, 0, none⟩ ∧ g < w.heap.size ∧ ∀ j x, l[j]? = some x → AskAt w g j x)
theorem AskAt.keep {w w' : World} {g j : Nat} {x : NM.Qu × Int} (h : AskAt w g j x) (hg : g < w.heap.size) (hb : Below w.heap.size w w') : AskAt w' g j x := by
  obtain ⟨r, h0, h1, h2, h3, h4, h5, h6⟩ := h
  exact ⟨r, (hb.cell hg).trans h0, (hb.cell hg).trans h1, (hb.cell hg).trans h2, (hb.cell hg).trans h3, (hb.cell hg).trans h4, (hb.cell hg).trans h5, (hb.cell hg).trans h6⟩
theorem Asks.keep {w w' : World} {A : Option Addr} {n : Nat} {l : List (NM.Qu × Int)} (h : Asks w A n l) (hb : Below w.heap.size w w') : Asks w' A n l :=
  ⟨h.1, fun hn => by
    obtain ⟨g, e, hg, hx⟩ := h.2 hn
    exact ⟨g, e, Nat.lt_of_lt_of_le hg hb.size, fun j x hj => (hx j x hj).keep hg hb⟩⟩
theorem cmpAsks_drop {l r : List (NM.Qu × Int)} {k : Nat} {x y : NM.Qu × Int} (hx : l[k]? = some x) (hy : r[k]? = some y) : NM.cmpAsks (l.drop k) (r.drop k) = NM.orI (NM.cmpAsk x y) (NM.cmpAsks (l.drop (k + 1)) (r.drop (k + 1))) := by
  obtain ⟨h1, e1⟩ := List.getElem?_eq_some_iff.1 hx
  obtain ⟨h2, e2⟩ := List.getElem?_eq_some_iff.1 hy
  rw [List.drop_eq_getElem_cons h1, List.drop_eq_getElem_cons h2, e1, e2]
  rfl
theorem cmpI_sub {a b k : Nat} (ha : k ≤ a) (hb : k ≤ b) : NM.cmpI ((a - k : Nat) : Int) ((b - k : Nat) : Int) = NM.cmpI a b := by
  unfold NM.cmpI
  by_cases h1 : (a : Int) < b
  · rw [if_pos h1, if_pos (by omega)]
  · rw [if_neg h1, if_neg (by omega)]
    by_cases h2 : (b : Int) < a
    · rw [if_pos h2, if_pos (by omega)]
    · rw [if_neg h2, if_neg (by omega)]
theorem cmpAsks_end {l r : List (NM.Qu × Int)} (h : l = [] ∨ r = []) : NM.cmpAsks l r = NM.cmpI l.length r.length := by
  rcases h with rfl | rfl
  · rfl
  · cases l <;> rfl
set_option maxHeartbeats 4000000 in
set_option maxRecDepth 100000 in
theorem cmpLists_1 {A1 A2 : Option Addr} {n1 n2 m1 m2 : Nat} {l1 l2 : List (NM.Qu × Int)} (w : World) (h1 : Asks w A1 n1 l1) (h2 : Asks w A2 n2 l2) (b1 : n1 ≤ 100) (b2 : n2 ≤ 100) (hd : decide (n2 < n1) = false) :
    Calls Tryz.prog 23 #[.slice A1 n1 m1, .slice A2 n2 m2, .func (.func 24) #[] #[]] w fun e w' => e = .returned (.int .i64 (NM.cmpAsks l1 l2)) ∧ Below w.heap.size w w' := by
  have H1 := Lib.hid h1
  have H2 := Lib.hid h2
  have hn : n1 ≤ n1 ∧ n1 ≤ n2 := by simp at hd; omega
  obtain ⟨hn1, hn2⟩ := hn
  clear h1 h2
  have hd2 : ¬ n2 < n1 := by simpa using hd
  go_enter Tryz.func23, Tryz.ntmps23
  go_wp2_with fail
  clear hd hd2
  go_loopw [14] (fun i V => ∃ k : Nat, k ≤ n1 ∧ i = .int .i64 (k : Int) ∧ Hid (NM.cmpAsks l1 l2 = NM.cmpAsks (l1.drop k) (l2.drop k)) ∧ Below w.heap.size w V) (fun i _ => n1 - (intOf i).toNat)
  case atStart => exact ⟨0, by omega, rfl, by show NM.cmpAsks l1 l2 = NM.cmpAsks (l1.drop 0) (l2.drop 0); rfl, Below.refl _ _⟩
  case round =>
    obtain ⟨k, hk, rfl, HE, hB⟩ := hrel
    have HB := Lib.hid hB
    clear hB
    by_cases hlt : k < n1
    · obtain ⟨x, hx⟩ : ∃ x, l1[k]? = some x := ⟨_, List.getElem?_eq_getElem (by rw [H1.out.1]; omega)⟩
      obtain ⟨y, hy⟩ : ∃ y, l2[k]? = some y := ⟨_, List.getElem?_eq_getElem (by rw [H2.out.1]; omega)⟩
      obtain ⟨g1, hA1, hg1, hat1⟩ := H1.out.2 (by omega)
      obtain ⟨g2, hA2, hg2, hat2⟩ := H2.out.2 (by omega)
      have hD := HE.out.trans (cmpAsks_drop hx hy)
      have hX := hat1 k x hx
      have hY := hat2 k y hy
      obtain ⟨⟨c, h, t, kk, i⟩, n⟩ := x
      obtain ⟨⟨c2, h2, t2, kk2, i2⟩, n2'⟩ := y
      obtain ⟨r, hX⟩ := hX
      obtain ⟨r2, hY⟩ := hY
      have HX := Lib.hid (fun (V : World) (hV : Below w.heap.size w V) => And.intro ((hV.cell (p := ⟨g1, k * 7, none⟩) hg1).trans hX.1) (And.intro ((hV.cell (p := ⟨g1, k * 7 + 1, none⟩) hg1).trans hX.2.1) (And.intro ((hV.cell (p := ⟨g1, k * 7 + 2, none⟩) hg1).trans hX.2.2.1) (And.intro ((hV.cell (p := ⟨g1, k * 7 + 3, none⟩) hg1).trans hX.2.2.2.1) (And.intro ((hV.cell (p := ⟨g1, k * 7 + 4, none⟩) hg1).trans hX.2.2.2.2.1) (And.intro ((hV.cell (p := ⟨g1, k * 7 + 5, none⟩) hg1).trans hX.2.2.2.2.2.1) ((hV.cell (p := ⟨g1, k * 7 + 6, none⟩) hg1).trans hX.2.2.2.2.2.2)))))))
      have HY := Lib.hid (fun (V : World) (hV : Below w.heap.size w V) => And.intro ((hV.cell (p := ⟨g2, k * 7, none⟩) hg2).trans hY.1) (And.intro ((hV.cell (p := ⟨g2, k * 7 + 1, none⟩) hg2).trans hY.2.1) (And.intro ((hV.cell (p := ⟨g2, k * 7 + 2, none⟩) hg2).trans hY.2.2.1) (And.intro ((hV.cell (p := ⟨g2, k * 7 + 3, none⟩) hg2).trans hY.2.2.2.1) (And.intro ((hV.cell (p := ⟨g2, k * 7 + 4, none⟩) hg2).trans hY.2.2.2.2.1) (And.intro ((hV.cell (p := ⟨g2, k * 7 + 5, none⟩) hg2).trans hY.2.2.2.2.2.1) ((hV.cell (p := ⟨g2, k * 7 + 6, none⟩) hg2).trans hY.2.2.2.2.2.2)))))))
      have HC := Lib.hid (fun V => cmpAsk_any c h t kk i r n c2 h2 t2 kk2 i2 r2 n2' V)
      obtain ⟨R, hR⟩ : ∃ R, NM.orI (NM.lexL [c, h, t, kk, i] [c2, h2, t2, kk2, i2]) (NM.cmpI n n2') = R := ⟨_, rfl⟩
      have hD : NM.cmpAsks l1 l2 = NM.orI (NM.orI (NM.lexL [c, h, t, kk, i] [c2, h2, t2, kk2, i2]) (NM.cmpI n n2')) (NM.cmpAsks (l1.drop (k + 1)) (l2.drop (k + 1))) := hD
      rw [hR] at HC hD
      have HD := Lib.hid hD
      subst hA1
      subst hA2
      clear hx hy hat1 hat2 hX hY hD hR HE
      go_wp2_with fail
      refine RgX.region 11 (fun i => (if i = 10 then 8 else 17 + i)) (fun ix_ => match ix_ with | 0 => .v (.func (.func 24) #[] #[]) | 1 => .v (.slice (some ⟨g1, 0, none⟩) n1 m1) | 2 => .v (.int .i64 ↑k) | 3 => .v (.pointer (some ⟨g1, k * 7, none⟩)) | 4 => .v (.agg #[.int .i64 c, .int .i64 h, .int .i64 t, .int .i64 kk, .int .i64 i, .int .i64 r, .int .i64 n]) | 5 => .v (.slice (some ⟨g2, 0, none⟩) n2 m2) | 6 => .v (.int .i64 ↑k) | 7 => .v (.pointer (some ⟨g2, k * 7, none⟩)) | 8 => .v (.agg #[.int .i64 c2, .int .i64 h2, .int .i64 t2, .int .i64 kk2, .int .i64 i2, .int .i64 r2, .int .i64 n2']) | 9 => .v (.int .i64 R) | 10 => .v (.int .i64 R) | _ => .any) (by kernel_rfl) rfl (by kernel_rfl)  (fun i hi => by show (if i = 10 then 8 else 17 + i) < 36; (repeat' split) <;> omega) (fun i j hi hj => by show (if i = 10 then 8 else 17 + i) = (if j = 10 then 8 else 17 + j) → i = j; (repeat' split) <;> omega) ?step ?fin
      case step =>
        intro L_ A_ w3 ix op_ hI ho hdep
        have hi : ix < 11 := (Array.getElem?_eq_some_iff.1 ho).1
        have hcase : ix = 0 ∨ ix = 1 ∨ ix = 2 ∨ ix = 3 ∨ ix = 4 ∨ ix = 5 ∨ ix = 6 ∨ ix = 7 ∨ ix = 8 ∨ ix = 9 ∨ ix = 10 := by omega
        have hh := hI.held
        clear hi
        rcases hcase with rfl | rfl | rfl | rfl | rfl | rfl | rfl | rfl | rfl | rfl | rfl
        · simp only [List.getElem?_toArray, List.getElem?_cons_zero, Option.some.injEq] at ho
          subst ho
          refine ⟨rfl, ?_⟩
          have e2 : A_.tmps[2]?.getD undef = .func (.func 24) #[] #[] := by rw [hI.low 2 (by decide)]; rfl
          clear hI hdep
          exact .run rfl (.func (.func 24) #[] #[]) w3 (by simp [execOp, go_sem, Act.eval, e2]) (Below.refl _ _) rfl
        · simp only [List.getElem?_toArray, List.getElem?_cons_succ, List.getElem?_cons_zero, Option.some.injEq] at ho
          subst ho
          refine ⟨rfl, ?_⟩
          have e0 : A_.tmps[0]?.getD undef = .slice (some ⟨g1, 0, none⟩) n1 m1 := by rw [hI.low 0 (by decide)]; rfl
          clear hI hdep
          exact .run rfl (.slice (some ⟨g1, 0, none⟩) n1 m1) w3 (by simp [execOp, go_sem, Act.eval, e0]) (Below.refl _ _) rfl
        · simp only [List.getElem?_toArray, List.getElem?_cons_succ, List.getElem?_cons_zero, Option.some.injEq] at ho
          subst ho
          refine ⟨rfl, ?_⟩
          have e7 : A_.tmps[7]?.getD undef = .int .i64 ↑k := by rw [hI.low 7 (by decide)]; rfl
          clear hI hdep
          exact .run rfl (.int .i64 ↑k) w3 (by simp [execOp, go_sem, Act.eval, e7]) (Below.refl _ _) rfl
        · simp only [List.getElem?_toArray, List.getElem?_cons_succ, List.getElem?_cons_zero, Option.some.injEq] at ho
          subst ho
          refine ⟨rfl, ?_⟩
          have e18 : A_.tmps[18]?.getD undef = .slice (some ⟨g1, 0, none⟩) n1 m1 := getD_of (hI.val_ (i := 1) rfl rfl (by decide) (hdep ⟨1, .data⟩ (by simp) rfl))
          have e19 : A_.tmps[19]?.getD undef = .int .i64 ↑k := getD_of (hI.val_ (i := 2) rfl rfl (by decide) (hdep ⟨2, .data⟩ (by simp) rfl))
          clear hI hdep
          exact .run rfl (.pointer (some ⟨g1, k * 7, none⟩)) w3 (by simp [execOp, go_sem, Act.eval, e18, e19]; omega) (Below.refl _ _) rfl
        · simp only [List.getElem?_toArray, List.getElem?_cons_succ, List.getElem?_cons_zero, Option.some.injEq] at ho
          subst ho
          refine ⟨rfl, ?_⟩
          have e20 : A_.tmps[20]?.getD undef = .pointer (some ⟨g1, k * 7, none⟩) := getD_of (hI.val_ (i := 3) rfl rfl (by decide) (hdep ⟨3, .data⟩ (by simp) rfl))
          clear hI hdep
          obtain ⟨d0, d1, d2, d3, d4, d5, d6⟩ := HX.out w3 (HB.out.trans (hh.mono HB.out.size))
          exact .run rfl (.agg #[.int .i64 c, .int .i64 h, .int .i64 t, .int .i64 kk, .int .i64 i, .int .i64 r, .int .i64 n]) w3 (by simp [execOp, go_sem, Act.eval, *]) (Below.refl _ _) rfl
        · simp only [List.getElem?_toArray, List.getElem?_cons_succ, List.getElem?_cons_zero, Option.some.injEq] at ho
          subst ho
          refine ⟨rfl, ?_⟩
          have e1 : A_.tmps[1]?.getD undef = .slice (some ⟨g2, 0, none⟩) n2 m2 := by rw [hI.low 1 (by decide)]; rfl
          clear hI hdep
          exact .run rfl (.slice (some ⟨g2, 0, none⟩) n2 m2) w3 (by simp [execOp, go_sem, Act.eval, e1]) (Below.refl _ _) rfl
        · simp only [List.getElem?_toArray, List.getElem?_cons_succ, List.getElem?_cons_zero, Option.some.injEq] at ho
          subst ho
          refine ⟨rfl, ?_⟩
          have e7 : A_.tmps[7]?.getD undef = .int .i64 ↑k := by rw [hI.low 7 (by decide)]; rfl
          clear hI hdep
          exact .run rfl (.int .i64 ↑k) w3 (by simp [execOp, go_sem, Act.eval, e7]) (Below.refl _ _) rfl
        · simp only [List.getElem?_toArray, List.getElem?_cons_succ, List.getElem?_cons_zero, Option.some.injEq] at ho
          subst ho
          refine ⟨rfl, ?_⟩
          have e22 : A_.tmps[22]?.getD undef = .slice (some ⟨g2, 0, none⟩) n2 m2 := getD_of (hI.val_ (i := 5) rfl rfl (by decide) (hdep ⟨5, .data⟩ (by simp) rfl))
          have e23 : A_.tmps[23]?.getD undef = .int .i64 ↑k := getD_of (hI.val_ (i := 6) rfl rfl (by decide) (hdep ⟨6, .data⟩ (by simp) rfl))
          clear hI hdep
          exact .run rfl (.pointer (some ⟨g2, k * 7, none⟩)) w3 (by simp [execOp, go_sem, Act.eval, e22, e23]; omega) (Below.refl _ _) rfl
        · simp only [List.getElem?_toArray, List.getElem?_cons_succ, List.getElem?_cons_zero, Option.some.injEq] at ho
          subst ho
          refine ⟨rfl, ?_⟩
          have e24 : A_.tmps[24]?.getD undef = .pointer (some ⟨g2, k * 7, none⟩) := getD_of (hI.val_ (i := 7) rfl rfl (by decide) (hdep ⟨7, .data⟩ (by simp) rfl))
          clear hI hdep
          obtain ⟨d0, d1, d2, d3, d4, d5, d6⟩ := HY.out w3 (HB.out.trans (hh.mono HB.out.size))
          exact .run rfl (.agg #[.int .i64 c2, .int .i64 h2, .int .i64 t2, .int .i64 kk2, .int .i64 i2, .int .i64 r2, .int .i64 n2']) w3 (by simp [execOp, go_sem, Act.eval, *]) (Below.refl _ _) rfl
        · simp only [List.getElem?_toArray, List.getElem?_cons_succ, List.getElem?_cons_zero, Option.some.injEq] at ho
          subst ho
          refine ⟨rfl, ?_⟩
          have e17 : A_.tmps[17]?.getD undef = .func (.func 24) #[] #[] := getD_of (hI.val_ (i := 0) rfl rfl (by decide) (hdep ⟨0, .data⟩ (by simp) rfl))
          have e21 : A_.tmps[21]?.getD undef = .agg #[.int .i64 c, .int .i64 h, .int .i64 t, .int .i64 kk, .int .i64 i, .int .i64 r, .int .i64 n] := getD_of (hI.val_ (i := 4) rfl rfl (by decide) (hdep ⟨4, .data⟩ (by simp) rfl))
          have e25 : A_.tmps[25]?.getD undef = .agg #[.int .i64 c2, .int .i64 h2, .int .i64 t2, .int .i64 kk2, .int .i64 i2, .int .i64 r2, .int .i64 n2'] := getD_of (hI.val_ (i := 8) rfl rfl (by decide) (hdep ⟨8, .data⟩ (by simp) rfl))
          clear hI hdep
          exact .call rfl 24 #[.agg #[.int .i64 c, .int .i64 h, .int .i64 t, .int .i64 kk, .int .i64 i, .int .i64 r, .int .i64 n], .agg #[.int .i64 c2, .int .i64 h2, .int .i64 t2, .int .i64 kk2, .int .i64 i2, .int .i64 r2, .int .i64 n2']] (by simp [go_sem, Act.eval, e17, e21, e25]) ((HC.out w3).mono fun _ _ ⟨h1_, h2_⟩ => ⟨⟨_, h1_, rfl⟩, h2_⟩)
        · simp only [List.getElem?_toArray, List.getElem?_cons_succ, List.getElem?_cons_zero, Option.some.injEq] at ho
          subst ho
          refine ⟨rfl, ?_⟩
          have e26 : A_.tmps[26]?.getD undef = .int .i64 R := getD_of (hI.val_ (i := 9) rfl rfl (by decide) (hdep ⟨9, .data⟩ (by simp) rfl))
          clear hI hdep
          exact .run rfl (.int .i64 R) w3 (by simp [execOp, go_sem, Act.eval, e26]) (Below.refl _ _) rfl
      case fin =>
      intro A_ w3 hs hd hlow hS hok
      obtain rfl : A_ = ⟨#[.slice (some ⟨g1, 0, none⟩) n1 m1, .slice (some ⟨g2, 0, none⟩) n2 m2, .func (.func 24) #[] #[], undef, undef, undef, u6, .int .i64 ↑k, .int .i64 R, .slice (some ⟨g1, 0, none⟩) n1 m1, .int .i64 ↑n1, .slice (some ⟨g2, 0, none⟩) n2 m2, .int .i64 ↑n2, .int .i64 ↑n1, .int .i64 ↑k, .bool true, .int .i64 ↑k, .func (.func 24) #[] #[], .slice (some ⟨g1, 0, none⟩) n1 m1, .int .i64 ↑k, .pointer (some ⟨g1, k * 7, none⟩), .agg #[.int .i64 c, .int .i64 h, .int .i64 t, .int .i64 kk, .int .i64 i, .int .i64 r, .int .i64 n], .slice (some ⟨g2, 0, none⟩) n2 m2, .int .i64 ↑k, .pointer (some ⟨g2, k * 7, none⟩), .agg #[.int .i64 c2, .int .i64 h2, .int .i64 t2, .int .i64 kk2, .int .i64 i2, .int .i64 r2, .int .i64 n2'], .int .i64 R, u27, u28, u29, u30, undef, undef, undef, undef, undef], []⟩ := act_ext hd hs (fun j hj => match j, hj with | 0, _ => (hlow 0 (by decide)).trans rfl | 1, _ => (hlow 1 (by decide)).trans rfl | 2, _ => (hlow 2 (by decide)).trans rfl | 3, _ => (hlow 3 (by decide)).trans rfl | 4, _ => (hlow 4 (by decide)).trans rfl | 5, _ => (hlow 5 (by decide)).trans rfl | 6, _ => (hlow 6 (by decide)).trans rfl | 7, _ => (hlow 7 (by decide)).trans rfl | 8, _ => RgX.val_at (hok 10 8 _ (by decide) rfl rfl) | 9, _ => (hlow 9 (by decide)).trans rfl | 10, _ => (hlow 10 (by decide)).trans rfl | 11, _ => (hlow 11 (by decide)).trans rfl | 12, _ => (hlow 12 (by decide)).trans rfl | 13, _ => (hlow 13 (by decide)).trans rfl | 14, _ => (hlow 14 (by decide)).trans rfl | 15, _ => (hlow 15 (by decide)).trans rfl | 16, _ => (hlow 16 (by decide)).trans rfl | 17, _ => RgX.val_at (hok 0 17 _ (by decide) rfl rfl) | 18, _ => RgX.val_at (hok 1 18 _ (by decide) rfl rfl) | 19, _ => RgX.val_at (hok 2 19 _ (by decide) rfl rfl) | 20, _ => RgX.val_at (hok 3 20 _ (by decide) rfl rfl) | 21, _ => RgX.val_at (hok 4 21 _ (by decide) rfl rfl) | 22, _ => RgX.val_at (hok 5 22 _ (by decide) rfl rfl) | 23, _ => RgX.val_at (hok 6 23 _ (by decide) rfl rfl) | 24, _ => RgX.val_at (hok 7 24 _ (by decide) rfl rfl) | 25, _ => RgX.val_at (hok 8 25 _ (by decide) rfl rfl) | 26, _ => RgX.val_at (hok 9 26 _ (by decide) rfl rfl) | 27, _ => (hlow 27 (by decide)).trans rfl | 28, _ => (hlow 28 (by decide)).trans rfl | 29, _ => (hlow 29 (by decide)).trans rfl | 30, _ => (hlow 30 (by decide)).trans rfl | 31, _ => (hlow 31 (by decide)).trans rfl | 32, _ => (hlow 32 (by decide)).trans rfl | 33, _ => (hlow 33 (by decide)).trans rfl | 34, _ => (hlow 34 (by decide)).trans rfl | 35, _ => (hlow 35 (by decide)).trans rfl | n + 36, h => absurd h (by show ¬ n + 36 < 36; omega))
      clear hs hd hlow hok 
      have HBN := Lib.hid (HB.out.trans (hS.mono HB.out.size))
      by_cases hz : R = 0
      · subst hz
        have HR := Lib.hid (show NM.cmpAsks l1 l2 = NM.cmpAsks (l1.drop (k + 1)) (l2.drop (k + 1)) by rw [HD.out]; unfold NM.orI; rw [if_pos rfl])
        clear HD
        go_wp2_with fail
        go_roundw
        case rel => exact ⟨k + 1, by omega, by go_num, HR, HBN.out⟩
        case measure => simp [intOf]; omega
      · have hne : (R != 0) = true := by simpa using hz
        have HR := Lib.hid (show NM.cmpAsks l1 l2 = R by rw [HD.out]; unfold NM.orI; rw [if_neg hz])
        clear HD
        go_wp2_with fail
        go_ret
        exact ⟨by rw [HR.out]; rfl, HBN.out⟩
    · have HR := Lib.hid (show NM.cmpAsks l1 l2 = NM.cmpI n1 n2 by
        have h1 := H1.out.1
        have h2 := H2.out.1
        rw [HE.out, cmpAsks_end (by rcases (show n1 ≤ k ∨ n2 ≤ k by omega) with h | h; exact .inl (List.drop_eq_nil_of_le (by omega)); exact .inr (List.drop_eq_nil_of_le (by omega))), List.length_drop, List.length_drop, h1, h2]
        exact cmpI_sub (by omega) (by omega))
      clear HE
      go_wp2_with (go_at_call 49; refine (cmp_any _ _ _).mono ?_; rintro e w5 ⟨rfl, rfl⟩)
      go_ret
      exact ⟨by rw [HR.out]; rfl, HB.out⟩
set_option maxHeartbeats 4000000 in
set_option maxRecDepth 100000 in
theorem cmpLists_2 {A1 A2 : Option Addr} {n1 n2 m1 m2 : Nat} {l1 l2 : List (NM.Qu × Int)} (w : World) (h1 : Asks w A1 n1 l1) (h2 : Asks w A2 n2 l2) (b1 : n1 ≤ 100) (b2 : n2 ≤ 100) (hd : decide (n2 < n1) = true) :
    Calls Tryz.prog 23 #[.slice A1 n1 m1, .slice A2 n2 m2, .func (.func 24) #[] #[]] w fun e w' => e = .returned (.int .i64 (NM.cmpAsks l1 l2)) ∧ Below w.heap.size w w' := by
  have H1 := Lib.hid h1
  have H2 := Lib.hid h2
  have hn : n2 ≤ n1 ∧ n2 ≤ n2 := by simp at hd; omega
  obtain ⟨hn1, hn2⟩ := hn
  clear h1 h2
  have hd2 : n2 < n1 := by simpa using hd
  go_enter Tryz.func23, Tryz.ntmps23
  go_wp2_with fail
  clear hd hd2
  go_loopw [14] (fun i V => ∃ k : Nat, k ≤ n2 ∧ i = .int .i64 (k : Int) ∧ Hid (NM.cmpAsks l1 l2 = NM.cmpAsks (l1.drop k) (l2.drop k)) ∧ Below w.heap.size w V) (fun i _ => n2 - (intOf i).toNat)
  case atStart => exact ⟨0, by omega, rfl, by show NM.cmpAsks l1 l2 = NM.cmpAsks (l1.drop 0) (l2.drop 0); rfl, Below.refl _ _⟩
  case round =>
    obtain ⟨k, hk, rfl, HE, hB⟩ := hrel
    have HB := Lib.hid hB
    clear hB
    by_cases hlt : k < n2
    · obtain ⟨x, hx⟩ : ∃ x, l1[k]? = some x := ⟨_, List.getElem?_eq_getElem (by rw [H1.out.1]; omega)⟩
      obtain ⟨y, hy⟩ : ∃ y, l2[k]? = some y := ⟨_, List.getElem?_eq_getElem (by rw [H2.out.1]; omega)⟩
      obtain ⟨g1, hA1, hg1, hat1⟩ := H1.out.2 (by omega)
      obtain ⟨g2, hA2, hg2, hat2⟩ := H2.out.2 (by omega)
      have hD := HE.out.trans (cmpAsks_drop hx hy)
      have hX := hat1 k x hx
      have hY := hat2 k y hy
      obtain ⟨⟨c, h, t, kk, i⟩, n⟩ := x
      obtain ⟨⟨c2, h2, t2, kk2, i2⟩, n2'⟩ := y
      obtain ⟨r, hX⟩ := hX
      obtain ⟨r2, hY⟩ := hY
      have HX := Lib.hid (fun (V : World) (hV : Below w.heap.size w V) => And.intro ((hV.cell (p := ⟨g1, k * 7, none⟩) hg1).trans hX.1) (And.intro ((hV.cell (p := ⟨g1, k * 7 + 1, none⟩) hg1).trans hX.2.1) (And.intro ((hV.cell (p := ⟨g1, k * 7 + 2, none⟩) hg1).trans hX.2.2.1) (And.intro ((hV.cell (p := ⟨g1, k * 7 + 3, none⟩) hg1).trans hX.2.2.2.1) (And.intro ((hV.cell (p := ⟨g1, k * 7 + 4, none⟩) hg1).trans hX.2.2.2.2.1) (And.intro ((hV.cell (p := ⟨g1, k * 7 + 5, none⟩) hg1).trans hX.2.2.2.2.2.1) ((hV.cell (p := ⟨g1, k * 7 + 6, none⟩) hg1).trans hX.2.2.2.2.2.2)))))))
      have HY := Lib.hid (fun (V : World) (hV : Below w.heap.size w V) => And.intro ((hV.cell (p := ⟨g2, k * 7, none⟩) hg2).trans hY.1) (And.intro ((hV.cell (p := ⟨g2, k * 7 + 1, none⟩) hg2).trans hY.2.1) (And.intro ((hV.cell (p := ⟨g2, k * 7 + 2, none⟩) hg2).trans hY.2.2.1) (And.intro ((hV.cell (p := ⟨g2, k * 7 + 3, none⟩) hg2).trans hY.2.2.2.1) (And.intro ((hV.cell (p := ⟨g2, k * 7 + 4, none⟩) hg2).trans hY.2.2.2.2.1) (And.intro ((hV.cell (p := ⟨g2, k * 7 + 5, none⟩) hg2).trans hY.2.2.2.2.2.1) ((hV.cell (p := ⟨g2, k * 7 + 6, none⟩) hg2).trans hY.2.2.2.2.2.2)))))))
      have HC := Lib.hid (fun V => cmpAsk_any c h t kk i r n c2 h2 t2 kk2 i2 r2 n2' V)
      obtain ⟨R, hR⟩ : ∃ R, NM.orI (NM.lexL [c, h, t, kk, i] [c2, h2, t2, kk2, i2]) (NM.cmpI n n2') = R := ⟨_, rfl⟩
      have hD : NM.cmpAsks l1 l2 = NM.orI (NM.orI (NM.lexL [c, h, t, kk, i] [c2, h2, t2, kk2, i2]) (NM.cmpI n n2')) (NM.cmpAsks (l1.drop (k + 1)) (l2.drop (k + 1))) := hD
      rw [hR] at HC hD
      have HD := Lib.hid hD
      subst hA1
      subst hA2
      clear hx hy hat1 hat2 hX hY hD hR HE
      go_wp2_with fail
      refine RgX.region 11 (fun i => (if i = 10 then 8 else 17 + i)) (fun ix_ => match ix_ with | 0 => .v (.func (.func 24) #[] #[]) | 1 => .v (.slice (some ⟨g1, 0, none⟩) n1 m1) | 2 => .v (.int .i64 ↑k) | 3 => .v (.pointer (some ⟨g1, k * 7, none⟩)) | 4 => .v (.agg #[.int .i64 c, .int .i64 h, .int .i64 t, .int .i64 kk, .int .i64 i, .int .i64 r, .int .i64 n]) | 5 => .v (.slice (some ⟨g2, 0, none⟩) n2 m2) | 6 => .v (.int .i64 ↑k) | 7 => .v (.pointer (some ⟨g2, k * 7, none⟩)) | 8 => .v (.agg #[.int .i64 c2, .int .i64 h2, .int .i64 t2, .int .i64 kk2, .int .i64 i2, .int .i64 r2, .int .i64 n2']) | 9 => .v (.int .i64 R) | 10 => .v (.int .i64 R) | _ => .any) (by kernel_rfl) rfl (by kernel_rfl)  (fun i hi => by show (if i = 10 then 8 else 17 + i) < 36; (repeat' split) <;> omega) (fun i j hi hj => by show (if i = 10 then 8 else 17 + i) = (if j = 10 then 8 else 17 + j) → i = j; (repeat' split) <;> omega) ?step ?fin
      case step =>
        intro L_ A_ w3 ix op_ hI ho hdep
        have hi : ix < 11 := (Array.getElem?_eq_some_iff.1 ho).1
        have hcase : ix = 0 ∨ ix = 1 ∨ ix = 2 ∨ ix = 3 ∨ ix = 4 ∨ ix = 5 ∨ ix = 6 ∨ ix = 7 ∨ ix = 8 ∨ ix = 9 ∨ ix = 10 := by omega
        have hh := hI.held
        clear hi
        rcases hcase with rfl | rfl | rfl | rfl | rfl | rfl | rfl | rfl | rfl | rfl | rfl
        · simp only [List.getElem?_toArray, List.getElem?_cons_zero, Option.some.injEq] at ho
          subst ho
          refine ⟨rfl, ?_⟩
          have e2 : A_.tmps[2]?.getD undef = .func (.func 24) #[] #[] := by rw [hI.low 2 (by decide)]; rfl
          clear hI hdep
          exact .run rfl (.func (.func 24) #[] #[]) w3 (by simp [execOp, go_sem, Act.eval, e2]) (Below.refl _ _) rfl
        · simp only [List.getElem?_toArray, List.getElem?_cons_succ, List.getElem?_cons_zero, Option.some.injEq] at ho
          subst ho
          refine ⟨rfl, ?_⟩
          have e0 : A_.tmps[0]?.getD undef = .slice (some ⟨g1, 0, none⟩) n1 m1 := by rw [hI.low 0 (by decide)]; rfl
          clear hI hdep
          exact .run rfl (.slice (some ⟨g1, 0, none⟩) n1 m1) w3 (by simp [execOp, go_sem, Act.eval, e0]) (Below.refl _ _) rfl
        · simp only [List.getElem?_toArray, List.getElem?_cons_succ, List.getElem?_cons_zero, Option.some.injEq] at ho
          subst ho
          refine ⟨rfl, ?_⟩
          have e7 : A_.tmps[7]?.getD undef = .int .i64 ↑k := by rw [hI.low 7 (by decide)]; rfl
          clear hI hdep
          exact .run rfl (.int .i64 ↑k) w3 (by simp [execOp, go_sem, Act.eval, e7]) (Below.refl _ _) rfl
        · simp only [List.getElem?_toArray, List.getElem?_cons_succ, List.getElem?_cons_zero, Option.some.injEq] at ho
          subst ho
          refine ⟨rfl, ?_⟩
          have e18 : A_.tmps[18]?.getD undef = .slice (some ⟨g1, 0, none⟩) n1 m1 := getD_of (hI.val_ (i := 1) rfl rfl (by decide) (hdep ⟨1, .data⟩ (by simp) rfl))
          have e19 : A_.tmps[19]?.getD undef = .int .i64 ↑k := getD_of (hI.val_ (i := 2) rfl rfl (by decide) (hdep ⟨2, .data⟩ (by simp) rfl))
          clear hI hdep
          exact .run rfl (.pointer (some ⟨g1, k * 7, none⟩)) w3 (by simp [execOp, go_sem, Act.eval, e18, e19]; omega) (Below.refl _ _) rfl
        · simp only [List.getElem?_toArray, List.getElem?_cons_succ, List.getElem?_cons_zero, Option.some.injEq] at ho
          subst ho
          refine ⟨rfl, ?_⟩
          have e20 : A_.tmps[20]?.getD undef = .pointer (some ⟨g1, k * 7, none⟩) := getD_of (hI.val_ (i := 3) rfl rfl (by decide) (hdep ⟨3, .data⟩ (by simp) rfl))
          clear hI hdep
          obtain ⟨d0, d1, d2, d3, d4, d5, d6⟩ := HX.out w3 (HB.out.trans (hh.mono HB.out.size))
          exact .run rfl (.agg #[.int .i64 c, .int .i64 h, .int .i64 t, .int .i64 kk, .int .i64 i, .int .i64 r, .int .i64 n]) w3 (by simp [execOp, go_sem, Act.eval, *]) (Below.refl _ _) rfl
        · simp only [List.getElem?_toArray, List.getElem?_cons_succ, List.getElem?_cons_zero, Option.some.injEq] at ho
          subst ho
          refine ⟨rfl, ?_⟩
          have e1 : A_.tmps[1]?.getD undef = .slice (some ⟨g2, 0, none⟩) n2 m2 := by rw [hI.low 1 (by decide)]; rfl
          clear hI hdep
          exact .run rfl (.slice (some ⟨g2, 0, none⟩) n2 m2) w3 (by simp [execOp, go_sem, Act.eval, e1]) (Below.refl _ _) rfl
        · simp only [List.getElem?_toArray, List.getElem?_cons_succ, List.getElem?_cons_zero, Option.some.injEq] at ho
          subst ho
          refine ⟨rfl, ?_⟩
          have e7 : A_.tmps[7]?.getD undef = .int .i64 ↑k := by rw [hI.low 7 (by decide)]; rfl
          clear hI hdep
          exact .run rfl (.int .i64 ↑k) w3 (by simp [execOp, go_sem, Act.eval, e7]) (Below.refl _ _) rfl
        · simp only [List.getElem?_toArray, List.getElem?_cons_succ, List.getElem?_cons_zero, Option.some.injEq] at ho
          subst ho
          refine ⟨rfl, ?_⟩
          have e22 : A_.tmps[22]?.getD undef = .slice (some ⟨g2, 0, none⟩) n2 m2 := getD_of (hI.val_ (i := 5) rfl rfl (by decide) (hdep ⟨5, .data⟩ (by simp) rfl))
          have e23 : A_.tmps[23]?.getD undef = .int .i64 ↑k := getD_of (hI.val_ (i := 6) rfl rfl (by decide) (hdep ⟨6, .data⟩ (by simp) rfl))
          clear hI hdep
          exact .run rfl (.pointer (some ⟨g2, k * 7, none⟩)) w3 (by simp [execOp, go_sem, Act.eval, e22, e23]; omega) (Below.refl _ _) rfl
        · simp only [List.getElem?_toArray, List.getElem?_cons_succ, List.getElem?_cons_zero, Option.some.injEq] at ho
          subst ho
          refine ⟨rfl, ?_⟩
          have e24 : A_.tmps[24]?.getD undef = .pointer (some ⟨g2, k * 7, none⟩) := getD_of (hI.val_ (i := 7) rfl rfl (by decide) (hdep ⟨7, .data⟩ (by simp) rfl))
          clear hI hdep
          obtain ⟨d0, d1, d2, d3, d4, d5, d6⟩ := HY.out w3 (HB.out.trans (hh.mono HB.out.size))
          exact .run rfl (.agg #[.int .i64 c2, .int .i64 h2, .int .i64 t2, .int .i64 kk2, .int .i64 i2, .int .i64 r2, .int .i64 n2']) w3 (by simp [execOp, go_sem, Act.eval, *]) (Below.refl _ _) rfl
        · simp only [List.getElem?_toArray, List.getElem?_cons_succ, List.getElem?_cons_zero, Option.some.injEq] at ho
          subst ho
          refine ⟨rfl, ?_⟩
          have e17 : A_.tmps[17]?.getD undef = .func (.func 24) #[] #[] := getD_of (hI.val_ (i := 0) rfl rfl (by decide) (hdep ⟨0, .data⟩ (by simp) rfl))
          have e21 : A_.tmps[21]?.getD undef = .agg #[.int .i64 c, .int .i64 h, .int .i64 t, .int .i64 kk, .int .i64 i, .int .i64 r, .int .i64 n] := getD_of (hI.val_ (i := 4) rfl rfl (by decide) (hdep ⟨4, .data⟩ (by simp) rfl))
          have e25 : A_.tmps[25]?.getD undef = .agg #[.int .i64 c2, .int .i64 h2, .int .i64 t2, .int .i64 kk2, .int .i64 i2, .int .i64 r2, .int .i64 n2'] := getD_of (hI.val_ (i := 8) rfl rfl (by decide) (hdep ⟨8, .data⟩ (by simp) rfl))
          clear hI hdep
          exact .call rfl 24 #[.agg #[.int .i64 c, .int .i64 h, .int .i64 t, .int .i64 kk, .int .i64 i, .int .i64 r, .int .i64 n], .agg #[.int .i64 c2, .int .i64 h2, .int .i64 t2, .int .i64 kk2, .int .i64 i2, .int .i64 r2, .int .i64 n2']] (by simp [go_sem, Act.eval, e17, e21, e25]) ((HC.out w3).mono fun _ _ ⟨h1_, h2_⟩ => ⟨⟨_, h1_, rfl⟩, h2_⟩)
        · simp only [List.getElem?_toArray, List.getElem?_cons_succ, List.getElem?_cons_zero, Option.some.injEq] at ho
          subst ho
          refine ⟨rfl, ?_⟩
          have e26 : A_.tmps[26]?.getD undef = .int .i64 R := getD_of (hI.val_ (i := 9) rfl rfl (by decide) (hdep ⟨9, .data⟩ (by simp) rfl))
          clear hI hdep
          exact .run rfl (.int .i64 R) w3 (by simp [execOp, go_sem, Act.eval, e26]) (Below.refl _ _) rfl
      case fin =>
      intro A_ w3 hs hd hlow hS hok
      obtain rfl : A_ = ⟨#[.slice (some ⟨g1, 0, none⟩) n1 m1, .slice (some ⟨g2, 0, none⟩) n2 m2, .func (.func 24) #[] #[], undef, undef, undef, u6, .int .i64 ↑k, .int .i64 R, .slice (some ⟨g1, 0, none⟩) n1 m1, .int .i64 ↑n1, .slice (some ⟨g2, 0, none⟩) n2 m2, .int .i64 ↑n2, .int .i64 ↑n2, .int .i64 ↑k, .bool true, .int .i64 ↑k, .func (.func 24) #[] #[], .slice (some ⟨g1, 0, none⟩) n1 m1, .int .i64 ↑k, .pointer (some ⟨g1, k * 7, none⟩), .agg #[.int .i64 c, .int .i64 h, .int .i64 t, .int .i64 kk, .int .i64 i, .int .i64 r, .int .i64 n], .slice (some ⟨g2, 0, none⟩) n2 m2, .int .i64 ↑k, .pointer (some ⟨g2, k * 7, none⟩), .agg #[.int .i64 c2, .int .i64 h2, .int .i64 t2, .int .i64 kk2, .int .i64 i2, .int .i64 r2, .int .i64 n2'], .int .i64 R, u27, u28, u29, u30, undef, undef, undef, undef, undef], []⟩ := act_ext hd hs (fun j hj => match j, hj with | 0, _ => (hlow 0 (by decide)).trans rfl | 1, _ => (hlow 1 (by decide)).trans rfl | 2, _ => (hlow 2 (by decide)).trans rfl | 3, _ => (hlow 3 (by decide)).trans rfl | 4, _ => (hlow 4 (by decide)).trans rfl | 5, _ => (hlow 5 (by decide)).trans rfl | 6, _ => (hlow 6 (by decide)).trans rfl | 7, _ => (hlow 7 (by decide)).trans rfl | 8, _ => RgX.val_at (hok 10 8 _ (by decide) rfl rfl) | 9, _ => (hlow 9 (by decide)).trans rfl | 10, _ => (hlow 10 (by decide)).trans rfl | 11, _ => (hlow 11 (by decide)).trans rfl | 12, _ => (hlow 12 (by decide)).trans rfl | 13, _ => (hlow 13 (by decide)).trans rfl | 14, _ => (hlow 14 (by decide)).trans rfl | 15, _ => (hlow 15 (by decide)).trans rfl | 16, _ => (hlow 16 (by decide)).trans rfl | 17, _ => RgX.val_at (hok 0 17 _ (by decide) rfl rfl) | 18, _ => RgX.val_at (hok 1 18 _ (by decide) rfl rfl) | 19, _ => RgX.val_at (hok 2 19 _ (by decide) rfl rfl) | 20, _ => RgX.val_at (hok 3 20 _ (by decide) rfl rfl) | 21, _ => RgX.val_at (hok 4 21 _ (by decide) rfl rfl) | 22, _ => RgX.val_at (hok 5 22 _ (by decide) rfl rfl) | 23, _ => RgX.val_at (hok 6 23 _ (by decide) rfl rfl) | 24, _ => RgX.val_at (hok 7 24 _ (by decide) rfl rfl) | 25, _ => RgX.val_at (hok 8 25 _ (by decide) rfl rfl) | 26, _ => RgX.val_at (hok 9 26 _ (by decide) rfl rfl) | 27, _ => (hlow 27 (by decide)).trans rfl | 28, _ => (hlow 28 (by decide)).trans rfl | 29, _ => (hlow 29 (by decide)).trans rfl | 30, _ => (hlow 30 (by decide)).trans rfl | 31, _ => (hlow 31 (by decide)).trans rfl | 32, _ => (hlow 32 (by decide)).trans rfl | 33, _ => (hlow 33 (by decide)).trans rfl | 34, _ => (hlow 34 (by decide)).trans rfl | 35, _ => (hlow 35 (by decide)).trans rfl | n + 36, h => absurd h (by show ¬ n + 36 < 36; omega))
      clear hs hd hlow hok 
      have HBN := Lib.hid (HB.out.trans (hS.mono HB.out.size))
      by_cases hz : R = 0
      · subst hz
        have HR := Lib.hid (show NM.cmpAsks l1 l2 = NM.cmpAsks (l1.drop (k + 1)) (l2.drop (k + 1)) by rw [HD.out]; unfold NM.orI; rw [if_pos rfl])
        clear HD
        go_wp2_with fail
        go_roundw
        case rel => exact ⟨k + 1, by omega, by go_num, HR, HBN.out⟩
        case measure => simp [intOf]; omega
      · have hne : (R != 0) = true := by simpa using hz
        have HR := Lib.hid (show NM.cmpAsks l1 l2 = R by rw [HD.out]; unfold NM.orI; rw [if_neg hz])
        clear HD
        go_wp2_with fail
        go_ret
        exact ⟨by rw [HR.out]; rfl, HBN.out⟩
    · have HR := Lib.hid (show NM.cmpAsks l1 l2 = NM.cmpI n1 n2 by
        have h1 := H1.out.1
        have h2 := H2.out.1
        rw [HE.out, cmpAsks_end (by rcases (show n1 ≤ k ∨ n2 ≤ k by omega) with h | h; exact .inl (List.drop_eq_nil_of_le (by omega)); exact .inr (List.drop_eq_nil_of_le (by omega))), List.length_drop, List.length_drop, h1, h2]
        exact cmpI_sub (by omega) (by omega))
      clear HE
      go_wp2_with (go_at_call 49; refine (cmp_any _ _ _).mono ?_; rintro e w5 ⟨rfl, rfl⟩)
      go_ret
      exact ⟨by rw [HR.out]; rfl, HB.out⟩
theorem cmpLists_any {A1 A2 : Option Addr} {n1 n2 m1 m2 : Nat} {l1 l2 : List (NM.Qu × Int)} (w : World) (h1 : Asks w A1 n1 l1) (h2 : Asks w A2 n2 l2) (b1 : n1 ≤ 100) (b2 : n2 ≤ 100) :
    Calls Tryz.prog 23 #[.slice A1 n1 m1, .slice A2 n2 m2, .func (.func 24) #[] #[]] w fun e w' => e = .returned (.int .i64 (NM.cmpAsks l1 l2)) ∧ Below w.heap.size w w' := by
  by_cases hd : n2 < n1
  · exact cmpLists_2 w h1 h2 b1 b2 (decide_eq_true hd)
  · exact cmpLists_1 w h1 h2 b1 b2 (decide_eq_false hd)
theorem row11 {V : World} {g : Nat} {t : TypeId} {x0 x1 x2 x3 x4 x5 x6 x7 x8 x9 x10 : Value} (h : V.heap[g]? = some (.cells #[x0, x1, x2, x3, x4, x5, x6, x7, x8, x9, x10] t (0, 0))) : V.cell? ⟨g, 0, none⟩ = some x0 ∧ V.cell? ⟨g, 1, none⟩ = some x1 ∧ V.cell? ⟨g, 2, none⟩ = some x2 ∧ V.cell? ⟨g, 3, none⟩ = some x3 ∧ V.cell? ⟨g, 4, none⟩ = some x4 ∧ V.cell? ⟨g, 5, none⟩ = some x5 ∧ V.cell? ⟨g, 6, none⟩ = some x6 ∧ V.cell? ⟨g, 7, none⟩ = some x7 ∧ V.cell? ⟨g, 8, none⟩ = some x8 ∧ V.cell? ⟨g, 9, none⟩ = some x9 ∧ V.cell? ⟨g, 10, none⟩ = some x10 :=
  ⟨cell_of_row _ _ 0 _ _ (0, 0) h, cell_of_row _ _ 1 _ _ (0, 0) h, cell_of_row _ _ 2 _ _ (0, 0) h, cell_of_row _ _ 3 _ _ (0, 0) h, cell_of_row _ _ 4 _ _ (0, 0) h, cell_of_row _ _ 5 _ _ (0, 0) h, cell_of_row _ _ 6 _ _ (0, 0) h, cell_of_row _ _ 7 _ _ (0, 0) h, cell_of_row _ _ 8 _ _ (0, 0) h, cell_of_row _ _ 9 _ _ (0, 0) h, cell_of_row _ _ 10 _ _ (0, 0) h⟩
set_option maxHeartbeats 4000000 in
set_option maxRecDepth 100000 in
theorem cmpStep_any (k n a c h t i p k2 n2_ a2 c2 h2 t2 i2 p2 : Int) (A1 A2 B1 B2 : Option Addr) (n1 m1 n2 m2 pp1 q1 pp2 q2 : Nat) (o1 o2 : Bool) {l1 l2 : List (NM.Qu × Int)} (w : World) (ha1 : Asks w A1 n1 l1) (ha2 : Asks w A2 n2 l2) (b1 : n1 ≤ 100) (b2 : n2 ≤ 100) :
    Calls Tryz.prog 8 #[.agg #[.int .i64 k, .int .i64 n, .int .i64 a, .int .i64 c, .int .i64 h, .int .i64 t, .int .i64 i, .int .i64 p, .slice A1 n1 m1, .bool o1, .slice B1 pp1 q1], .agg #[.int .i64 k2, .int .i64 n2_, .int .i64 a2, .int .i64 c2, .int .i64 h2, .int .i64 t2, .int .i64 i2, .int .i64 p2, .slice A2 n2 m2, .bool o2, .slice B2 pp2 q2]] w fun e w' => e = .returned (.int .i64 (NM.orI (NM.lexL (NM.evL ⟨k, n, a, ⟨c, h, t, i, p⟩⟩) (NM.evL ⟨k2, n2_, a2, ⟨c2, h2, t2, i2, p2⟩⟩)) (NM.cmpAsks l1 l2))) ∧ Below w.heap.size w w' := by
  obtain ⟨U, hU, hb, k1_, k2_, hlt⟩ := two_boxes w (.cells #[.int .i64 k, .int .i64 n, .int .i64 a, .int .i64 c, .int .i64 h, .int .i64 t, .int .i64 i, .int .i64 p, .slice A1 n1 m1, .bool o1, .slice B1 pp1 q1] 32) (.cells #[.int .i64 k2, .int .i64 n2_, .int .i64 a2, .int .i64 c2, .int .i64 h2, .int .i64 t2, .int .i64 i2, .int .i64 p2, .slice A2 n2 m2, .bool o2, .slice B2 pp2 q2] 32)
  have HK := Lib.hid (fun (V : World) (hV : Below U.heap.size U V) => And.intro (row11 ((hV.block _ (by omega)).trans k1_)) (row11 ((hV.block _ hlt).trans k2_)))
  have HL := Lib.hid (fun (V : World) (hV : Below U.heap.size U V) => cmpLists_any (m1 := m1) (m2 := m2) V (ha1.keep (hb.trans (hV.mono hb.size))) (ha2.keep (hb.trans (hV.mono hb.size))) b1 b2)
  have HE := Lib.hid (show ∀ V, Calls Tryz.prog 22 #[.agg #[.int .i64 k, .int .i64 n, .int .i64 a, .int .i64 c, .int .i64 h, .int .i64 t, .int .i64 i, .int .i64 p], .agg #[.int .i64 k2, .int .i64 n2_, .int .i64 a2, .int .i64 c2, .int .i64 h2, .int .i64 t2, .int .i64 i2, .int .i64 p2]] V fun e w' => e = .returned (.int .i64 (NM.lexL (NM.evL ⟨k, n, a, ⟨c, h, t, i, p⟩⟩) (NM.evL ⟨k2, n2_, a2, ⟨c2, h2, t2, i2, p2⟩⟩))) ∧ Below V.heap.size V w' from fun V => cmpEv_any ⟨k, n, a, ⟨c, h, t, i, p⟩⟩ ⟨k2, n2_, a2, ⟨c2, h2, t2, i2, p2⟩⟩ V)
  have HB := Lib.hid hb
  clear k1_ k2_ hb ha1 ha2
  generalize (NM.lexL (NM.evL ⟨k, n, a, ⟨c, h, t, i, p⟩⟩) (NM.evL ⟨k2, n2_, a2, ⟨c2, h2, t2, i2, p2⟩⟩)) = R1 at *
  generalize NM.cmpAsks l1 l2 = R2 at *
  go_enter Tryz.func8, Tryz.ntmps8
  go_wp2_with fail
  clear hU
  refine RgX.region 13 (fun i => (if i = 12 then 4 else 5 + i)) (fun ix_ => match ix_ with | 0 => .v (.pointer (some ⟨w.heap.size, 0, none⟩)) | 1 => .v (.agg #[.int .i64 k, .int .i64 n, .int .i64 a, .int .i64 c, .int .i64 h, .int .i64 t, .int .i64 i, .int .i64 p]) | 2 => .v (.pointer (some ⟨w.heap.size + 1, 0, none⟩)) | 3 => .v (.agg #[.int .i64 k2, .int .i64 n2_, .int .i64 a2, .int .i64 c2, .int .i64 h2, .int .i64 t2, .int .i64 i2, .int .i64 p2]) | 4 => .v (.int .i64 R1) | 5 => .v (.pointer (some ⟨w.heap.size, 8, none⟩)) | 6 => .v (.slice A1 n1 m1) | 7 => .v (.pointer (some ⟨w.heap.size + 1, 8, none⟩)) | 8 => .v (.slice A2 n2 m2) | 9 => .v (.int .i64 R2) | 10 => .row #[.int .i64 R1, .int .i64 R2] 3 2 | 11 => .v (.int .i64 (NM.orI R1 R2)) | 12 => .v (.int .i64 (NM.orI R1 R2)) | _ => .any) (by kernel_rfl) rfl (by kernel_rfl)  (fun i hi => by show (if i = 12 then 4 else 5 + i) < 17; (repeat' split) <;> omega) (fun i j hi hj => by show (if i = 12 then 4 else 5 + i) = (if j = 12 then 4 else 5 + j) → i = j; (repeat' split) <;> omega) ?step ?fin
  case step =>
    intro L_ A_ w3 ix op_ hI ho hdep
    have hi : ix < 13 := (Array.getElem?_eq_some_iff.1 ho).1
    have hcase : ix = 0 ∨ ix = 1 ∨ ix = 2 ∨ ix = 3 ∨ ix = 4 ∨ ix = 5 ∨ ix = 6 ∨ ix = 7 ∨ ix = 8 ∨ ix = 9 ∨ ix = 10 ∨ ix = 11 ∨ ix = 12 := by omega
    have hh := hI.held
    clear hi
    rcases hcase with rfl | rfl | rfl | rfl | rfl | rfl | rfl | rfl | rfl | rfl | rfl | rfl | rfl
    · simp only [List.getElem?_toArray, List.getElem?_cons_zero, Option.some.injEq] at ho
      subst ho
      refine ⟨rfl, ?_⟩
      have e2 : A_.tmps[2]?.getD undef = .pointer (some ⟨w.heap.size, 0, none⟩) := by rw [hI.low 2 (by decide)]; rfl
      clear hI hdep
      exact .run rfl (.pointer (some ⟨w.heap.size, 0, none⟩)) w3 (by simp [execOp, go_sem, Act.eval, e2]) (Below.refl _ _) rfl
    · simp only [List.getElem?_toArray, List.getElem?_cons_succ, List.getElem?_cons_zero, Option.some.injEq] at ho
      subst ho
      refine ⟨rfl, ?_⟩
      have e5 : A_.tmps[5]?.getD undef = .pointer (some ⟨w.heap.size, 0, none⟩) := getD_of (hI.val_ (i := 0) rfl rfl (by decide) (hdep ⟨0, .data⟩ (by simp) rfl))
      clear hI hdep
      obtain ⟨⟨d0, d1, d2, d3, d4, d5, d6, d7, d8, d9, d10⟩, f0, f1, f2, f3, f4, f5, f6, f7, f8, f9, f10⟩ := HK.out w3 hh
      exact .run rfl (.agg #[.int .i64 k, .int .i64 n, .int .i64 a, .int .i64 c, .int .i64 h, .int .i64 t, .int .i64 i, .int .i64 p]) w3 (by simp [execOp, go_sem, Act.eval, *]) (Below.refl _ _) rfl
    · simp only [List.getElem?_toArray, List.getElem?_cons_succ, List.getElem?_cons_zero, Option.some.injEq] at ho
      subst ho
      refine ⟨rfl, ?_⟩
      have e3 : A_.tmps[3]?.getD undef = .pointer (some ⟨w.heap.size + 1, 0, none⟩) := by rw [hI.low 3 (by decide)]; rfl
      clear hI hdep
      exact .run rfl (.pointer (some ⟨w.heap.size + 1, 0, none⟩)) w3 (by simp [execOp, go_sem, Act.eval, e3]) (Below.refl _ _) rfl
    · simp only [List.getElem?_toArray, List.getElem?_cons_succ, List.getElem?_cons_zero, Option.some.injEq] at ho
      subst ho
      refine ⟨rfl, ?_⟩
      have e7 : A_.tmps[7]?.getD undef = .pointer (some ⟨w.heap.size + 1, 0, none⟩) := getD_of (hI.val_ (i := 2) rfl rfl (by decide) (hdep ⟨2, .data⟩ (by simp) rfl))
      clear hI hdep
      obtain ⟨⟨d0, d1, d2, d3, d4, d5, d6, d7, d8, d9, d10⟩, f0, f1, f2, f3, f4, f5, f6, f7, f8, f9, f10⟩ := HK.out w3 hh
      exact .run rfl (.agg #[.int .i64 k2, .int .i64 n2_, .int .i64 a2, .int .i64 c2, .int .i64 h2, .int .i64 t2, .int .i64 i2, .int .i64 p2]) w3 (by simp [execOp, go_sem, Act.eval, *]) (Below.refl _ _) rfl
    · simp only [List.getElem?_toArray, List.getElem?_cons_succ, List.getElem?_cons_zero, Option.some.injEq] at ho
      subst ho
      refine ⟨rfl, ?_⟩
      have e6 : A_.tmps[6]?.getD undef = .agg #[.int .i64 k, .int .i64 n, .int .i64 a, .int .i64 c, .int .i64 h, .int .i64 t, .int .i64 i, .int .i64 p] := getD_of (hI.val_ (i := 1) rfl rfl (by decide) (hdep ⟨1, .data⟩ (by simp) rfl))
      have e8 : A_.tmps[8]?.getD undef = .agg #[.int .i64 k2, .int .i64 n2_, .int .i64 a2, .int .i64 c2, .int .i64 h2, .int .i64 t2, .int .i64 i2, .int .i64 p2] := getD_of (hI.val_ (i := 3) rfl rfl (by decide) (hdep ⟨3, .data⟩ (by simp) rfl))
      clear hI hdep
      exact .call rfl 22 #[.agg #[.int .i64 k, .int .i64 n, .int .i64 a, .int .i64 c, .int .i64 h, .int .i64 t, .int .i64 i, .int .i64 p], .agg #[.int .i64 k2, .int .i64 n2_, .int .i64 a2, .int .i64 c2, .int .i64 h2, .int .i64 t2, .int .i64 i2, .int .i64 p2]] (by simp [go_sem, Act.eval, e6, e8]) ((HE.out w3).mono fun _ _ ⟨h1_, h2_⟩ => ⟨⟨_, h1_, rfl⟩, h2_⟩)
    · simp only [List.getElem?_toArray, List.getElem?_cons_succ, List.getElem?_cons_zero, Option.some.injEq] at ho
      subst ho
      refine ⟨rfl, ?_⟩
      have e2 : A_.tmps[2]?.getD undef = .pointer (some ⟨w.heap.size, 0, none⟩) := by rw [hI.low 2 (by decide)]; rfl
      clear hI hdep
      exact .run rfl (.pointer (some ⟨w.heap.size, 8, none⟩)) w3 (by simp [execOp, go_sem, Act.eval, e2]) (Below.refl _ _) rfl
    · simp only [List.getElem?_toArray, List.getElem?_cons_succ, List.getElem?_cons_zero, Option.some.injEq] at ho
      subst ho
      refine ⟨rfl, ?_⟩
      have e10 : A_.tmps[10]?.getD undef = .pointer (some ⟨w.heap.size, 8, none⟩) := getD_of (hI.val_ (i := 5) rfl rfl (by decide) (hdep ⟨5, .data⟩ (by simp) rfl))
      clear hI hdep
      obtain ⟨⟨d0, d1, d2, d3, d4, d5, d6, d7, d8, d9, d10⟩, f0, f1, f2, f3, f4, f5, f6, f7, f8, f9, f10⟩ := HK.out w3 hh
      exact .run rfl (.slice A1 n1 m1) w3 (by simp [execOp, go_sem, Act.eval, *]) (Below.refl _ _) rfl
    · simp only [List.getElem?_toArray, List.getElem?_cons_succ, List.getElem?_cons_zero, Option.some.injEq] at ho
      subst ho
      refine ⟨rfl, ?_⟩
      have e3 : A_.tmps[3]?.getD undef = .pointer (some ⟨w.heap.size + 1, 0, none⟩) := by rw [hI.low 3 (by decide)]; rfl
      clear hI hdep
      exact .run rfl (.pointer (some ⟨w.heap.size + 1, 8, none⟩)) w3 (by simp [execOp, go_sem, Act.eval, e3]) (Below.refl _ _) rfl
    · simp only [List.getElem?_toArray, List.getElem?_cons_succ, List.getElem?_cons_zero, Option.some.injEq] at ho
      subst ho
      refine ⟨rfl, ?_⟩
      have e12 : A_.tmps[12]?.getD undef = .pointer (some ⟨w.heap.size + 1, 8, none⟩) := getD_of (hI.val_ (i := 7) rfl rfl (by decide) (hdep ⟨7, .data⟩ (by simp) rfl))
      clear hI hdep
      obtain ⟨⟨d0, d1, d2, d3, d4, d5, d6, d7, d8, d9, d10⟩, f0, f1, f2, f3, f4, f5, f6, f7, f8, f9, f10⟩ := HK.out w3 hh
      exact .run rfl (.slice A2 n2 m2) w3 (by simp [execOp, go_sem, Act.eval, *]) (Below.refl _ _) rfl
    · simp only [List.getElem?_toArray, List.getElem?_cons_succ, List.getElem?_cons_zero, Option.some.injEq] at ho
      subst ho
      refine ⟨rfl, ?_⟩
      have e11 : A_.tmps[11]?.getD undef = .slice A1 n1 m1 := getD_of (hI.val_ (i := 6) rfl rfl (by decide) (hdep ⟨6, .data⟩ (by simp) rfl))
      have e13 : A_.tmps[13]?.getD undef = .slice A2 n2 m2 := getD_of (hI.val_ (i := 8) rfl rfl (by decide) (hdep ⟨8, .data⟩ (by simp) rfl))
      clear hI hdep
      exact .call rfl 23 #[.slice A1 n1 m1, .slice A2 n2 m2, .func (.func 24) #[] #[]] (by simp [go_sem, Act.eval, e11, e13]) ((HL.out w3 hh).mono fun _ _ ⟨h1_, h2_⟩ => ⟨⟨_, h1_, rfl⟩, h2_⟩)
    · simp only [List.getElem?_toArray, List.getElem?_cons_succ, List.getElem?_cons_zero, Option.some.injEq] at ho
      subst ho
      refine ⟨rfl, ?_⟩
      have e9 : A_.tmps[9]?.getD undef = .int .i64 R1 := getD_of (hI.val_ (i := 4) rfl rfl (by decide) (hdep ⟨4, .data⟩ (by simp) rfl))
      have e14 : A_.tmps[14]?.getD undef = .int .i64 R2 := getD_of (hI.val_ (i := 9) rfl rfl (by decide) (hdep ⟨9, .data⟩ (by simp) rfl))
      clear hI hdep
      exact .run rfl (.slice (some ⟨w3.heap.size, 0, none⟩) 2 2) (w3.alloc (.cells #[.int .i64 R1, .int .i64 R2] 3)) (by simp [execOp, go_sem, Act.eval, e9, e14]) ((Below.refl _ _).alloc (Nat.le_refl _) _) (RgX.row_new _ _ _ _)
    · simp only [List.getElem?_toArray, List.getElem?_cons_succ, List.getElem?_cons_zero, Option.some.injEq] at ho
      subst ho
      refine ⟨rfl, ?_⟩
      obtain ⟨_, e15, g15, rfl, r15⟩ := hI.get_ (i := 10) (j := 15) rfl rfl (by decide) (hdep ⟨10, .data⟩ (by simp) rfl)
      clear hI hdep
      exact .call rfl 21 #[.slice (some ⟨g15, 0, none⟩) 2 2] (by simp [go_sem, Act.eval, e15]) ((or_below r15).mono fun _ _ ⟨h1_, h2_⟩ => ⟨⟨_, h1_, rfl⟩, h2_⟩)
    · simp only [List.getElem?_toArray, List.getElem?_cons_succ, List.getElem?_cons_zero, Option.some.injEq] at ho
      subst ho
      refine ⟨rfl, ?_⟩
      have e16 : A_.tmps[16]?.getD undef = .int .i64 (NM.orI R1 R2) := getD_of (hI.val_ (i := 11) rfl rfl (by decide) (hdep ⟨11, .data⟩ (by simp) rfl))
      clear hI hdep
      exact .run rfl (.int .i64 (NM.orI R1 R2)) w3 (by simp [execOp, go_sem, Act.eval, e16]) (Below.refl _ _) rfl
  case fin =>
  intro A_ w3 hs hd hlow hS hok
  obtain ⟨_, hy15, g15, rfl, r15⟩ := hok 10 15 _ (by decide) rfl rfl
  obtain rfl : A_ = ⟨#[.agg #[.int .i64 k, .int .i64 n, .int .i64 a, .int .i64 c, .int .i64 h, .int .i64 t, .int .i64 i, .int .i64 p, .slice A1 n1 m1, .bool o1, .slice B1 pp1 q1], .agg #[.int .i64 k2, .int .i64 n2_, .int .i64 a2, .int .i64 c2, .int .i64 h2, .int .i64 t2, .int .i64 i2, .int .i64 p2, .slice A2 n2 m2, .bool o2, .slice B2 pp2 q2], .pointer (some ⟨w.heap.size, 0, none⟩), .pointer (some ⟨w.heap.size + 1, 0, none⟩), .int .i64 (NM.orI R1 R2), .pointer (some ⟨w.heap.size, 0, none⟩), .agg #[.int .i64 k, .int .i64 n, .int .i64 a, .int .i64 c, .int .i64 h, .int .i64 t, .int .i64 i, .int .i64 p], .pointer (some ⟨w.heap.size + 1, 0, none⟩), .agg #[.int .i64 k2, .int .i64 n2_, .int .i64 a2, .int .i64 c2, .int .i64 h2, .int .i64 t2, .int .i64 i2, .int .i64 p2], .int .i64 R1, .pointer (some ⟨w.heap.size, 8, none⟩), .slice A1 n1 m1, .pointer (some ⟨w.heap.size + 1, 8, none⟩), .slice A2 n2 m2, .int .i64 R2, .slice (some ⟨g15, 0, none⟩) 2 2, .int .i64 (NM.orI R1 R2)], []⟩ := act_ext hd hs (fun j hj => match j, hj with | 0, _ => (hlow 0 (by decide)).trans rfl | 1, _ => (hlow 1 (by decide)).trans rfl | 2, _ => (hlow 2 (by decide)).trans rfl | 3, _ => (hlow 3 (by decide)).trans rfl | 4, _ => RgX.val_at (hok 12 4 _ (by decide) rfl rfl) | 5, _ => RgX.val_at (hok 0 5 _ (by decide) rfl rfl) | 6, _ => RgX.val_at (hok 1 6 _ (by decide) rfl rfl) | 7, _ => RgX.val_at (hok 2 7 _ (by decide) rfl rfl) | 8, _ => RgX.val_at (hok 3 8 _ (by decide) rfl rfl) | 9, _ => RgX.val_at (hok 4 9 _ (by decide) rfl rfl) | 10, _ => RgX.val_at (hok 5 10 _ (by decide) rfl rfl) | 11, _ => RgX.val_at (hok 6 11 _ (by decide) rfl rfl) | 12, _ => RgX.val_at (hok 7 12 _ (by decide) rfl rfl) | 13, _ => RgX.val_at (hok 8 13 _ (by decide) rfl rfl) | 14, _ => RgX.val_at (hok 9 14 _ (by decide) rfl rfl) | 15, _ => hy15 | 16, _ => RgX.val_at (hok 11 16 _ (by decide) rfl rfl) | n + 17, h => absurd h (by show ¬ n + 17 < 17; omega))
  clear hs hd hlow hok hy15
  go_wp2_with fail
  go_ret
  exact ⟨rfl, HB.out.trans (hS.mono HB.out.size)⟩
end Go.Proofs.YtggallpnbbidfaaGreatDoor
