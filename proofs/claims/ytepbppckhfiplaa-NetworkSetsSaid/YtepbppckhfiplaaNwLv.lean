/-
  The example that every law of network ends in. No condition.
-/
import Derived.Test.YtepbppckhfiplaaNwX
import Derived.Test.YtepbppckhfiplaaNwK
import Derived.Test.YtepbppckhfiplaaNwT
import Derived.Test.YtepbppckhfiplaaNwE
namespace Go.Proofs.Ytepbppckhfiplaa
open Go Go.RowKit Go.Proofs
attribute [local go_sem] Oper.semAt_some

def NW.exA : NW.En := ⟨⟨1, 0, 0, 0, 0⟩, 2, 0, 5, 0⟩
def NW.exB : NW.En := ⟨⟨0, 0, 0, 0, 0⟩, 1, 0, 0, 0⟩
theorem NW.ex_has1 : NW.has [NW.exA] NW.exB.m = false := by decide
theorem NW.ex_put : NW.put [NW.exA] NW.exB = [NW.exB, NW.exA] := by decide
theorem NW.ex_srt1 : NW.Srt [NW.exA] := List.pairwise_singleton _ _
theorem NW.ex_srt2 : NW.Srt [NW.exB, NW.exA] := by
  refine List.Pairwise.cons (fun y hy => ?_) (List.pairwise_singleton _ _)
  obtain rfl := List.mem_singleton.1 hy
  decide
theorem NW.ex_has2 : NW.has [NW.exB, NW.exA] NW.exB.m = true := by decide
theorem NW.ex_has3 : NW.has [NW.exB, NW.exA] NW.exA.m = true := by decide
theorem NW.ex_find : NW.find [NW.exB, NW.exA] NW.exA.m = some NW.exA := by decide
theorem NW.ex_to : NW.toL [NW.exB, NW.exA] 2 = [NW.exA.m] := by decide
theorem NW.ex_rem : NW.rem [NW.exB, NW.exA] NW.exB.m = [NW.exA] := by decide
/-- A block that holds the cells of a list. -/
theorem RS.Sl.of_block {α : Type} {E : RS.Enc α} {w : World} {g n : Nat} {t : TypeId} {l : List α} (h : w.heap[g]? = some (.cells (RS.flat E l).toArray t (0, 0))) (hl : l.length = n) (hn : n ≤ maxLen) : RS.Sl E w (some ⟨g, 0, none⟩) n n l :=
  ⟨hl, Nat.le_refl _, hn, .inr ⟨g, rfl, (Array.getElem?_eq_some_iff.1 h).1, fun j x hj o u hu => by
    have ho : o < E.k := by rw [← E.len x]; exact (List.getElem?_eq_some_iff.1 hu).1
    rw [cell_of_row _ _ _ _ _ (0, 0) h, List.getElem?_toArray, RS.flat_at hj ho]
    exact hu⟩⟩
theorem to_sp {A : Option Addr} {n c m : Nat} {l : List NW.En} {r : List NM.Ms} (v : Int) (w : World) (h1 : Ens w A n c l) (bn : n ≤ 100000) (hr : NW.toL l v = r) (hm : r.length = m) :
    Calls Try.prog 22 #[.slice A n c, .int .i64 v] w fun e w' => (∃ x, e = .returned x ∧ (RgX.Sp.mss r m).p w' x) ∧ Below w.heap.size w w' := by
  refine (to_any v w h1 bn).mono ?_
  rintro e w' ⟨⟨B, c', rfl, h⟩, hb⟩
  rw [hr, hm] at h
  rw [hr, hm]
  exact ⟨⟨_, rfl, B, c', rfl, h⟩, hb⟩
theorem remove_sp {A : Option Addr} {n c q : Nat} {l r : List NW.En} (m : NM.Ms) (w : World) (h1 : Ens w A n c l) (hs : NW.Srt l) (bn : n ≤ 1000) (hr : NW.rem l m = r) (hq : r.length = q) :
    Calls Try.prog 16 #[.slice A n c, msV m] w fun e w' => (∃ x, e = .returned x ∧ (RgX.Sp.ens 0 r q).p w' x) ∧ Below w.heap.size w w' := by
  refine (remove_any m w h1 hs bn).mono ?_
  rintro e w' ⟨⟨B, c', rfl, h⟩, hb⟩
  rw [hr, hq] at h
  rw [hr, hq]
  exact ⟨⟨_, rfl, B, c', rfl, h, fun _ _ => Nat.zero_le _⟩, hb⟩
theorem sameEn_true {A1 A2 : Option Addr} {n1 c1 n2 c2 : Nat} {l : List NW.En} (w : World) (h1 : Ens w A1 n1 c1 l) (h2 : Ens w A2 n2 c2 l) (bn : n1 ≤ 1000000) : Calls Try.prog 15 #[.slice A1 n1 c1, .slice A2 n2 c2] w fun e w' => e = .returned (.bool true) ∧ Below w.heap.size w w' :=
  (sameEn_any w h1 h2 bn).mono fun _ _ ⟨h, hb⟩ => ⟨by rw [h, decide_eq_true rfl], hb⟩
theorem sameMs_true {A1 A2 : Option Addr} {n1 c1 n2 c2 : Nat} {l : List NM.Ms} (w : World) (h1 : Mss w A1 n1 c1 l) (h2 : Mss w A2 n2 c2 l) (bn : n1 ≤ 1000000) : Calls Try.prog 21 #[.slice A1 n1 c1, .slice A2 n2 c2] w fun e w' => e = .returned (.bool true) ∧ Below w.heap.size w w' :=
  (sameMs_any w h1 h2 bn).mono fun _ _ ⟨h, hb⟩ => ⟨by rw [h, decide_eq_true rfl], hb⟩
theorem ex_add1 (V : World) : Calls Try.prog 11 #[.slice none 0 0, .agg #[.int .i64 1, .int .i64 0, .int .i64 0, .int .i64 0, .int .i64 0, .int .i64 2, .int .i64 0, .int .i64 5, .int .i64 0]] V fun e w' => (∃ B c', e = .returned (.tuple #[.slice B 1 c', .int .i64 0]) ∧ Ens w' B 1 c' [NW.exA]) ∧ Below V.heap.size V w' :=
  (add_none NW.exA V).mono fun _ _ ⟨⟨B, c', h1, h2, _⟩, h3⟩ => ⟨⟨B, c', h1, h2⟩, h3⟩
theorem ex_add2 {B : Option Addr} {c : Nat} (V : World) (h : Ens V B 1 c [NW.exA]) : Calls Try.prog 11 #[.slice B 1 c, .agg #[.int .i64 0, .int .i64 0, .int .i64 0, .int .i64 0, .int .i64 0, .int .i64 1, .int .i64 0, .int .i64 0, .int .i64 0]] V fun e w' => (∃ B c', e = .returned (.tuple #[.slice B 2 c', .int .i64 0]) ∧ Ens w' B 2 c' [NW.exB, NW.exA]) ∧ Below V.heap.size V w' := by
  refine (add_any NW.exB V h NW.ex_srt1 (by omega)).mono ?_
  rintro e w' ⟨⟨B', q, c', rfl, h2, _⟩, h3⟩
  rw [NW.ex_has1] at h2 ⊢
  simp only [Bool.false_eq_true, if_false, NW.ex_put] at h2 ⊢
  obtain rfl : q = 2 := h2.len.symm
  exact ⟨⟨B', c', rfl, h2⟩, h3⟩
theorem ex_add3 {B : Option Addr} {c : Nat} (V : World) (h : Ens V B 2 c [NW.exB, NW.exA]) : Calls Try.prog 11 #[.slice B 2 c, .agg #[.int .i64 0, .int .i64 0, .int .i64 0, .int .i64 0, .int .i64 0, .int .i64 1, .int .i64 0, .int .i64 0, .int .i64 0]] V fun e w' => e = .returned (.tuple #[.slice none 0 0, .int .i64 4]) ∧ Below V.heap.size V w' :=
  add_dup NW.exB V h NW.ex_srt2 (by omega) NW.ex_has2
theorem ex_find {B : Option Addr} {c : Nat} (V : World) (h : Ens V B 2 c [NW.exB, NW.exA]) : Calls Try.prog 13 #[.slice B 2 c, .agg #[.int .i64 1, .int .i64 0, .int .i64 0, .int .i64 0, .int .i64 0]] V fun e w' => e = .returned (.tuple #[.agg #[.int .i64 1, .int .i64 0, .int .i64 0, .int .i64 0, .int .i64 0, .int .i64 2, .int .i64 0, .int .i64 5, .int .i64 0], .bool true]) ∧ Below V.heap.size V w' := by
  refine (find_any NW.exA.m V h NW.ex_srt2 (by omega)).mono ?_
  rintro e w' ⟨rfl, h3⟩
  rw [NW.ex_find, NW.ex_has3]
  exact ⟨rfl, h3⟩
set_option maxHeartbeats 4000000 in
set_option maxRecDepth 100000 in
theorem lives_any (w : World) : Calls Try.prog 24 #[] w fun e w' => e = .returned (.bool true) ∧ Below w.heap.size w w' := by
  go_enter Try.func24, Try.ntmps24
  go_upto_region 3 with (fail)
  obtain ⟨U, hU, hb, k1, k2, hlt⟩ := two_boxes w (.cells #[.int .i64 1, .int .i64 0, .int .i64 0, .int .i64 0, .int .i64 0, .int .i64 2, .int .i64 0, .int .i64 5, .int .i64 0] 28) (.cells #[.int .i64 0, .int .i64 0, .int .i64 0, .int .i64 0, .int .i64 0, .int .i64 1, .int .i64 0, .int .i64 0, .int .i64 0] 28)
  have ka : EnB U w.heap.size NW.exA := k1
  have kb : EnB U (w.heap.size + 1) NW.exB := k2
  have HK := Lib.hid (fun (V : World) (hV : Below U.heap.size U V) => (show (V.cell? ⟨w.heap.size, 0, none⟩ = some (.int .i64 1) ∧ V.cell? ⟨w.heap.size, 1, none⟩ = some (.int .i64 0) ∧ V.cell? ⟨w.heap.size, 2, none⟩ = some (.int .i64 0) ∧ V.cell? ⟨w.heap.size, 3, none⟩ = some (.int .i64 0) ∧ V.cell? ⟨w.heap.size, 4, none⟩ = some (.int .i64 0) ∧ V.cell? ⟨w.heap.size, 5, none⟩ = some (.int .i64 2) ∧ V.cell? ⟨w.heap.size, 6, none⟩ = some (.int .i64 0) ∧ V.cell? ⟨w.heap.size, 7, none⟩ = some (.int .i64 5) ∧ V.cell? ⟨w.heap.size, 8, none⟩ = some (.int .i64 0)) ∧ (V.cell? ⟨w.heap.size + 1, 0, none⟩ = some (.int .i64 0) ∧ V.cell? ⟨w.heap.size + 1, 1, none⟩ = some (.int .i64 0) ∧ V.cell? ⟨w.heap.size + 1, 2, none⟩ = some (.int .i64 0) ∧ V.cell? ⟨w.heap.size + 1, 3, none⟩ = some (.int .i64 0) ∧ V.cell? ⟨w.heap.size + 1, 4, none⟩ = some (.int .i64 0) ∧ V.cell? ⟨w.heap.size + 1, 5, none⟩ = some (.int .i64 1) ∧ V.cell? ⟨w.heap.size + 1, 6, none⟩ = some (.int .i64 0) ∧ V.cell? ⟨w.heap.size + 1, 7, none⟩ = some (.int .i64 0) ∧ V.cell? ⟨w.heap.size + 1, 8, none⟩ = some (.int .i64 0)) from And.intro (ka.keep hV).cells (kb.keep hV).cells))
  have HB := Lib.hid hb
  obtain ⟨⟨x0, x1, x2, x3, x4, x5, x6, x7, x8⟩, y0, y1, y2, y3, y4, y5, y6, y7, y8⟩ := HK.out U (Below.refl _ _)
  rw [hU]
  clear k1 k2 ka kb hb hU
  go_upto_region 4 with (go_at_call 11; (with_reducible refine (ex_add1 _).mono ?_); rintro e w1 ⟨⟨B1, c1, rfl, h1⟩, hb1⟩; have H1 := Lib.hid h1; have HB1 := Lib.hid hb1; clear h1 hb1)
  clear x0 x1 x2 x3 x4 x5 x6 x7 x8 y0 y1 y2 y3 y4 y5 y6 y7 y8
  obtain ⟨⟨x0, x1, x2, x3, x4, x5, x6, x7, x8⟩, y0, y1, y2, y3, y4, y5, y6, y7, y8⟩ := HK.out w1 HB1.out
  go_upto_region 5 with (go_at_call 11; (with_reducible refine (ex_add2 _ H1.out).mono ?_); rintro e w2 ⟨⟨B2, c2, rfl, h2⟩, hb2⟩; have H2 := Lib.hid h2; have HB2 := Lib.hid (HB1.out.trans (hb2.mono HB1.out.size)); clear h2 hb2)
  clear x0 x1 x2 x3 x4 x5 x6 x7 x8 y0 y1 y2 y3 y4 y5 y6 y7 y8
  obtain ⟨⟨x0, x1, x2, x3, x4, x5, x6, x7, x8⟩, y0, y1, y2, y3, y4, y5, y6, y7, y8⟩ := HK.out w2 HB2.out
  go_upto_region 6 with (go_at_call 11; (with_reducible refine (ex_add3 _ H2.out).mono ?_); rintro e w3 ⟨rfl, hb3⟩; have H3 := Lib.hid (H2.out.keep hb3); have HB3 := Lib.hid (HB2.out.trans (hb3.mono HB2.out.size)); clear hb3)
  clear x0 x1 x2 x3 x4 x5 x6 x7 x8 y0 y1 y2 y3 y4 y5 y6 y7 y8
  obtain ⟨⟨x0, x1, x2, x3, x4, x5, x6, x7, x8⟩, y0, y1, y2, y3, y4, y5, y6, y7, y8⟩ := HK.out w3 HB3.out
  go_upto_region 7 with (go_at_call 13; (with_reducible refine (ex_find _ H3.out).mono ?_); rintro e w4 ⟨rfl, hb4⟩; have H4 := Lib.hid (H3.out.keep hb4); have HB4 := Lib.hid (HB3.out.trans (hb4.mono HB3.out.size)); clear hb4)
  clear x0 x1 x2 x3 x4 x5 x6 x7 x8 y0 y1 y2 y3 y4 y5 y6 y7 y8
  obtain ⟨Y, hY⟩ : ∃ Y, w4.alloc (.cells #[.int .i64 1, .int .i64 0, .int .i64 0, .int .i64 0, .int .i64 0, .int .i64 2, .int .i64 0, .int .i64 5, .int .i64 0] 28) = Y := ⟨_, rfl⟩
  rw [hY]
  have hkY : EnB Y w4.heap.size NW.exA := by rw [← hY]; exact new_at rfl
  have hbY : Below w4.heap.size w4 Y := hY ▸ one_box _ _
  have H5 := Lib.hid (H4.out.keep hbY)
  have HB5 := Lib.hid (HB4.out.trans (hbY.mono HB4.out.size))
  have HY := Lib.hid (fun (V : World) (hV : Below Y.heap.size Y V) => (hkY.keep hV).cells)
  clear hY hkY hbY
  refine RgX.region 42 (fun i => (if i = 41 then 0 else 38 + i)) (fun ix_ => match ix_ with | 0 => .v (.int .i64 0) | 1 => .v (.bool true) | 2 => .v (.bool true) | 3 => .v (.int .i64 0) | 4 => .v (.bool true) | 5 => .v (.bool true) | 6 => .v (.bool true) | 7 => .v (.int .i64 4) | 8 => .v (.bool true) | 9 => .v (.bool true) | 10 => .v (.bool true) | 11 => .v (.slice B2 2 c2) | 12 => .v (.agg #[.int .i64 0, .int .i64 0, .int .i64 0, .int .i64 0, .int .i64 0, .int .i64 1, .int .i64 0, .int .i64 0, .int .i64 0]) | 13 => .v (.agg #[.int .i64 1, .int .i64 0, .int .i64 0, .int .i64 0, .int .i64 0, .int .i64 2, .int .i64 0, .int .i64 5, .int .i64 0]) | 14 => .row #[.int .i64 0, .int .i64 0, .int .i64 0, .int .i64 0, .int .i64 0, .int .i64 1, .int .i64 0, .int .i64 0, .int .i64 0, .int .i64 1, .int .i64 0, .int .i64 0, .int .i64 0, .int .i64 0, .int .i64 2, .int .i64 0, .int .i64 5, .int .i64 0] 28 2 | 15 => .v (.bool true) | 16 => .v (.bool true) | 17 => .v (.bool true) | 18 => .v (.bool true) | 19 => .v (.bool true) | 20 => .v (.bool true) | 21 => .v (.agg #[.int .i64 1, .int .i64 0, .int .i64 0, .int .i64 0, .int .i64 0, .int .i64 2, .int .i64 0, .int .i64 5, .int .i64 0]) | 22 => .v (.agg #[.int .i64 1, .int .i64 0, .int .i64 0, .int .i64 0, .int .i64 0, .int .i64 2, .int .i64 0, .int .i64 5, .int .i64 0]) | 23 => .v (.bool true) | 24 => .v (.bool true) | 25 => .v (.bool true) | 26 => .v (.slice B2 2 c2) | 27 => .mss [NW.exA.m] 1 | 28 => .v (.pointer (some ⟨w.heap.size, 0, none⟩)) | 29 => .v (.agg #[.int .i64 1, .int .i64 0, .int .i64 0, .int .i64 0, .int .i64 0]) | 30 => .row #[.int .i64 1, .int .i64 0, .int .i64 0, .int .i64 0, .int .i64 0] 26 1 | 31 => .v (.bool true) | 32 => .v (.bool true) | 33 => .v (.bool true) | 34 => .v (.slice B2 2 c2) | 35 => .v (.pointer (some ⟨w.heap.size + 1, 0, none⟩)) | 36 => .v (.agg #[.int .i64 0, .int .i64 0, .int .i64 0, .int .i64 0, .int .i64 0]) | 37 => .ens 0 [NW.exA] 1 | 38 => .v (.int .i64 (1 : Int)) | 39 => .v (.bool true) | 40 => .v (.bool true) | 41 => .v (.bool true) | _ => .any) (by kernel_rfl) rfl (by kernel_rfl)  (fun i hi => by show (if i = 41 then 0 else 38 + i) < 79; (repeat' split) <;> omega) (fun i j hi hj => by show (if i = 41 then 0 else 38 + i) = (if j = 41 then 0 else 38 + j) → i = j; (repeat' split) <;> omega) ?step ?fin
  case step =>
    intro L_ A_ w3 ix op_ hI ho hdep
    have hi : ix < 42 := (Array.getElem?_eq_some_iff.1 ho).1
    have hcase : ix = 0 ∨ ix = 1 ∨ ix = 2 ∨ ix = 3 ∨ ix = 4 ∨ ix = 5 ∨ ix = 6 ∨ ix = 7 ∨ ix = 8 ∨ ix = 9 ∨ ix = 10 ∨ ix = 11 ∨ ix = 12 ∨ ix = 13 ∨ ix = 14 ∨ ix = 15 ∨ ix = 16 ∨ ix = 17 ∨ ix = 18 ∨ ix = 19 ∨ ix = 20 ∨ ix = 21 ∨ ix = 22 ∨ ix = 23 ∨ ix = 24 ∨ ix = 25 ∨ ix = 26 ∨ ix = 27 ∨ ix = 28 ∨ ix = 29 ∨ ix = 30 ∨ ix = 31 ∨ ix = 32 ∨ ix = 33 ∨ ix = 34 ∨ ix = 35 ∨ ix = 36 ∨ ix = 37 ∨ ix = 38 ∨ ix = 39 ∨ ix = 40 ∨ ix = 41 := by omega
    have hh := hI.held
    clear hi
    rcases hcase with rfl | rfl | rfl | rfl | rfl | rfl | rfl | rfl | rfl | rfl | rfl | rfl | rfl | rfl | rfl | rfl | rfl | rfl | rfl | rfl | rfl | rfl | rfl | rfl | rfl | rfl | rfl | rfl | rfl | rfl | rfl | rfl | rfl | rfl | rfl | rfl | rfl | rfl | rfl | rfl | rfl | rfl
    · simp only [List.getElem?_toArray, List.getElem?_cons_zero, Option.some.injEq] at ho
      subst ho
      refine ⟨rfl, ?_⟩
      have e4 : A_.tmps[4]?.getD undef = .int .i64 0 := by rw [hI.low 4 (by decide)]; rfl
      clear hI hdep
      exact .run rfl (.int .i64 0) w3 (by simp [execOp, go_sem, Act.eval, e4]) (Below.refl _ _) rfl
    · simp only [List.getElem?_toArray, List.getElem?_cons_succ, List.getElem?_cons_zero, Option.some.injEq] at ho
      subst ho
      refine ⟨rfl, ?_⟩
      have e38 : A_.tmps[38]?.getD undef = .int .i64 0 := getD_of (hI.val_ (i := 0) rfl rfl (by decide) (hdep ⟨0, .data⟩ (by simp) rfl))
      clear hI hdep
      exact .run rfl (.bool true) w3 (by simp [execOp, go_sem, Act.eval, *]) (Below.refl _ _) rfl
    · simp only [List.getElem?_toArray, List.getElem?_cons_succ, List.getElem?_cons_zero, Option.some.injEq] at ho
      subst ho
      refine ⟨rfl, ?_⟩
      have e39 : A_.tmps[39]?.getD undef = .bool true := getD_of (hI.val_ (i := 1) rfl rfl (by decide) (hdep ⟨1, .data⟩ (by simp) rfl))
      clear hI hdep
      exact .run rfl (.bool true) w3 (by simp [execOp, go_sem, Act.eval, e39]) (Below.refl _ _) rfl
    · simp only [List.getElem?_toArray, List.getElem?_cons_succ, List.getElem?_cons_zero, Option.some.injEq] at ho
      subst ho
      refine ⟨rfl, ?_⟩
      have q40 : A_.tmps[40]? = some (.bool true) := hI.val_ (i := 2) rfl rfl (by decide) (hdep ⟨2, .guard⟩ (by simp) rfl)
      have e5 : A_.tmps[5]?.getD undef = .int .i64 0 := by rw [hI.low 5 (by decide)]; rfl
      clear hI hdep
      exact .run ((wanted_some rfl rfl q40).trans rfl) (.int .i64 0) w3 (by simp [execOp, go_sem, Act.eval, e5]) (Below.refl _ _) rfl
    · simp only [List.getElem?_toArray, List.getElem?_cons_succ, List.getElem?_cons_zero, Option.some.injEq] at ho
      subst ho
      refine ⟨rfl, ?_⟩
      have q40 : A_.tmps[40]? = some (.bool true) := hI.val_ (i := 2) rfl rfl (by decide) (hdep ⟨2, .guard⟩ (by simp) rfl)
      have e41 : A_.tmps[41]?.getD undef = .int .i64 0 := getD_of (hI.val_ (i := 3) rfl rfl (by decide) (hdep ⟨3, .data⟩ (by simp) rfl))
      clear hI hdep
      exact .run ((wanted_some rfl rfl q40).trans rfl) (.bool true) w3 (by simp [execOp, go_sem, Act.eval, *]) (Below.refl _ _) rfl
    · simp only [List.getElem?_toArray, List.getElem?_cons_succ, List.getElem?_cons_zero, Option.some.injEq] at ho
      subst ho
      refine ⟨rfl, ?_⟩
      have e40 : A_.tmps[40]?.getD undef = .bool true := getD_of (hI.val_ (i := 2) rfl rfl (by decide) (hdep ⟨2, .data⟩ (by simp) rfl))
      have e42 : A_.tmps[42]?.getD undef = .bool true := getD_of (hI.val_ (i := 4) rfl rfl (by decide) (hdep ⟨4, .data⟩ (by simp) rfl))
      clear hI hdep
      exact .run rfl (.bool true) w3 (by simp [execOp, go_sem, Act.eval, e40, e42]) (Below.refl _ _) rfl
    · simp only [List.getElem?_toArray, List.getElem?_cons_succ, List.getElem?_cons_zero, Option.some.injEq] at ho
      subst ho
      refine ⟨rfl, ?_⟩
      have e43 : A_.tmps[43]?.getD undef = .bool true := getD_of (hI.val_ (i := 5) rfl rfl (by decide) (hdep ⟨5, .data⟩ (by simp) rfl))
      clear hI hdep
      exact .run rfl (.bool true) w3 (by simp [execOp, go_sem, Act.eval, e43]) (Below.refl _ _) rfl
    · simp only [List.getElem?_toArray, List.getElem?_cons_succ, List.getElem?_cons_zero, Option.some.injEq] at ho
      subst ho
      refine ⟨rfl, ?_⟩
      have q44 : A_.tmps[44]? = some (.bool true) := hI.val_ (i := 6) rfl rfl (by decide) (hdep ⟨6, .guard⟩ (by simp) rfl)
      have e7 : A_.tmps[7]?.getD undef = .int .i64 4 := by rw [hI.low 7 (by decide)]; rfl
      clear hI hdep
      exact .run ((wanted_some rfl rfl q44).trans rfl) (.int .i64 4) w3 (by simp [execOp, go_sem, Act.eval, e7]) (Below.refl _ _) rfl
    · simp only [List.getElem?_toArray, List.getElem?_cons_succ, List.getElem?_cons_zero, Option.some.injEq] at ho
      subst ho
      refine ⟨rfl, ?_⟩
      have q44 : A_.tmps[44]? = some (.bool true) := hI.val_ (i := 6) rfl rfl (by decide) (hdep ⟨6, .guard⟩ (by simp) rfl)
      have e45 : A_.tmps[45]?.getD undef = .int .i64 4 := getD_of (hI.val_ (i := 7) rfl rfl (by decide) (hdep ⟨7, .data⟩ (by simp) rfl))
      clear hI hdep
      exact .run ((wanted_some rfl rfl q44).trans rfl) (.bool true) w3 (by simp [execOp, go_sem, Act.eval, *]) (Below.refl _ _) rfl
    · simp only [List.getElem?_toArray, List.getElem?_cons_succ, List.getElem?_cons_zero, Option.some.injEq] at ho
      subst ho
      refine ⟨rfl, ?_⟩
      have e44 : A_.tmps[44]?.getD undef = .bool true := getD_of (hI.val_ (i := 6) rfl rfl (by decide) (hdep ⟨6, .data⟩ (by simp) rfl))
      have e46 : A_.tmps[46]?.getD undef = .bool true := getD_of (hI.val_ (i := 8) rfl rfl (by decide) (hdep ⟨8, .data⟩ (by simp) rfl))
      clear hI hdep
      exact .run rfl (.bool true) w3 (by simp [execOp, go_sem, Act.eval, e44, e46]) (Below.refl _ _) rfl
    · simp only [List.getElem?_toArray, List.getElem?_cons_succ, List.getElem?_cons_zero, Option.some.injEq] at ho
      subst ho
      refine ⟨rfl, ?_⟩
      have e47 : A_.tmps[47]?.getD undef = .bool true := getD_of (hI.val_ (i := 9) rfl rfl (by decide) (hdep ⟨9, .data⟩ (by simp) rfl))
      clear hI hdep
      exact .run rfl (.bool true) w3 (by simp [execOp, go_sem, Act.eval, e47]) (Below.refl _ _) rfl
    · simp only [List.getElem?_toArray, List.getElem?_cons_succ, List.getElem?_cons_zero, Option.some.injEq] at ho
      subst ho
      refine ⟨rfl, ?_⟩
      have q48 : A_.tmps[48]? = some (.bool true) := hI.val_ (i := 10) rfl rfl (by decide) (hdep ⟨10, .guard⟩ (by simp) rfl)
      have e3 : A_.tmps[3]?.getD undef = .slice B2 2 c2 := by rw [hI.low 3 (by decide)]; rfl
      clear hI hdep
      exact .run ((wanted_some rfl rfl q48).trans rfl) (.slice B2 2 c2) w3 (by simp [execOp, go_sem, Act.eval, e3]) (Below.refl _ _) rfl
    · simp only [List.getElem?_toArray, List.getElem?_cons_succ, List.getElem?_cons_zero, Option.some.injEq] at ho
      subst ho
      refine ⟨rfl, ?_⟩
      have q48 : A_.tmps[48]? = some (.bool true) := hI.val_ (i := 10) rfl rfl (by decide) (hdep ⟨10, .guard⟩ (by simp) rfl)
      have e2 : A_.tmps[2]?.getD undef = .pointer (some ⟨w.heap.size + 1, 0, none⟩) := by rw [hI.low 2 (by decide)]; rfl
      clear hI hdep
      obtain ⟨⟨x0, x1, x2, x3, x4, x5, x6, x7, x8⟩, y0, y1, y2, y3, y4, y5, y6, y7, y8⟩ := HK.out w3 (HB5.out.trans (hh.mono HB5.out.size))
      obtain ⟨z0, z1, z2, z3, z4, z5, z6, z7, z8⟩ := (show w3.cell? ⟨w4.heap.size, 0, none⟩ = some (.int .i64 1) ∧ w3.cell? ⟨w4.heap.size, 1, none⟩ = some (.int .i64 0) ∧ w3.cell? ⟨w4.heap.size, 2, none⟩ = some (.int .i64 0) ∧ w3.cell? ⟨w4.heap.size, 3, none⟩ = some (.int .i64 0) ∧ w3.cell? ⟨w4.heap.size, 4, none⟩ = some (.int .i64 0) ∧ w3.cell? ⟨w4.heap.size, 5, none⟩ = some (.int .i64 2) ∧ w3.cell? ⟨w4.heap.size, 6, none⟩ = some (.int .i64 0) ∧ w3.cell? ⟨w4.heap.size, 7, none⟩ = some (.int .i64 5) ∧ w3.cell? ⟨w4.heap.size, 8, none⟩ = some (.int .i64 0) from HY.out w3 hh)
      exact .run ((wanted_some rfl rfl q48).trans rfl) (.agg #[.int .i64 0, .int .i64 0, .int .i64 0, .int .i64 0, .int .i64 0, .int .i64 1, .int .i64 0, .int .i64 0, .int .i64 0]) w3 (by simp [execOp, go_sem, Act.eval, *]) (Below.refl _ _) rfl
    · simp only [List.getElem?_toArray, List.getElem?_cons_succ, List.getElem?_cons_zero, Option.some.injEq] at ho
      subst ho
      refine ⟨rfl, ?_⟩
      have q48 : A_.tmps[48]? = some (.bool true) := hI.val_ (i := 10) rfl rfl (by decide) (hdep ⟨10, .guard⟩ (by simp) rfl)
      have e1 : A_.tmps[1]?.getD undef = .pointer (some ⟨w.heap.size, 0, none⟩) := by rw [hI.low 1 (by decide)]; rfl
      clear hI hdep
      obtain ⟨⟨x0, x1, x2, x3, x4, x5, x6, x7, x8⟩, y0, y1, y2, y3, y4, y5, y6, y7, y8⟩ := HK.out w3 (HB5.out.trans (hh.mono HB5.out.size))
      obtain ⟨z0, z1, z2, z3, z4, z5, z6, z7, z8⟩ := (show w3.cell? ⟨w4.heap.size, 0, none⟩ = some (.int .i64 1) ∧ w3.cell? ⟨w4.heap.size, 1, none⟩ = some (.int .i64 0) ∧ w3.cell? ⟨w4.heap.size, 2, none⟩ = some (.int .i64 0) ∧ w3.cell? ⟨w4.heap.size, 3, none⟩ = some (.int .i64 0) ∧ w3.cell? ⟨w4.heap.size, 4, none⟩ = some (.int .i64 0) ∧ w3.cell? ⟨w4.heap.size, 5, none⟩ = some (.int .i64 2) ∧ w3.cell? ⟨w4.heap.size, 6, none⟩ = some (.int .i64 0) ∧ w3.cell? ⟨w4.heap.size, 7, none⟩ = some (.int .i64 5) ∧ w3.cell? ⟨w4.heap.size, 8, none⟩ = some (.int .i64 0) from HY.out w3 hh)
      exact .run ((wanted_some rfl rfl q48).trans rfl) (.agg #[.int .i64 1, .int .i64 0, .int .i64 0, .int .i64 0, .int .i64 0, .int .i64 2, .int .i64 0, .int .i64 5, .int .i64 0]) w3 (by simp [execOp, go_sem, Act.eval, *]) (Below.refl _ _) rfl
    · simp only [List.getElem?_toArray, List.getElem?_cons_succ, List.getElem?_cons_zero, Option.some.injEq] at ho
      subst ho
      refine ⟨rfl, ?_⟩
      have q48 : A_.tmps[48]? = some (.bool true) := hI.val_ (i := 10) rfl rfl (by decide) (hdep ⟨10, .guard⟩ (by simp) rfl)
      have e50 : A_.tmps[50]?.getD undef = .agg #[.int .i64 0, .int .i64 0, .int .i64 0, .int .i64 0, .int .i64 0, .int .i64 1, .int .i64 0, .int .i64 0, .int .i64 0] := getD_of (hI.val_ (i := 12) rfl rfl (by decide) (hdep ⟨12, .data⟩ (by simp) rfl))
      have e51 : A_.tmps[51]?.getD undef = .agg #[.int .i64 1, .int .i64 0, .int .i64 0, .int .i64 0, .int .i64 0, .int .i64 2, .int .i64 0, .int .i64 5, .int .i64 0] := getD_of (hI.val_ (i := 13) rfl rfl (by decide) (hdep ⟨13, .data⟩ (by simp) rfl))
      clear hI hdep
      exact .run ((wanted_some rfl rfl q48).trans rfl) (.slice (some ⟨w3.heap.size, 0, none⟩) 2 2) (w3.alloc (.cells #[.int .i64 0, .int .i64 0, .int .i64 0, .int .i64 0, .int .i64 0, .int .i64 1, .int .i64 0, .int .i64 0, .int .i64 0, .int .i64 1, .int .i64 0, .int .i64 0, .int .i64 0, .int .i64 0, .int .i64 2, .int .i64 0, .int .i64 5, .int .i64 0] 28)) (by simp [execOp, go_sem, Act.eval, e50, e51]) ((Below.refl _ _).alloc (Nat.le_refl _) _) (RgX.row_new _ _ _ _)
    · simp only [List.getElem?_toArray, List.getElem?_cons_succ, List.getElem?_cons_zero, Option.some.injEq] at ho
      subst ho
      refine ⟨rfl, ?_⟩
      have q48 : A_.tmps[48]? = some (.bool true) := hI.val_ (i := 10) rfl rfl (by decide) (hdep ⟨10, .guard⟩ (by simp) rfl)
      have e49 : A_.tmps[49]?.getD undef = .slice B2 2 c2 := getD_of (hI.val_ (i := 11) rfl rfl (by decide) (hdep ⟨11, .data⟩ (by simp) rfl))
      obtain ⟨_, e52, g52, rfl, r52⟩ := hI.get_ (i := 14) (j := 52) rfl rfl (by decide) (hdep ⟨14, .data⟩ (by simp) rfl)
      clear hI hdep
      exact .call ((wanted_some rfl rfl q48).trans rfl) 15 #[.slice B2 2 c2, .slice (some ⟨g52, 0, none⟩) 2 2] (by simp [go_sem, Act.eval, e49, e52]) ((sameEn_true (l := [NW.exB, NW.exA]) w3 (H5.out.keep hh) (RS.Sl.of_block (E := enE) r52 rfl (by simp [maxLen])) (by omega)).mono fun _ _ ⟨h1_, h2_⟩ => ⟨⟨_, h1_, rfl⟩, h2_⟩)
    · simp only [List.getElem?_toArray, List.getElem?_cons_succ, List.getElem?_cons_zero, Option.some.injEq] at ho
      subst ho
      refine ⟨rfl, ?_⟩
      have e48 : A_.tmps[48]?.getD undef = .bool true := getD_of (hI.val_ (i := 10) rfl rfl (by decide) (hdep ⟨10, .data⟩ (by simp) rfl))
      have e53 : A_.tmps[53]?.getD undef = .bool true := getD_of (hI.val_ (i := 15) rfl rfl (by decide) (hdep ⟨15, .data⟩ (by simp) rfl))
      clear hI hdep
      exact .run rfl (.bool true) w3 (by simp [execOp, go_sem, Act.eval, e48, e53]) (Below.refl _ _) rfl
    · simp only [List.getElem?_toArray, List.getElem?_cons_succ, List.getElem?_cons_zero, Option.some.injEq] at ho
      subst ho
      refine ⟨rfl, ?_⟩
      have e54 : A_.tmps[54]?.getD undef = .bool true := getD_of (hI.val_ (i := 16) rfl rfl (by decide) (hdep ⟨16, .data⟩ (by simp) rfl))
      clear hI hdep
      exact .run rfl (.bool true) w3 (by simp [execOp, go_sem, Act.eval, e54]) (Below.refl _ _) rfl
    · simp only [List.getElem?_toArray, List.getElem?_cons_succ, List.getElem?_cons_zero, Option.some.injEq] at ho
      subst ho
      refine ⟨rfl, ?_⟩
      have q55 : A_.tmps[55]? = some (.bool true) := hI.val_ (i := 17) rfl rfl (by decide) (hdep ⟨17, .guard⟩ (by simp) rfl)
      have e9 : A_.tmps[9]?.getD undef = .bool true := by rw [hI.low 9 (by decide)]; rfl
      clear hI hdep
      exact .run ((wanted_some rfl rfl q55).trans rfl) (.bool true) w3 (by simp [execOp, go_sem, Act.eval, e9]) (Below.refl _ _) rfl
    · simp only [List.getElem?_toArray, List.getElem?_cons_succ, List.getElem?_cons_zero, Option.some.injEq] at ho
      subst ho
      refine ⟨rfl, ?_⟩
      have e55 : A_.tmps[55]?.getD undef = .bool true := getD_of (hI.val_ (i := 17) rfl rfl (by decide) (hdep ⟨17, .data⟩ (by simp) rfl))
      have e56 : A_.tmps[56]?.getD undef = .bool true := getD_of (hI.val_ (i := 18) rfl rfl (by decide) (hdep ⟨18, .data⟩ (by simp) rfl))
      clear hI hdep
      exact .run rfl (.bool true) w3 (by simp [execOp, go_sem, Act.eval, e55, e56]) (Below.refl _ _) rfl
    · simp only [List.getElem?_toArray, List.getElem?_cons_succ, List.getElem?_cons_zero, Option.some.injEq] at ho
      subst ho
      refine ⟨rfl, ?_⟩
      have e57 : A_.tmps[57]?.getD undef = .bool true := getD_of (hI.val_ (i := 19) rfl rfl (by decide) (hdep ⟨19, .data⟩ (by simp) rfl))
      clear hI hdep
      exact .run rfl (.bool true) w3 (by simp [execOp, go_sem, Act.eval, e57]) (Below.refl _ _) rfl
    · simp only [List.getElem?_toArray, List.getElem?_cons_succ, List.getElem?_cons_zero, Option.some.injEq] at ho
      subst ho
      refine ⟨rfl, ?_⟩
      have q58 : A_.tmps[58]? = some (.bool true) := hI.val_ (i := 20) rfl rfl (by decide) (hdep ⟨20, .guard⟩ (by simp) rfl)
      have e8 : A_.tmps[8]?.getD undef = .pointer (some ⟨w4.heap.size, 0, none⟩) := by rw [hI.low 8 (by decide)]; rfl
      clear hI hdep
      obtain ⟨⟨x0, x1, x2, x3, x4, x5, x6, x7, x8⟩, y0, y1, y2, y3, y4, y5, y6, y7, y8⟩ := HK.out w3 (HB5.out.trans (hh.mono HB5.out.size))
      obtain ⟨z0, z1, z2, z3, z4, z5, z6, z7, z8⟩ := (show w3.cell? ⟨w4.heap.size, 0, none⟩ = some (.int .i64 1) ∧ w3.cell? ⟨w4.heap.size, 1, none⟩ = some (.int .i64 0) ∧ w3.cell? ⟨w4.heap.size, 2, none⟩ = some (.int .i64 0) ∧ w3.cell? ⟨w4.heap.size, 3, none⟩ = some (.int .i64 0) ∧ w3.cell? ⟨w4.heap.size, 4, none⟩ = some (.int .i64 0) ∧ w3.cell? ⟨w4.heap.size, 5, none⟩ = some (.int .i64 2) ∧ w3.cell? ⟨w4.heap.size, 6, none⟩ = some (.int .i64 0) ∧ w3.cell? ⟨w4.heap.size, 7, none⟩ = some (.int .i64 5) ∧ w3.cell? ⟨w4.heap.size, 8, none⟩ = some (.int .i64 0) from HY.out w3 hh)
      exact .run ((wanted_some rfl rfl q58).trans rfl) (.agg #[.int .i64 1, .int .i64 0, .int .i64 0, .int .i64 0, .int .i64 0, .int .i64 2, .int .i64 0, .int .i64 5, .int .i64 0]) w3 (by simp [execOp, go_sem, Act.eval, *]) (Below.refl _ _) rfl
    · simp only [List.getElem?_toArray, List.getElem?_cons_succ, List.getElem?_cons_zero, Option.some.injEq] at ho
      subst ho
      refine ⟨rfl, ?_⟩
      have q58 : A_.tmps[58]? = some (.bool true) := hI.val_ (i := 20) rfl rfl (by decide) (hdep ⟨20, .guard⟩ (by simp) rfl)
      have e1 : A_.tmps[1]?.getD undef = .pointer (some ⟨w.heap.size, 0, none⟩) := by rw [hI.low 1 (by decide)]; rfl
      clear hI hdep
      obtain ⟨⟨x0, x1, x2, x3, x4, x5, x6, x7, x8⟩, y0, y1, y2, y3, y4, y5, y6, y7, y8⟩ := HK.out w3 (HB5.out.trans (hh.mono HB5.out.size))
      obtain ⟨z0, z1, z2, z3, z4, z5, z6, z7, z8⟩ := (show w3.cell? ⟨w4.heap.size, 0, none⟩ = some (.int .i64 1) ∧ w3.cell? ⟨w4.heap.size, 1, none⟩ = some (.int .i64 0) ∧ w3.cell? ⟨w4.heap.size, 2, none⟩ = some (.int .i64 0) ∧ w3.cell? ⟨w4.heap.size, 3, none⟩ = some (.int .i64 0) ∧ w3.cell? ⟨w4.heap.size, 4, none⟩ = some (.int .i64 0) ∧ w3.cell? ⟨w4.heap.size, 5, none⟩ = some (.int .i64 2) ∧ w3.cell? ⟨w4.heap.size, 6, none⟩ = some (.int .i64 0) ∧ w3.cell? ⟨w4.heap.size, 7, none⟩ = some (.int .i64 5) ∧ w3.cell? ⟨w4.heap.size, 8, none⟩ = some (.int .i64 0) from HY.out w3 hh)
      exact .run ((wanted_some rfl rfl q58).trans rfl) (.agg #[.int .i64 1, .int .i64 0, .int .i64 0, .int .i64 0, .int .i64 0, .int .i64 2, .int .i64 0, .int .i64 5, .int .i64 0]) w3 (by simp [execOp, go_sem, Act.eval, *]) (Below.refl _ _) rfl
    · simp only [List.getElem?_toArray, List.getElem?_cons_succ, List.getElem?_cons_zero, Option.some.injEq] at ho
      subst ho
      refine ⟨rfl, ?_⟩
      have q58 : A_.tmps[58]? = some (.bool true) := hI.val_ (i := 20) rfl rfl (by decide) (hdep ⟨20, .guard⟩ (by simp) rfl)
      have e59 : A_.tmps[59]?.getD undef = .agg #[.int .i64 1, .int .i64 0, .int .i64 0, .int .i64 0, .int .i64 0, .int .i64 2, .int .i64 0, .int .i64 5, .int .i64 0] := getD_of (hI.val_ (i := 21) rfl rfl (by decide) (hdep ⟨21, .data⟩ (by simp) rfl))
      have e60 : A_.tmps[60]?.getD undef = .agg #[.int .i64 1, .int .i64 0, .int .i64 0, .int .i64 0, .int .i64 0, .int .i64 2, .int .i64 0, .int .i64 5, .int .i64 0] := getD_of (hI.val_ (i := 22) rfl rfl (by decide) (hdep ⟨22, .data⟩ (by simp) rfl))
      clear hI hdep
      exact .run ((wanted_some rfl rfl q58).trans rfl) (.bool true) w3 (by simp [execOp, go_sem, Act.eval, *]) (Below.refl _ _) rfl
    · simp only [List.getElem?_toArray, List.getElem?_cons_succ, List.getElem?_cons_zero, Option.some.injEq] at ho
      subst ho
      refine ⟨rfl, ?_⟩
      have e58 : A_.tmps[58]?.getD undef = .bool true := getD_of (hI.val_ (i := 20) rfl rfl (by decide) (hdep ⟨20, .data⟩ (by simp) rfl))
      have e61 : A_.tmps[61]?.getD undef = .bool true := getD_of (hI.val_ (i := 23) rfl rfl (by decide) (hdep ⟨23, .data⟩ (by simp) rfl))
      clear hI hdep
      exact .run rfl (.bool true) w3 (by simp [execOp, go_sem, Act.eval, e58, e61]) (Below.refl _ _) rfl
    · simp only [List.getElem?_toArray, List.getElem?_cons_succ, List.getElem?_cons_zero, Option.some.injEq] at ho
      subst ho
      refine ⟨rfl, ?_⟩
      have e62 : A_.tmps[62]?.getD undef = .bool true := getD_of (hI.val_ (i := 24) rfl rfl (by decide) (hdep ⟨24, .data⟩ (by simp) rfl))
      clear hI hdep
      exact .run rfl (.bool true) w3 (by simp [execOp, go_sem, Act.eval, e62]) (Below.refl _ _) rfl
    · simp only [List.getElem?_toArray, List.getElem?_cons_succ, List.getElem?_cons_zero, Option.some.injEq] at ho
      subst ho
      refine ⟨rfl, ?_⟩
      have q63 : A_.tmps[63]? = some (.bool true) := hI.val_ (i := 25) rfl rfl (by decide) (hdep ⟨25, .guard⟩ (by simp) rfl)
      have e3 : A_.tmps[3]?.getD undef = .slice B2 2 c2 := by rw [hI.low 3 (by decide)]; rfl
      clear hI hdep
      exact .run ((wanted_some rfl rfl q63).trans rfl) (.slice B2 2 c2) w3 (by simp [execOp, go_sem, Act.eval, e3]) (Below.refl _ _) rfl
    · simp only [List.getElem?_toArray, List.getElem?_cons_succ, List.getElem?_cons_zero, Option.some.injEq] at ho
      subst ho
      refine ⟨rfl, ?_⟩
      have q63 : A_.tmps[63]? = some (.bool true) := hI.val_ (i := 25) rfl rfl (by decide) (hdep ⟨25, .guard⟩ (by simp) rfl)
      have e64 : A_.tmps[64]?.getD undef = .slice B2 2 c2 := getD_of (hI.val_ (i := 26) rfl rfl (by decide) (hdep ⟨26, .data⟩ (by simp) rfl))
      clear hI hdep
      exact .call ((wanted_some rfl rfl q63).trans rfl) 22 #[.slice B2 2 c2, .int .i64 2] (by simp [go_sem, Act.eval, e64]) (to_sp 2 w3 (H5.out.keep hh) (by omega) NW.ex_to rfl)
    · simp only [List.getElem?_toArray, List.getElem?_cons_succ, List.getElem?_cons_zero, Option.some.injEq] at ho
      subst ho
      refine ⟨rfl, ?_⟩
      have q63 : A_.tmps[63]? = some (.bool true) := hI.val_ (i := 25) rfl rfl (by decide) (hdep ⟨25, .guard⟩ (by simp) rfl)
      have e1 : A_.tmps[1]?.getD undef = .pointer (some ⟨w.heap.size, 0, none⟩) := by rw [hI.low 1 (by decide)]; rfl
      clear hI hdep
      exact .run ((wanted_some rfl rfl q63).trans rfl) (.pointer (some ⟨w.heap.size, 0, none⟩)) w3 (by simp [execOp, go_sem, Act.eval, e1]) (Below.refl _ _) rfl
    · simp only [List.getElem?_toArray, List.getElem?_cons_succ, List.getElem?_cons_zero, Option.some.injEq] at ho
      subst ho
      refine ⟨rfl, ?_⟩
      have q63 : A_.tmps[63]? = some (.bool true) := hI.val_ (i := 25) rfl rfl (by decide) (hdep ⟨25, .guard⟩ (by simp) rfl)
      have e66 : A_.tmps[66]?.getD undef = .pointer (some ⟨w.heap.size, 0, none⟩) := getD_of (hI.val_ (i := 28) rfl rfl (by decide) (hdep ⟨28, .data⟩ (by simp) rfl))
      clear hI hdep
      obtain ⟨⟨x0, x1, x2, x3, x4, x5, x6, x7, x8⟩, y0, y1, y2, y3, y4, y5, y6, y7, y8⟩ := HK.out w3 (HB5.out.trans (hh.mono HB5.out.size))
      obtain ⟨z0, z1, z2, z3, z4, z5, z6, z7, z8⟩ := (show w3.cell? ⟨w4.heap.size, 0, none⟩ = some (.int .i64 1) ∧ w3.cell? ⟨w4.heap.size, 1, none⟩ = some (.int .i64 0) ∧ w3.cell? ⟨w4.heap.size, 2, none⟩ = some (.int .i64 0) ∧ w3.cell? ⟨w4.heap.size, 3, none⟩ = some (.int .i64 0) ∧ w3.cell? ⟨w4.heap.size, 4, none⟩ = some (.int .i64 0) ∧ w3.cell? ⟨w4.heap.size, 5, none⟩ = some (.int .i64 2) ∧ w3.cell? ⟨w4.heap.size, 6, none⟩ = some (.int .i64 0) ∧ w3.cell? ⟨w4.heap.size, 7, none⟩ = some (.int .i64 5) ∧ w3.cell? ⟨w4.heap.size, 8, none⟩ = some (.int .i64 0) from HY.out w3 hh)
      exact .run ((wanted_some rfl rfl q63).trans rfl) (.agg #[.int .i64 1, .int .i64 0, .int .i64 0, .int .i64 0, .int .i64 0]) w3 (by simp [execOp, go_sem, Act.eval, *]) (Below.refl _ _) rfl
    · simp only [List.getElem?_toArray, List.getElem?_cons_succ, List.getElem?_cons_zero, Option.some.injEq] at ho
      subst ho
      refine ⟨rfl, ?_⟩
      have q63 : A_.tmps[63]? = some (.bool true) := hI.val_ (i := 25) rfl rfl (by decide) (hdep ⟨25, .guard⟩ (by simp) rfl)
      have e67 : A_.tmps[67]?.getD undef = .agg #[.int .i64 1, .int .i64 0, .int .i64 0, .int .i64 0, .int .i64 0] := getD_of (hI.val_ (i := 29) rfl rfl (by decide) (hdep ⟨29, .data⟩ (by simp) rfl))
      clear hI hdep
      exact .run ((wanted_some rfl rfl q63).trans rfl) (.slice (some ⟨w3.heap.size, 0, none⟩) 1 1) (w3.alloc (.cells #[.int .i64 1, .int .i64 0, .int .i64 0, .int .i64 0, .int .i64 0] 26)) (by simp [execOp, go_sem, Act.eval, e67]) ((Below.refl _ _).alloc (Nat.le_refl _) _) (RgX.row_new _ _ _ _)
    · simp only [List.getElem?_toArray, List.getElem?_cons_succ, List.getElem?_cons_zero, Option.some.injEq] at ho
      subst ho
      refine ⟨rfl, ?_⟩
      have q63 : A_.tmps[63]? = some (.bool true) := hI.val_ (i := 25) rfl rfl (by decide) (hdep ⟨25, .guard⟩ (by simp) rfl)
      obtain ⟨_, e65, B65, c65, rfl, h65⟩ := hI.get_ (i := 27) (j := 65) rfl rfl (by decide) (hdep ⟨27, .data⟩ (by simp) rfl)
      obtain ⟨_, e68, g68, rfl, r68⟩ := hI.get_ (i := 30) (j := 68) rfl rfl (by decide) (hdep ⟨30, .data⟩ (by simp) rfl)
      clear hI hdep
      exact .call ((wanted_some rfl rfl q63).trans rfl) 21 #[.slice B65 1 c65, .slice (some ⟨g68, 0, none⟩) 1 1] (by simp [go_sem, Act.eval, e65, e68]) ((sameMs_true (l := [NW.exA.m]) w3 h65 (RS.Sl.of_block (E := msE) r68 rfl (by simp [maxLen])) (by omega)).mono fun _ _ ⟨h1_, h2_⟩ => ⟨⟨_, h1_, rfl⟩, h2_⟩)
    · simp only [List.getElem?_toArray, List.getElem?_cons_succ, List.getElem?_cons_zero, Option.some.injEq] at ho
      subst ho
      refine ⟨rfl, ?_⟩
      have e63 : A_.tmps[63]?.getD undef = .bool true := getD_of (hI.val_ (i := 25) rfl rfl (by decide) (hdep ⟨25, .data⟩ (by simp) rfl))
      have e69 : A_.tmps[69]?.getD undef = .bool true := getD_of (hI.val_ (i := 31) rfl rfl (by decide) (hdep ⟨31, .data⟩ (by simp) rfl))
      clear hI hdep
      exact .run rfl (.bool true) w3 (by simp [execOp, go_sem, Act.eval, e63, e69]) (Below.refl _ _) rfl
    · simp only [List.getElem?_toArray, List.getElem?_cons_succ, List.getElem?_cons_zero, Option.some.injEq] at ho
      subst ho
      refine ⟨rfl, ?_⟩
      have e70 : A_.tmps[70]?.getD undef = .bool true := getD_of (hI.val_ (i := 32) rfl rfl (by decide) (hdep ⟨32, .data⟩ (by simp) rfl))
      clear hI hdep
      exact .run rfl (.bool true) w3 (by simp [execOp, go_sem, Act.eval, e70]) (Below.refl _ _) rfl
    · simp only [List.getElem?_toArray, List.getElem?_cons_succ, List.getElem?_cons_zero, Option.some.injEq] at ho
      subst ho
      refine ⟨rfl, ?_⟩
      have q71 : A_.tmps[71]? = some (.bool true) := hI.val_ (i := 33) rfl rfl (by decide) (hdep ⟨33, .guard⟩ (by simp) rfl)
      have e3 : A_.tmps[3]?.getD undef = .slice B2 2 c2 := by rw [hI.low 3 (by decide)]; rfl
      clear hI hdep
      exact .run ((wanted_some rfl rfl q71).trans rfl) (.slice B2 2 c2) w3 (by simp [execOp, go_sem, Act.eval, e3]) (Below.refl _ _) rfl
    · simp only [List.getElem?_toArray, List.getElem?_cons_succ, List.getElem?_cons_zero, Option.some.injEq] at ho
      subst ho
      refine ⟨rfl, ?_⟩
      have q71 : A_.tmps[71]? = some (.bool true) := hI.val_ (i := 33) rfl rfl (by decide) (hdep ⟨33, .guard⟩ (by simp) rfl)
      have e2 : A_.tmps[2]?.getD undef = .pointer (some ⟨w.heap.size + 1, 0, none⟩) := by rw [hI.low 2 (by decide)]; rfl
      clear hI hdep
      exact .run ((wanted_some rfl rfl q71).trans rfl) (.pointer (some ⟨w.heap.size + 1, 0, none⟩)) w3 (by simp [execOp, go_sem, Act.eval, e2]) (Below.refl _ _) rfl
    · simp only [List.getElem?_toArray, List.getElem?_cons_succ, List.getElem?_cons_zero, Option.some.injEq] at ho
      subst ho
      refine ⟨rfl, ?_⟩
      have q71 : A_.tmps[71]? = some (.bool true) := hI.val_ (i := 33) rfl rfl (by decide) (hdep ⟨33, .guard⟩ (by simp) rfl)
      have e73 : A_.tmps[73]?.getD undef = .pointer (some ⟨w.heap.size + 1, 0, none⟩) := getD_of (hI.val_ (i := 35) rfl rfl (by decide) (hdep ⟨35, .data⟩ (by simp) rfl))
      clear hI hdep
      obtain ⟨⟨x0, x1, x2, x3, x4, x5, x6, x7, x8⟩, y0, y1, y2, y3, y4, y5, y6, y7, y8⟩ := HK.out w3 (HB5.out.trans (hh.mono HB5.out.size))
      obtain ⟨z0, z1, z2, z3, z4, z5, z6, z7, z8⟩ := (show w3.cell? ⟨w4.heap.size, 0, none⟩ = some (.int .i64 1) ∧ w3.cell? ⟨w4.heap.size, 1, none⟩ = some (.int .i64 0) ∧ w3.cell? ⟨w4.heap.size, 2, none⟩ = some (.int .i64 0) ∧ w3.cell? ⟨w4.heap.size, 3, none⟩ = some (.int .i64 0) ∧ w3.cell? ⟨w4.heap.size, 4, none⟩ = some (.int .i64 0) ∧ w3.cell? ⟨w4.heap.size, 5, none⟩ = some (.int .i64 2) ∧ w3.cell? ⟨w4.heap.size, 6, none⟩ = some (.int .i64 0) ∧ w3.cell? ⟨w4.heap.size, 7, none⟩ = some (.int .i64 5) ∧ w3.cell? ⟨w4.heap.size, 8, none⟩ = some (.int .i64 0) from HY.out w3 hh)
      exact .run ((wanted_some rfl rfl q71).trans rfl) (.agg #[.int .i64 0, .int .i64 0, .int .i64 0, .int .i64 0, .int .i64 0]) w3 (by simp [execOp, go_sem, Act.eval, *]) (Below.refl _ _) rfl
    · simp only [List.getElem?_toArray, List.getElem?_cons_succ, List.getElem?_cons_zero, Option.some.injEq] at ho
      subst ho
      refine ⟨rfl, ?_⟩
      have q71 : A_.tmps[71]? = some (.bool true) := hI.val_ (i := 33) rfl rfl (by decide) (hdep ⟨33, .guard⟩ (by simp) rfl)
      have e72 : A_.tmps[72]?.getD undef = .slice B2 2 c2 := getD_of (hI.val_ (i := 34) rfl rfl (by decide) (hdep ⟨34, .data⟩ (by simp) rfl))
      have e74 : A_.tmps[74]?.getD undef = .agg #[.int .i64 0, .int .i64 0, .int .i64 0, .int .i64 0, .int .i64 0] := getD_of (hI.val_ (i := 36) rfl rfl (by decide) (hdep ⟨36, .data⟩ (by simp) rfl))
      clear hI hdep
      exact .call ((wanted_some rfl rfl q71).trans rfl) 16 #[.slice B2 2 c2, .agg #[.int .i64 0, .int .i64 0, .int .i64 0, .int .i64 0, .int .i64 0]] (by simp [go_sem, Act.eval, e72, e74]) (remove_sp NW.exB.m w3 (H5.out.keep hh) NW.ex_srt2 (by omega) NW.ex_rem rfl)
    · simp only [List.getElem?_toArray, List.getElem?_cons_succ, List.getElem?_cons_zero, Option.some.injEq] at ho
      subst ho
      refine ⟨rfl, ?_⟩
      have q71 : A_.tmps[71]? = some (.bool true) := hI.val_ (i := 33) rfl rfl (by decide) (hdep ⟨33, .guard⟩ (by simp) rfl)
      obtain ⟨_, e75, B75, c75, rfl, h75⟩ := hI.get_ (i := 37) (j := 75) rfl rfl (by decide) (hdep ⟨37, .data⟩ (by simp) rfl)
      clear hI hdep
      exact .run ((wanted_some rfl rfl q71).trans rfl) (.int .i64 (1 : Int)) w3 (by simp [go_sem, Act.eval, e75]) (Below.refl _ _) rfl
    · simp only [List.getElem?_toArray, List.getElem?_cons_succ, List.getElem?_cons_zero, Option.some.injEq] at ho
      subst ho
      refine ⟨rfl, ?_⟩
      have q71 : A_.tmps[71]? = some (.bool true) := hI.val_ (i := 33) rfl rfl (by decide) (hdep ⟨33, .guard⟩ (by simp) rfl)
      have e76 : A_.tmps[76]?.getD undef = .int .i64 (1 : Int) := getD_of (hI.val_ (i := 38) rfl rfl (by decide) (hdep ⟨38, .data⟩ (by simp) rfl))
      clear hI hdep
      exact .run ((wanted_some rfl rfl q71).trans rfl) (.bool true) w3 (by simp [execOp, go_sem, Act.eval, *]) (Below.refl _ _) rfl
    · simp only [List.getElem?_toArray, List.getElem?_cons_succ, List.getElem?_cons_zero, Option.some.injEq] at ho
      subst ho
      refine ⟨rfl, ?_⟩
      have e71 : A_.tmps[71]?.getD undef = .bool true := getD_of (hI.val_ (i := 33) rfl rfl (by decide) (hdep ⟨33, .data⟩ (by simp) rfl))
      have e77 : A_.tmps[77]?.getD undef = .bool true := getD_of (hI.val_ (i := 39) rfl rfl (by decide) (hdep ⟨39, .data⟩ (by simp) rfl))
      clear hI hdep
      exact .run rfl (.bool true) w3 (by simp [execOp, go_sem, Act.eval, e71, e77]) (Below.refl _ _) rfl
    · simp only [List.getElem?_toArray, List.getElem?_cons_succ, List.getElem?_cons_zero, Option.some.injEq] at ho
      subst ho
      refine ⟨rfl, ?_⟩
      have e78 : A_.tmps[78]?.getD undef = .bool true := getD_of (hI.val_ (i := 40) rfl rfl (by decide) (hdep ⟨40, .data⟩ (by simp) rfl))
      clear hI hdep
      exact .run rfl (.bool true) w3 (by simp [execOp, go_sem, Act.eval, e78]) (Below.refl _ _) rfl
  case fin =>
  intro A_ w3 hs hd hlow hS hok
  obtain ⟨_, hy52, g52, rfl, r52⟩ := hok 14 52 _ (by decide) rfl rfl
  obtain ⟨_, hy65, B65, c65, rfl, h65⟩ := hok 27 65 _ (by decide) rfl rfl
  obtain ⟨_, hy68, g68, rfl, r68⟩ := hok 30 68 _ (by decide) rfl rfl
  obtain ⟨_, hy75, B75, c75, rfl, h75⟩ := hok 37 75 _ (by decide) rfl rfl
  obtain rfl : A_ = ⟨#[.bool true, .pointer (some ⟨w.heap.size, 0, none⟩), .pointer (some ⟨w.heap.size + 1, 0, none⟩), .slice B2 2 c2, .int .i64 0, .int .i64 0, .slice none 0 0, .int .i64 4, .pointer (some ⟨w4.heap.size, 0, none⟩), .bool true, .agg #[.int .i64 1, .int .i64 0, .int .i64 0], .agg #[.int .i64 1, .int .i64 0, .int .i64 0, .int .i64 0, .int .i64 0], .agg #[.int .i64 1, .int .i64 0, .int .i64 0, .int .i64 0, .int .i64 0, .int .i64 2, .int .i64 0, .int .i64 5, .int .i64 0], .agg #[.int .i64 0, .int .i64 0, .int .i64 0, .int .i64 0, .int .i64 0, .int .i64 1, .int .i64 0, .int .i64 0, .int .i64 0], Value.tuple #[.slice B1 1 c1, .int .i64 0], .agg #[.int .i64 1, .int .i64 0, .int .i64 0, .int .i64 0, .int .i64 0, .int .i64 2, .int .i64 0, .int .i64 5, .int .i64 0], Value.tuple #[.slice B1 1 c1, .int .i64 0], .slice B1 1 c1, .int .i64 0, Value.tuple #[.slice B2 2 c2, .int .i64 0], .slice B1 1 c1, .agg #[.int .i64 0, .int .i64 0, .int .i64 0, .int .i64 0, .int .i64 0, .int .i64 1, .int .i64 0, .int .i64 0, .int .i64 0], Value.tuple #[.slice B2 2 c2, .int .i64 0], .slice B2 2 c2, .int .i64 0, Value.tuple #[.slice none 0 0, .int .i64 4], .slice B2 2 c2, .agg #[.int .i64 0, .int .i64 0, .int .i64 0, .int .i64 0, .int .i64 0, .int .i64 1, .int .i64 0, .int .i64 0, .int .i64 0], Value.tuple #[.slice none 0 0, .int .i64 4], .slice none 0 0, .int .i64 4, Value.tuple #[.agg #[.int .i64 1, .int .i64 0, .int .i64 0, .int .i64 0, .int .i64 0, .int .i64 2, .int .i64 0, .int .i64 5, .int .i64 0], .bool true], .slice B2 2 c2, .pointer (some ⟨w.heap.size, 0, none⟩), .agg #[.int .i64 1, .int .i64 0, .int .i64 0, .int .i64 0, .int .i64 0], Value.tuple #[.agg #[.int .i64 1, .int .i64 0, .int .i64 0, .int .i64 0, .int .i64 0, .int .i64 2, .int .i64 0, .int .i64 5, .int .i64 0], .bool true], .agg #[.int .i64 1, .int .i64 0, .int .i64 0, .int .i64 0, .int .i64 0, .int .i64 2, .int .i64 0, .int .i64 5, .int .i64 0], .bool true, .int .i64 0, .bool true, .bool true, .int .i64 0, .bool true, .bool true, .bool true, .int .i64 4, .bool true, .bool true, .bool true, .slice B2 2 c2, .agg #[.int .i64 0, .int .i64 0, .int .i64 0, .int .i64 0, .int .i64 0, .int .i64 1, .int .i64 0, .int .i64 0, .int .i64 0], .agg #[.int .i64 1, .int .i64 0, .int .i64 0, .int .i64 0, .int .i64 0, .int .i64 2, .int .i64 0, .int .i64 5, .int .i64 0], .slice (some ⟨g52, 0, none⟩) 2 2, .bool true, .bool true, .bool true, .bool true, .bool true, .bool true, .agg #[.int .i64 1, .int .i64 0, .int .i64 0, .int .i64 0, .int .i64 0, .int .i64 2, .int .i64 0, .int .i64 5, .int .i64 0], .agg #[.int .i64 1, .int .i64 0, .int .i64 0, .int .i64 0, .int .i64 0, .int .i64 2, .int .i64 0, .int .i64 5, .int .i64 0], .bool true, .bool true, .bool true, .slice B2 2 c2, .slice B65 1 c65, .pointer (some ⟨w.heap.size, 0, none⟩), .agg #[.int .i64 1, .int .i64 0, .int .i64 0, .int .i64 0, .int .i64 0], .slice (some ⟨g68, 0, none⟩) 1 1, .bool true, .bool true, .bool true, .slice B2 2 c2, .pointer (some ⟨w.heap.size + 1, 0, none⟩), .agg #[.int .i64 0, .int .i64 0, .int .i64 0, .int .i64 0, .int .i64 0], .slice B75 1 c75, .int .i64 (1 : Int), .bool true, .bool true], []⟩ := act_ext hd hs (fun j hj => match j, hj with | 0, _ => RgX.val_at (hok 41 0 _ (by decide) rfl rfl) | 1, _ => (hlow 1 (by decide)).trans rfl | 2, _ => (hlow 2 (by decide)).trans rfl | 3, _ => (hlow 3 (by decide)).trans rfl | 4, _ => (hlow 4 (by decide)).trans rfl | 5, _ => (hlow 5 (by decide)).trans rfl | 6, _ => (hlow 6 (by decide)).trans rfl | 7, _ => (hlow 7 (by decide)).trans rfl | 8, _ => (hlow 8 (by decide)).trans rfl | 9, _ => (hlow 9 (by decide)).trans rfl | 10, _ => (hlow 10 (by decide)).trans rfl | 11, _ => (hlow 11 (by decide)).trans rfl | 12, _ => (hlow 12 (by decide)).trans rfl | 13, _ => (hlow 13 (by decide)).trans rfl | 14, _ => (hlow 14 (by decide)).trans rfl | 15, _ => (hlow 15 (by decide)).trans rfl | 16, _ => (hlow 16 (by decide)).trans rfl | 17, _ => (hlow 17 (by decide)).trans rfl | 18, _ => (hlow 18 (by decide)).trans rfl | 19, _ => (hlow 19 (by decide)).trans rfl | 20, _ => (hlow 20 (by decide)).trans rfl | 21, _ => (hlow 21 (by decide)).trans rfl | 22, _ => (hlow 22 (by decide)).trans rfl | 23, _ => (hlow 23 (by decide)).trans rfl | 24, _ => (hlow 24 (by decide)).trans rfl | 25, _ => (hlow 25 (by decide)).trans rfl | 26, _ => (hlow 26 (by decide)).trans rfl | 27, _ => (hlow 27 (by decide)).trans rfl | 28, _ => (hlow 28 (by decide)).trans rfl | 29, _ => (hlow 29 (by decide)).trans rfl | 30, _ => (hlow 30 (by decide)).trans rfl | 31, _ => (hlow 31 (by decide)).trans rfl | 32, _ => (hlow 32 (by decide)).trans rfl | 33, _ => (hlow 33 (by decide)).trans rfl | 34, _ => (hlow 34 (by decide)).trans rfl | 35, _ => (hlow 35 (by decide)).trans rfl | 36, _ => (hlow 36 (by decide)).trans rfl | 37, _ => (hlow 37 (by decide)).trans rfl | 38, _ => RgX.val_at (hok 0 38 _ (by decide) rfl rfl) | 39, _ => RgX.val_at (hok 1 39 _ (by decide) rfl rfl) | 40, _ => RgX.val_at (hok 2 40 _ (by decide) rfl rfl) | 41, _ => RgX.val_at (hok 3 41 _ (by decide) rfl rfl) | 42, _ => RgX.val_at (hok 4 42 _ (by decide) rfl rfl) | 43, _ => RgX.val_at (hok 5 43 _ (by decide) rfl rfl) | 44, _ => RgX.val_at (hok 6 44 _ (by decide) rfl rfl) | 45, _ => RgX.val_at (hok 7 45 _ (by decide) rfl rfl) | 46, _ => RgX.val_at (hok 8 46 _ (by decide) rfl rfl) | 47, _ => RgX.val_at (hok 9 47 _ (by decide) rfl rfl) | 48, _ => RgX.val_at (hok 10 48 _ (by decide) rfl rfl) | 49, _ => RgX.val_at (hok 11 49 _ (by decide) rfl rfl) | 50, _ => RgX.val_at (hok 12 50 _ (by decide) rfl rfl) | 51, _ => RgX.val_at (hok 13 51 _ (by decide) rfl rfl) | 52, _ => hy52 | 53, _ => RgX.val_at (hok 15 53 _ (by decide) rfl rfl) | 54, _ => RgX.val_at (hok 16 54 _ (by decide) rfl rfl) | 55, _ => RgX.val_at (hok 17 55 _ (by decide) rfl rfl) | 56, _ => RgX.val_at (hok 18 56 _ (by decide) rfl rfl) | 57, _ => RgX.val_at (hok 19 57 _ (by decide) rfl rfl) | 58, _ => RgX.val_at (hok 20 58 _ (by decide) rfl rfl) | 59, _ => RgX.val_at (hok 21 59 _ (by decide) rfl rfl) | 60, _ => RgX.val_at (hok 22 60 _ (by decide) rfl rfl) | 61, _ => RgX.val_at (hok 23 61 _ (by decide) rfl rfl) | 62, _ => RgX.val_at (hok 24 62 _ (by decide) rfl rfl) | 63, _ => RgX.val_at (hok 25 63 _ (by decide) rfl rfl) | 64, _ => RgX.val_at (hok 26 64 _ (by decide) rfl rfl) | 65, _ => hy65 | 66, _ => RgX.val_at (hok 28 66 _ (by decide) rfl rfl) | 67, _ => RgX.val_at (hok 29 67 _ (by decide) rfl rfl) | 68, _ => hy68 | 69, _ => RgX.val_at (hok 31 69 _ (by decide) rfl rfl) | 70, _ => RgX.val_at (hok 32 70 _ (by decide) rfl rfl) | 71, _ => RgX.val_at (hok 33 71 _ (by decide) rfl rfl) | 72, _ => RgX.val_at (hok 34 72 _ (by decide) rfl rfl) | 73, _ => RgX.val_at (hok 35 73 _ (by decide) rfl rfl) | 74, _ => RgX.val_at (hok 36 74 _ (by decide) rfl rfl) | 75, _ => hy75 | 76, _ => RgX.val_at (hok 38 76 _ (by decide) rfl rfl) | 77, _ => RgX.val_at (hok 39 77 _ (by decide) rfl rfl) | 78, _ => RgX.val_at (hok 40 78 _ (by decide) rfl rfl) | n + 79, h => absurd h (by show ¬ n + 79 < 79; omega))
  clear hs hd hlow hok hy52 hy65 hy68 hy75
  go_wp2_with fail
  go_ret
  exact ⟨rfl, HB.out.trans ((HB5.out.trans (hS.mono HB5.out.size)).mono HB.out.size)⟩
end Go.Proofs.Ytepbppckhfiplaa
