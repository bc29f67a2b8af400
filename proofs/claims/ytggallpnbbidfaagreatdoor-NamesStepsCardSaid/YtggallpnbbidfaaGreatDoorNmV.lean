/-
  The only question that can have a text. Conditions: the listed tables and variables stand (TN); the text has at most 1000 bytes.
-/
import Derived.Test.YtggallpnbbidfaaGreatDoorNmU
namespace Go.Proofs.YtggallpnbbidfaaGreatDoor
open Go Go.RowKit Go.Proofs
attribute [local go_sem] Oper.semAt_some

theorem set5 {V : World} {g : Nat} {t : TypeId} {x0 x1 x2 x3 x4 : Value} (h : V.heap[g]? = some (.cells #[x0, x1, x2, x3, x4] t (0, 0))) (n0 n1 n2 n3 n4 : Int) :
    (((((V.setCell ⟨g, 0, none⟩ (.int .i64 n0)).setCell ⟨g, 1, none⟩ (.int .i64 n1)).setCell ⟨g, 2, none⟩ (.int .i64 n2)).setCell ⟨g, 3, none⟩ (.int .i64 n3)).setCell ⟨g, 4, none⟩ (.int .i64 n4)).heap[g]? = some (.cells #[.int .i64 n0, .int .i64 n1, .int .i64 n2, .int .i64 n3, .int .i64 n4] t (0, 0)) ∧ Below g V (((((V.setCell ⟨g, 0, none⟩ (.int .i64 n0)).setCell ⟨g, 1, none⟩ (.int .i64 n1)).setCell ⟨g, 2, none⟩ (.int .i64 n2)).setCell ⟨g, 3, none⟩ (.int .i64 n3)).setCell ⟨g, 4, none⟩ (.int .i64 n4)) := by
  refine ⟨?_, (((((Below.refl g V).setCell (Nat.le_refl _) _).setCell (Nat.le_refl _) _).setCell (Nat.le_refl _) _).setCell (Nat.le_refl _) _).setCell (Nat.le_refl _) _⟩
  simp only [World.setCell, Array.getElem?_modify]
  simp [h]
theorem qkindOf_hit {W : NM.Bs} {j : Nat} (h1 : 1 ≤ j) (h2 : j ≤ 3) (hj : NM.qword j = W) : NM.qkindOf W = some (j : Int) := by
  have hc : j = 1 ∨ j = 2 ∨ j = 3 := by omega
  subst hj
  rcases hc with rfl | rfl | rfl <;> rfl
theorem qkindOf_miss {W : NM.Bs} (hno : ∀ m : Nat, 1 ≤ m → m < 4 → NM.qword m ≠ W) : NM.qkindOf W = none := by
  unfold NM.qkindOf
  rw [List.find?_eq_none]
  intro k hk
  simp only [List.mem_cons, List.not_mem_nil, or_false] at hk
  rcases hk with rfl | rfl | rfl
  · simpa using hno 1 (by omega) (by omega)
  · simpa using hno 2 (by omega) (by omega)
  · simpa using hno 3 (by omega) (by omega)
set_option maxRecDepth 100000 in
set_option maxHeartbeats 8000000 in
theorem guessQ_any (t : NM.Bs) (w : World) (hT : TN w) (hl : t.length ≤ 1000) :
    Calls Tryz.prog 46 #[.string (NM.bs t)] w fun e w' => e = .returned (quV (NM.guessQ t)) ∧ Below w.heap.size w w' := by
  obtain ⟨n0, n1, n2, n3, n4, n5, e6⟩ := six_of (show (NM.six t).length = 6 from nums_len 6 _)
  have hS := fun (V : World) (hV : Below w.heap.size w V) => split_any t V (hT.below hV) hl
  obtain ⟨W1, hW1⟩ : ∃ W, (Lib.cut t [32]).1 = W := ⟨_, rfl⟩
  have hg : NM.guessQ t = match NM.qkindOf W1 with
    | some k => ⟨n0, n1, n2, k, n3⟩
    | none => NM.q0 := by unfold NM.guessQ; rw [hW1, e6]; rfl
  rw [hW1, e6] at hS
  have HS := Lib.hid (show ∀ V, Below w.heap.size w V → Calls Tryz.prog 60 #[.string (NM.bs t)] V fun e w' => e = .returned (.tuple #[.string (NM.bs W1), .agg #[.int .i64 n0, .int .i64 n1, .int .i64 n2, .int .i64 n3, .int .i64 n4, .int .i64 n5]]) ∧ Below V.heap.size V w' from hS)
  obtain ⟨X1, hX1⟩ : ∃ s, NM.bs W1 = s := ⟨_, rfl⟩
  have hX1l : X1.toList = W1 := by rw [← hX1, bs_toListU]
  rw [hX1] at HS
  have HX := Lib.hid hX1l
  have HG := Lib.hid hg
  obtain ⟨T0, hT0⟩ : ∃ s, NM.bs t = s := ⟨_, rfl⟩
  rw [hT0] at HS ⊢
  obtain ⟨R, hR⟩ : ∃ R, NM.guessQ t = R := ⟨_, rfl⟩
  rw [hR] at HG ⊢
  clear hS hW1 e6 hX1 hX1l hg hT0 hR hT
  obtain ⟨W0, hW0⟩ : ∃ U, w.alloc (.cells #[.int .i64 0, .int .i64 0, .int .i64 0, .int .i64 0, .int .i64 0] 36) = U := ⟨_, rfl⟩
  have hb0 : Below w.heap.size w W0 := hW0 ▸ one_box w _
  have k0 : W0.heap[w.heap.size]? = some (.cells #[.int .i64 0, .int .i64 0, .int .i64 0, .int .i64 0, .int .i64 0] 36 (0, 0)) := by rw [← hW0]; exact new_at rfl
  have HB0 := Lib.hid hb0
  have HK0 := Lib.hid k0
  clear hb0 k0
  go_enter Tryz.func46, Tryz.ntmps46
  go_wp2_with fail
  clear hW0
  refine (HS.out _ HB0.out).mono ?_
  rintro e w1 ⟨rfl, hb1⟩
  obtain ⟨U, hU⟩ : ∃ U, w1.alloc (.cells #[.int .i64 n0, .int .i64 n1, .int .i64 n2, .int .i64 n3, .int .i64 n4, .int .i64 n5] 93) = U := ⟨_, rfl⟩
  have hbU : Below w1.heap.size w1 U := hU ▸ one_box w1 _
  have h01 := heap_lt HK0.out
  have h12 : w.heap.size < w1.heap.size := Nat.lt_of_lt_of_le h01 hb1.size
  have kN : U.heap[w1.heap.size]? = some (.cells #[.int .i64 n0, .int .i64 n1, .int .i64 n2, .int .i64 n3, .int .i64 n4, .int .i64 n5] 93 (0, 0)) := by rw [← hU]; exact new_at rfl
  have hNU := heap_lt kN
  have kR := (hbU.block _ h12).trans ((hb1.block _ h01).trans HK0.out)
  have HKR := Lib.hid (fun (V : World) (hV : Below U.heap.size U V) => (hV.block w.heap.size (by omega)).trans kR)
  have HKN := Lib.hid (fun (V : World) (hV : Below U.heap.size U V) => (hV.block w1.heap.size hNU).trans kN)
  have HB := Lib.hid (HB0.out.trans ((hb1.trans (hbU.mono hb1.size)).mono HB0.out.size))
  have hUw : w.heap.size ≤ U.heap.size := by omega
  clear hb1 hbU kN kR HS HB0 HK0
  go_wp2_with fail
  clear hU
  go_loopw [5] (fun i V => ∃ j : Nat, 1 ≤ j ∧ j ≤ 4 ∧ i = .int .i64 (j : Int) ∧ Hid (∀ m : Nat, 1 ≤ m → m < j → NM.qword m ≠ W1) ∧ Below U.heap.size U V) (fun i _ => 4 - (intOf i).toNat)
  case atStart => exact ⟨1, by omega, by omega, rfl, (show ∀ m : Nat, 1 ≤ m → m < 1 → _ from fun m a b => by omega), Below.refl _ _⟩
  case round =>
    obtain ⟨j, hj1, hj2, rfl, hno, hB⟩ := hrel
    by_cases hj7 : j ≤ 3
    · have HL := Lib.hid (fun V => qword_any (j : Int) V)
      obtain ⟨p0, p1, p2, p3, p4, p5⟩ := row6 (HKN.out wr hB)
      by_cases hw : NM.qword j = W1
      · have hk := qkindOf_hit hj1 hj7 hw
        have hgg := HG.out
        rw [hk] at hgg
        obtain rfl : R = ⟨n0, n1, n2, (j : Int), n3⟩ := hgg
        obtain ⟨Y, hY⟩ : ∃ s, NM.bs (NM.qword (j : Int)) = s := ⟨_, rfl⟩
        have hYl : (Y.toList == X1.toList) = true := by rw [← hY, bs_toListU, HX.out, hw]; simp
        have hYe : Y.toList = X1.toList := by simpa using hYl
        have HL2 := Lib.hid (show ∀ V, Calls Tryz.prog 38 #[.int .i64 (j : Int)] V fun e w' => e = .returned (.string Y) ∧ V = w' from by rw [← hY]; exact HL.out)
        have k6 := HKR.out wr hB
        obtain ⟨q0, q1, q2, q3, q4⟩ := row5 k6
        have f0 := froz k6 0
        have f1 := froz k6 1
        have f2 := froz k6 2
        have f3 := froz k6 3
        have f4 := froz k6 4
        obtain ⟨s8, b8⟩ := set5 k6 n0 n1 n2 (j : Int) n3
        have HB6 := Lib.hid (HB.out.trans ((hB.mono hUw).trans b8))
        have HS8 := Lib.hid s8
        clear HL hk HG hw hno hY hYl s8 b8 hB k6
        go_wp2_with (go_at_call 38; (with_reducible refine (HL2.out _).mono ?_); rintro e w5 ⟨rfl, rfl⟩)
        clear p0 p1 p2 p3 p4 p5 q0 q1 q2 q3 q4 f0 f1 f2 f3 f4
        obtain ⟨q0, q1, q2, q3, q4⟩ := row5 HS8.out
        obtain ⟨V8, hV8⟩ : ∃ V, (((((wr.setCell ⟨w.heap.size, 0, none⟩ (.int .i64 n0)).setCell ⟨w.heap.size, 1, none⟩ (.int .i64 n1)).setCell ⟨w.heap.size, 2, none⟩ (.int .i64 n2)).setCell ⟨w.heap.size, 3, none⟩ (.int .i64 (j : Int))).setCell ⟨w.heap.size, 4, none⟩ (.int .i64 n3)) = V := ⟨_, rfl⟩
        rw [hV8] at HB6 q0 q1 q2 q3 q4 ⊢
        exact bodyPost_ret (v := quV ⟨n0, n1, n2, (j : Int), n3⟩) (by simp [results, Tryz.results46, go_sem, *]) rfl ⟨rfl, HB6.out⟩
      · have hno2 : Hid (∀ m : Nat, 1 ≤ m → m < j + 1 → NM.qword m ≠ W1) := fun m a b => by
          rcases Nat.lt_or_ge m j with h | h
          · exact hno.out m a h
          · rw [show m = j by omega]; exact hw
        obtain ⟨Y, hY⟩ : ∃ s, NM.bs (NM.qword (j : Int)) = s := ⟨_, rfl⟩
        have hYl : (Y.toList == X1.toList) = false := by rw [← hY, bs_toListU, HX.out]; simpa using hw
        have hYe : ¬ Y.toList = X1.toList := by simpa using hYl
        have HL2 := Lib.hid (show ∀ V, Calls Tryz.prog 38 #[.int .i64 (j : Int)] V fun e w' => e = .returned (.string Y) ∧ V = w' from by rw [← hY]; exact HL.out)
        have HBr := Lib.hid hB
        clear HL hw hno hY HG p0 p1 p2 p3 p4 p5 hB
        go_wp2_with (go_at_call 38; (with_reducible refine (HL2.out _).mono ?_); rintro e w5 ⟨rfl, rfl⟩)
        go_roundw
        case rel => exact ⟨j + 1, by omega, by omega, by go_num, hno2.out, HBr.out⟩
        case measure => simp [intOf]; omega
    · obtain rfl : j = 4 := by omega
      have hk := qkindOf_miss hno.out
      have hgg := HG.out
      rw [hk] at hgg
      obtain rfl : R = NM.q0 := hgg
      have k6 := HKR.out wr hB
      obtain ⟨q0, q1, q2, q3, q4⟩ := row5 k6
      have f0 := froz k6 0
      have f1 := froz k6 1
      have f2 := froz k6 2
      have f3 := froz k6 3
      have f4 := froz k6 4
      obtain ⟨s8, b8⟩ := set5 k6 0 0 0 0 0
      have HB6 := Lib.hid (HB.out.trans ((hB.mono hUw).trans b8))
      have HS8 := Lib.hid s8
      clear s8 b8 hB k6 hk HG hno
      go_wp2_with fail
      clear q0 q1 q2 q3 q4 f0 f1 f2 f3 f4
      obtain ⟨q0, q1, q2, q3, q4⟩ := row5 HS8.out
      obtain ⟨V8, hV8⟩ : ∃ V, (((((wr.setCell ⟨w.heap.size, 0, none⟩ (.int .i64 0)).setCell ⟨w.heap.size, 1, none⟩ (.int .i64 0)).setCell ⟨w.heap.size, 2, none⟩ (.int .i64 0)).setCell ⟨w.heap.size, 3, none⟩ (.int .i64 0)).setCell ⟨w.heap.size, 4, none⟩ (.int .i64 0)) = V := ⟨_, rfl⟩
      rw [hV8] at HB6 q0 q1 q2 q3 q4 ⊢
      exact bodyPost_ret (v := quV NM.q0) (by simp [results, Tryz.results46, go_sem, NM.q0, *]) rfl ⟨rfl, HB6.out⟩
end Go.Proofs.YtggallpnbbidfaaGreatDoor
