/-
  The only event that can have a text. Conditions: the listed tables and variables stand (TN); the text has at most 1000 bytes.
-/
import Derived.Test.YtggallpnbbidfaaGreatDoorNmS
import Derived.Test.YtggallpnbbidfaaGreatDoorNmW
namespace Go.Proofs.YtggallpnbbidfaaGreatDoor
open Go Go.RowKit Go.Proofs
attribute [local go_sem] Oper.semAt_some

theorem bs_toListU (t : NM.Bs) : (NM.bs t).toList = t := by
  rw [ByteArray.toList_eq]
  simp [NM.bs]
theorem set8 {V : World} {g : Nat} {t : TypeId} {x0 x1 x2 x3 x4 x5 x6 x7 : Value} (h : V.heap[g]? = some (.cells #[x0, x1, x2, x3, x4, x5, x6, x7] t (0, 0))) (n0 n1 n2 n3 n4 n5 n6 n7 : Int) :
    ((((((((V.setCell ⟨g, 0, none⟩ (.int .i64 n0)).setCell ⟨g, 1, none⟩ (.int .i64 n1)).setCell ⟨g, 2, none⟩ (.int .i64 n2)).setCell ⟨g, 3, none⟩ (.int .i64 n3)).setCell ⟨g, 4, none⟩ (.int .i64 n4)).setCell ⟨g, 5, none⟩ (.int .i64 n5)).setCell ⟨g, 6, none⟩ (.int .i64 n6)).setCell ⟨g, 7, none⟩ (.int .i64 n7)).heap[g]? = some (.cells #[.int .i64 n0, .int .i64 n1, .int .i64 n2, .int .i64 n3, .int .i64 n4, .int .i64 n5, .int .i64 n6, .int .i64 n7] t (0, 0)) ∧ Below g V ((((((((V.setCell ⟨g, 0, none⟩ (.int .i64 n0)).setCell ⟨g, 1, none⟩ (.int .i64 n1)).setCell ⟨g, 2, none⟩ (.int .i64 n2)).setCell ⟨g, 3, none⟩ (.int .i64 n3)).setCell ⟨g, 4, none⟩ (.int .i64 n4)).setCell ⟨g, 5, none⟩ (.int .i64 n5)).setCell ⟨g, 6, none⟩ (.int .i64 n6)).setCell ⟨g, 7, none⟩ (.int .i64 n7)) := by
  refine ⟨?_, (((((((Below.refl g V).setCell (Nat.le_refl _) _).setCell (Nat.le_refl _) _).setCell (Nat.le_refl _) _).setCell (Nat.le_refl _) _).setCell (Nat.le_refl _) _).setCell (Nat.le_refl _) _).setCell (Nat.le_refl _) _ |>.setCell (Nat.le_refl _) _⟩
  simp only [World.setCell, Array.getElem?_modify]
  simp [h]
theorem froz {V : World} {g : Nat} {C : Array Value} {t : TypeId} (h : V.heap[g]? = some (.cells C t (0, 0))) (j : Nat) : V.frozen? ⟨g, j, none⟩ = false := by simp [World.frozen?, h]
/-- What is guessed, by the first kind whose word it is. -/
theorem kindOf_hit {W : NM.Bs} {j : Nat} (h1 : 1 ≤ j) (h2 : j ≤ 7) (hno : ∀ m : Nat, 1 ≤ m → m < j → NM.word m ≠ W) (hj : NM.word j = W) : NM.kindOf W = some (j : Int) := by
  have hc : j = 1 ∨ j = 2 ∨ j = 3 ∨ j = 4 ∨ j = 5 ∨ j = 6 ∨ j = 7 := by omega
  subst hj
  rcases hc with rfl | rfl | rfl | rfl | rfl | rfl | rfl <;> rfl
theorem kindOf_miss {W : NM.Bs} (hno : ∀ m : Nat, 1 ≤ m → m < 8 → NM.word m ≠ W) : NM.kindOf W = none := by
  unfold NM.kindOf
  rw [List.find?_eq_none]
  intro k hk
  simp only [List.mem_cons, List.not_mem_nil, or_false] at hk
  rcases hk with rfl | rfl | rfl | rfl | rfl | rfl | rfl
  · simpa using hno 1 (by omega) (by omega)
  · simpa using hno 2 (by omega) (by omega)
  · simpa using hno 3 (by omega) (by omega)
  · simpa using hno 4 (by omega) (by omega)
  · simpa using hno 5 (by omega) (by omega)
  · simpa using hno 6 (by omega) (by omega)
  · simpa using hno 7 (by omega) (by omega)
set_option maxRecDepth 100000 in
set_option maxHeartbeats 8000000 in
theorem guessE_any (t : NM.Bs) (w : World) (hT : TN w) (hl : t.length ≤ 1000) :
    Calls Tryz.prog 44 #[.string (NM.bs t)] w fun e w' => e = .returned (evV (NM.guessE t)) ∧ Below w.heap.size w w' := by
  obtain ⟨n0, n1, n2, n3, n4, n5, e6⟩ := six_of (show (NM.six t).length = 6 from nums_len 6 _)
  have hS := fun (V : World) (hV : Below w.heap.size w V) => split_any t V (hT.below hV) hl
  obtain ⟨W1, hW1⟩ : ∃ W, (Lib.cut t [32]).1 = W := ⟨_, rfl⟩
  have hg : NM.guessE t = match NM.kindOf W1 with
    | some k => NM.written k ⟨k, n0, n1, ⟨n1, n2, n3, n4, n5⟩⟩
    | none => NM.e0 := by unfold NM.guessE; rw [hW1, e6]; rfl
  rw [hW1, e6] at hS
  have HS := Lib.hid (show ∀ V, Below w.heap.size w V → Calls Tryz.prog 60 #[.string (NM.bs t)] V fun e w' => e = .returned (.tuple #[.string (NM.bs W1), .agg #[.int .i64 n0, .int .i64 n1, .int .i64 n2, .int .i64 n3, .int .i64 n4, .int .i64 n5]]) ∧ Below V.heap.size V w' from hS)
  obtain ⟨X1, hX1⟩ : ∃ s, NM.bs W1 = s := ⟨_, rfl⟩
  have hX1l : X1.toList = W1 := by rw [← hX1, bs_toListU]
  rw [hX1] at HS
  have HX := Lib.hid hX1l
  have HG := Lib.hid hg
  obtain ⟨T0, hT0⟩ : ∃ s, NM.bs t = s := ⟨_, rfl⟩
  rw [hT0] at HS ⊢
  obtain ⟨R, hR⟩ : ∃ R, NM.guessE t = R := ⟨_, rfl⟩
  rw [hR] at HG ⊢
  clear hS hW1 e6 hX1 hX1l hg hT0 hR hT
  obtain ⟨W0, hW0⟩ : ∃ U, w.alloc (.cells #[.int .i64 0, .int .i64 0, .int .i64 0, .int .i64 0, .int .i64 0, .int .i64 0, .int .i64 0, .int .i64 0] 28) = U := ⟨_, rfl⟩
  have hb0 : Below w.heap.size w W0 := hW0 ▸ one_box w _
  have k0 : W0.heap[w.heap.size]? = some (.cells #[.int .i64 0, .int .i64 0, .int .i64 0, .int .i64 0, .int .i64 0, .int .i64 0, .int .i64 0, .int .i64 0] 28 (0, 0)) := by rw [← hW0]; exact new_at rfl
  have HB0 := Lib.hid hb0
  have HK0 := Lib.hid k0
  clear hb0 k0
  go_enter Tryz.func44, Tryz.ntmps44
  go_wp2_with fail
  clear hW0
  refine (HS.out _ HB0.out).mono ?_
  rintro e w1 ⟨rfl, hb1⟩
  obtain ⟨U, hU⟩ : ∃ U, w1.alloc (.cells #[.int .i64 n0, .int .i64 n1, .int .i64 n2, .int .i64 n3, .int .i64 n4, .int .i64 n5] 93) = U := ⟨_, rfl⟩
  have hbU : Below w1.heap.size w1 U := hU ▸ one_box w1 _
  have h01 := heap_lt HK0.out
  have h12 : w.heap.size < w1.heap.size := Nat.lt_of_lt_of_le h01 hb1.size
  have kN : U.heap[w1.heap.size]? = some (.cells #[.int .i64 n0, .int .i64 n1, .int .i64 n2, .int .i64 n3, .int .i64 n4, .int .i64 n5] 93 (0, 0)) := by rw [← hU]; exact new_at rfl
  have hNU := heap_lt kN
  have kR := (hbU.block _ h12).trans ((hb1.block _ h01).trans HK0.out)
  have HKR := Lib.hid (fun (V : World) (hV : Below U.heap.size U V) => (hV.block w.heap.size (by omega)).trans kR)
  have HKN := Lib.hid (fun (V : World) (hV : Below U.heap.size U V) => (hV.block w1.heap.size hNU).trans kN)
  have HB := Lib.hid (HB0.out.trans ((hb1.trans (hbU.mono hb1.size)).mono HB0.out.size))
  have hUw : w.heap.size ≤ U.heap.size := by omega
  clear hb1 hbU kN kR HS HB0 HK0
  go_wp2_with fail
  clear hU
  go_loopw [5] (fun i V => ∃ j : Nat, 1 ≤ j ∧ j ≤ 8 ∧ i = .int .i64 (j : Int) ∧ Hid (∀ m : Nat, 1 ≤ m → m < j → NM.word m ≠ W1) ∧ Below U.heap.size U V) (fun i _ => 8 - (intOf i).toNat)
  case atStart => exact ⟨1, by omega, by omega, rfl, (show ∀ m : Nat, 1 ≤ m → m < 1 → _ from fun m a b => by omega), Below.refl _ _⟩
  case round =>
    obtain ⟨j, hj1, hj2, rfl, hno, hB⟩ := hrel
    by_cases hj7 : j ≤ 7
    · have HL := Lib.hid (fun V => layout_any (j : Int) V)
      have HWr := Lib.hid (fun V => written_any (j : Int) ⟨j, n0, n1, ⟨n1, n2, n3, n4, n5⟩⟩ V)
      obtain ⟨p0, p1, p2, p3, p4, p5⟩ := row6 (HKN.out wr hB)
      by_cases hw : NM.word j = W1
      · have hk := kindOf_hit hj1 hj7 hno.out hw
        have hgg := HG.out
        rw [hk] at hgg
        have hgg : R = NM.written (j : Int) ⟨j, n0, n1, ⟨n1, n2, n3, n4, n5⟩⟩ := hgg
        rw [← hgg] at HWr
        obtain ⟨Y, hY⟩ : ∃ s, NM.bs (NM.word (j : Int)) = s := ⟨_, rfl⟩
        have hYl : (Y.toList == X1.toList) = true := by rw [← hY, bs_toListU, HX.out, hw]; simp
        have hYe : Y.toList = X1.toList := by simpa using hYl
        obtain ⟨b1, hb1⟩ : ∃ b, NM.argK (j : Int) = b := ⟨_, rfl⟩
        obtain ⟨b2, hb2⟩ : ∃ b, NM.msgK (j : Int) = b := ⟨_, rfl⟩
        have HL2 := Lib.hid (show ∀ V, Calls Tryz.prog 29 #[.int .i64 (j : Int)] V fun e w' => e = .returned (.agg #[.string Y, .bool b1, .bool b2]) ∧ Below V.heap.size V w' from by rw [← hY, ← hb1, ← hb2]; exact HL.out)
        have HW2 := Lib.hid (show ∀ V, Calls Tryz.prog 53 #[.agg #[.string Y, .bool b1, .bool b2], .agg #[.int .i64 (j : Int), .int .i64 n0, .int .i64 n1, .int .i64 n1, .int .i64 n2, .int .i64 n3, .int .i64 n4, .int .i64 n5]] V fun e w' => e = .returned (evV R) ∧ Below V.heap.size V w' from by rw [← hY, ← hb1, ← hb2]; exact HWr.out)
        clear HL HWr hk hgg hw hno hY hb1 hb2 hYl
        clear hgg HG
        obtain ⟨rk, rn, ra, rc, rh, rt, ri, rp⟩ := R
        go_wp2_with fail
        refine (HL2.out _).mono ?_
        clear HL2
        rintro e w5 ⟨rfl, hb5⟩
        obtain ⟨L, hL⟩ : ∃ L, w5.alloc (.cells #[.string Y, .bool b1, .bool b2] 65) = L := ⟨_, rfl⟩
        have hsB := hB.size
        have hs5 := hb5.size
        have hbL : Below w5.heap.size w5 L := hL ▸ one_box w5 _
        have zL : L.heap.size = w5.heap.size + 1 := by rw [← hL]; simp
        have kL : L.heap[w5.heap.size]? = some (.cells #[.string Y, .bool b1, .bool b2] 65 (0, 0)) := by rw [← hL]; exact new_at rfl
        have BL : Below U.heap.size U L := hB.trans ((hb5.trans (hbL.mono hs5)).mono hsB)
        obtain ⟨M, hM⟩ : ∃ M, L.alloc (.cells #[.int .i64 n1, .int .i64 n2, .int .i64 n3, .int .i64 n4, .int .i64 n5] 26) = M := ⟨_, rfl⟩
        have hbM : Below L.heap.size L M := hM ▸ one_box L _
        have kM : M.heap[L.heap.size]? = some (.cells #[.int .i64 n1, .int .i64 n2, .int .i64 n3, .int .i64 n4, .int .i64 n5] 26 (0, 0)) := by rw [← hM]; exact new_at rfl
        have BM : Below U.heap.size U M := BL.trans (hbM.mono BL.size)
        clear p0 p1 p2 p3 p4 p5
        obtain ⟨p0, p1, p2, p3, p4, p5⟩ := row6 (HKN.out L BL)
        obtain ⟨q0, q1, q2, q3, q4, q5⟩ := row6 (HKN.out M BM)
        have l0 := cell_of_row L _ 0 _ _ (0, 0) kL
        have m0 := cell_of_row M _ 0 _ _ (0, 0) ((hbM.block _ (by omega)).trans kL)
        have m1 := cell_of_row M _ 1 _ _ (0, 0) ((hbM.block _ (by omega)).trans kL)
        have m2 := cell_of_row M _ 2 _ _ (0, 0) ((hbM.block _ (by omega)).trans kL)
        have l0 : L.cell? ⟨w5.heap.size, 0, none⟩ = some (.string Y) := l0
        have m0 : M.cell? ⟨w5.heap.size, 0, none⟩ = some (.string Y) := m0
        have m1 : M.cell? ⟨w5.heap.size, 1, none⟩ = some (.bool b1) := m1
        have m2 : M.cell? ⟨w5.heap.size, 2, none⟩ = some (.bool b2) := m2
        obtain ⟨r0, r1, r2, r3, r4⟩ := row5 kM
        rw [zL] at r0 r1 r2 r3 r4
        have HBM := Lib.hid BM
        clear hb5 hbL kL hbM kM BL BM hB hs5 hsB
        have HZL := Lib.hid zL
        go_wp2_with fail
        refine (HW2.out _).mono ?_
        clear HW2
        rintro e w6 ⟨rfl, hb6⟩
        clear p0 p1 p2 p3 p4 p5 q0 q1 q2 q3 q4 q5 l0 m0 m1 m2 r0 r1 r2 r3 r4 hL hM zL
        have hU6 : Below U.heap.size U w6 := HBM.out.trans (hb6.mono HBM.out.size)
        have k6 := HKR.out w6 hU6
        obtain ⟨q0, q1, q2, q3, q4, q5, q6, q7⟩ := row8 k6
        have f0 := froz k6 0
        have f1 := froz k6 1
        have f2 := froz k6 2
        have f3 := froz k6 3
        have f4 := froz k6 4
        have f5 := froz k6 5
        have f6 := froz k6 6
        have f7 := froz k6 7
        obtain ⟨s8, b8⟩ := set8 k6 rk rn ra rc rh rt ri rp
        have HB6 := Lib.hid (HB.out.trans ((hU6.mono hUw).trans b8))
        have HS8 := Lib.hid s8
        clear s8 b8 hU6 hb6 k6
        go_wp2_with fail
        obtain ⟨q0, q1, q2, q3, q4, q5, q6, q7⟩ := row8 HS8.out
        obtain ⟨V8, hV8⟩ : ∃ V, ((((((((w6.setCell ⟨w.heap.size, 0, none⟩ (.int .i64 rk)).setCell ⟨w.heap.size, 1, none⟩ (.int .i64 rn)).setCell ⟨w.heap.size, 2, none⟩ (.int .i64 ra)).setCell ⟨w.heap.size, 3, none⟩ (.int .i64 rc)).setCell ⟨w.heap.size, 4, none⟩ (.int .i64 rh)).setCell ⟨w.heap.size, 5, none⟩ (.int .i64 rt)).setCell ⟨w.heap.size, 6, none⟩ (.int .i64 ri)).setCell ⟨w.heap.size, 7, none⟩ (.int .i64 rp)) = V := ⟨_, rfl⟩
        rw [hV8] at HB6 q0 q1 q2 q3 q4 q5 q6 q7 ⊢
        exact bodyPost_ret (v := evV ⟨rk, rn, ra, rc, rh, rt, ri, rp⟩) (by simp [results, Tryz.results44, go_sem, *]) rfl ⟨rfl, HB6.out⟩
      · have hno2 : Hid (∀ m : Nat, 1 ≤ m → m < j + 1 → NM.word m ≠ W1) := fun m a b => by
          rcases Nat.lt_or_ge m j with h | h
          · exact hno.out m a h
          · rw [show m = j by omega]; exact hw
        obtain ⟨Y, hY⟩ : ∃ s, NM.bs (NM.word (j : Int)) = s := ⟨_, rfl⟩
        have hYl : (Y.toList == X1.toList) = false := by rw [← hY, bs_toListU, HX.out]; simpa using hw
        have hYe : ¬ Y.toList = X1.toList := by simpa using hYl
        obtain ⟨b1, hb1⟩ : ∃ b, NM.argK (j : Int) = b := ⟨_, rfl⟩
        obtain ⟨b2, hb2⟩ : ∃ b, NM.msgK (j : Int) = b := ⟨_, rfl⟩
        have HL2 := Lib.hid (show ∀ V, Calls Tryz.prog 29 #[.int .i64 (j : Int)] V fun e w' => e = .returned (.agg #[.string Y, .bool b1, .bool b2]) ∧ Below V.heap.size V w' from by rw [← hY, ← hb1, ← hb2]; exact HL.out)
        have HBr := Lib.hid hB
        clear HL HWr hw hno hY hb1 hb2 HG p0 p1 p2 p3 p4 p5 hB
        go_wp2_with fail
        refine (HL2.out _).mono ?_
        clear HL2
        rintro e w5 ⟨rfl, hb5⟩
        obtain ⟨L, hL⟩ : ∃ L, w5.alloc (.cells #[.string Y, .bool b1, .bool b2] 65) = L := ⟨_, rfl⟩
        have hbL : Below w5.heap.size w5 L := hL ▸ one_box w5 _
        have kL : L.heap[w5.heap.size]? = some (.cells #[.string Y, .bool b1, .bool b2] 65 (0, 0)) := by rw [← hL]; exact new_at rfl
        have HBL := Lib.hid (HBr.out.trans ((hb5.trans (hbL.mono hb5.size)).mono HBr.out.size))
        have l0 := cell_of_row L _ 0 _ _ (0, 0) kL
        have l0 : L.cell? ⟨w5.heap.size, 0, none⟩ = some (.string Y) := l0
        clear hb5 hbL kL
        go_wp2_with fail
        go_roundw
        case rel => exact ⟨j + 1, by omega, by omega, by go_num, hno2.out, HBL.out⟩
        case measure => simp [intOf]; omega
    · obtain rfl : j = 8 := by omega
      have hk := kindOf_miss hno.out
      have hgg := HG.out
      rw [hk] at hgg
      obtain rfl : R = NM.e0 := hgg
      have k6 := HKR.out wr hB
      obtain ⟨q0, q1, q2, q3, q4, q5, q6, q7⟩ := row8 k6
      have f0 := froz k6 0
      have f1 := froz k6 1
      have f2 := froz k6 2
      have f3 := froz k6 3
      have f4 := froz k6 4
      have f5 := froz k6 5
      have f6 := froz k6 6
      have f7 := froz k6 7
      obtain ⟨s8, b8⟩ := set8 k6 0 0 0 0 0 0 0 0
      have HB6 := Lib.hid (HB.out.trans ((hB.mono hUw).trans b8))
      have HS8 := Lib.hid s8
      clear s8 b8 hB k6 hk HG hno
      go_wp2_with fail
      obtain ⟨q0, q1, q2, q3, q4, q5, q6, q7⟩ := row8 HS8.out
      obtain ⟨V8, hV8⟩ : ∃ V, ((((((((wr.setCell ⟨w.heap.size, 0, none⟩ (.int .i64 0)).setCell ⟨w.heap.size, 1, none⟩ (.int .i64 0)).setCell ⟨w.heap.size, 2, none⟩ (.int .i64 0)).setCell ⟨w.heap.size, 3, none⟩ (.int .i64 0)).setCell ⟨w.heap.size, 4, none⟩ (.int .i64 0)).setCell ⟨w.heap.size, 5, none⟩ (.int .i64 0)).setCell ⟨w.heap.size, 6, none⟩ (.int .i64 0)).setCell ⟨w.heap.size, 7, none⟩ (.int .i64 0)) = V := ⟨_, rfl⟩
      rw [hV8] at HB6 q0 q1 q2 q3 q4 q5 q6 q7 ⊢
      exact bodyPost_ret (v := evV NM.e0) (by simp [results, Tryz.results44, go_sem, NM.e0, NM.m0, *]) rfl ⟨rfl, HB6.out⟩
end Go.Proofs.YtggallpnbbidfaaGreatDoor
