/-
  The reference's busy program. No condition.
-/
import Derived.Test.YtgdefhlcgmibcaaVmR
namespace Go.Proofs.Ytgdefhlcgmibcaa
open Go Go.RowKit Go.Proofs
attribute [local go_sem] Oper.semAt_some

/-- The cells of a program with this code: handler 0 begins at 0, one variable is durable. -/
structure PrC (C : Array Value) (A : Value) : Prop where
  size : C.size = 43
  code : C[0]? = some A
  hand : C[1]? = some (.int .i64 0)
  dur : C[41]? = some (.int .i64 1)
  one : ∀ x ∈ C, x.oneCell' = true
theorem PrC.set {C : Array Value} {A : Value} (h : PrC C A) (k : Nat) (hk : 2 ≤ k ∧ k < 41) (x : Int) : PrC (C.setIfInBounds k (.int .i64 x)) A where
  size := by simpa using h.size
  code := by rw [Array.getElem?_setIfInBounds_ne (by omega)]; exact h.code
  hand := by rw [Array.getElem?_setIfInBounds_ne (by omega)]; exact h.hand
  dur := by rw [Array.getElem?_setIfInBounds_ne (by omega)]; exact h.dur
  one := fun y hy => by
    rcases Array.mem_or_eq_of_mem_setIfInBounds hy with h1 | rfl
    · exact h.one y h1
    · rfl
theorem PrC.code_ {C : Array Value} {A A' : Value} (h : PrC C A) (h1 : A'.oneCell' = true) : PrC (C.setIfInBounds 0 A') A' where
  size := by simpa using h.size
  code := by rw [Array.getElem?_setIfInBounds_self, if_pos (by have := h.size; omega)]
  hand := by rw [Array.getElem?_setIfInBounds_ne (by omega)]; exact h.hand
  dur := by rw [Array.getElem?_setIfInBounds_ne (by omega)]; exact h.dur
  one := fun y hy => by
    rcases Array.mem_or_eq_of_mem_setIfInBounds hy with h2 | rfl
    · exact h.one y h2
    · exact h1
theorem sz_prog : (Try.prog.info? 53).map (·.size) = some 43 := by kernel_rfl
theorem sz_code : (Try.prog.info? 50).map (·.size) = some 1 := by kernel_rfl
/-- A program's cells at the start. -/
def prog0 : Array Value := #[.slice none 0 0, .int .i64 0, .int .i64 0, .int .i64 0, .int .i64 0, .int .i64 0, .int .i64 0, .int .i64 0, .int .i64 0, .int .i64 0, .int .i64 0, .int .i64 0, .int .i64 0, .int .i64 0, .int .i64 0, .int .i64 0, .int .i64 0, .int .i64 0, .int .i64 0, .int .i64 0, .int .i64 0, .int .i64 0, .int .i64 0, .int .i64 0, .int .i64 0, .int .i64 0, .int .i64 0, .int .i64 0, .int .i64 0, .int .i64 0, .int .i64 0, .int .i64 0, .int .i64 0, .int .i64 0, .int .i64 0, .int .i64 0, .int .i64 0, .int .i64 0, .int .i64 0, .int .i64 0, .int .i64 0, .int .i64 1, .int .i64 0]
theorem prog0_ok : PrC prog0 (.slice none 0 0) := ⟨by decide, rfl, rfl, rfl, fun x hx => by
  unfold prog0 at hx
  simp at hx
  rcases hx with rfl | rfl | rfl | rfl <;> rfl⟩
def zeroP : Array Value := #[.slice none 0 0, .int .i64 0, .int .i64 0, .int .i64 0, .int .i64 0, .int .i64 0, .int .i64 0, .int .i64 0, .int .i64 0, .int .i64 0, .int .i64 0, .int .i64 0, .int .i64 0, .int .i64 0, .int .i64 0, .int .i64 0, .int .i64 0, .int .i64 0, .int .i64 0, .int .i64 0, .int .i64 0, .int .i64 0, .int .i64 0, .int .i64 0, .int .i64 0, .int .i64 0, .int .i64 0, .int .i64 0, .int .i64 0, .int .i64 0, .int .i64 0, .int .i64 0, .int .i64 0, .int .i64 0, .int .i64 0, .int .i64 0, .int .i64 0, .int .i64 0, .int .i64 0, .int .i64 0, .int .i64 0, .int .i64 0, .int .i64 0]
set_option maxHeartbeats 4000000 in
set_option maxRecDepth 100000 in
theorem busy_c (n d : Int) (w : World) : Calls Try.prog 28 #[.int .i64 n, .int .i64 d] w fun e w' => (∃ b C, e = .returned (.agg C) ∧ PrC C (.slice (some ⟨b, 0, none⟩) 14 14) ∧ w'.heap[b]? = some (.cells (VM.codeC (VM.busy n d)).toArray 71 (0, 0))) ∧ Below w.heap.size w w' := by
  obtain ⟨U1, hU1⟩ : ∃ U, w.alloc (.cells #[.slice none 0 0, .int .i64 0, .int .i64 0, .int .i64 0, .int .i64 0, .int .i64 0, .int .i64 0, .int .i64 0, .int .i64 0, .int .i64 0, .int .i64 0, .int .i64 0, .int .i64 0, .int .i64 0, .int .i64 0, .int .i64 0, .int .i64 0, .int .i64 0, .int .i64 0, .int .i64 0, .int .i64 0, .int .i64 0, .int .i64 0, .int .i64 0, .int .i64 0, .int .i64 0, .int .i64 0, .int .i64 0, .int .i64 0, .int .i64 0, .int .i64 0, .int .i64 0, .int .i64 0, .int .i64 0, .int .i64 0, .int .i64 0, .int .i64 0, .int .i64 0, .int .i64 0, .int .i64 0, .int .i64 0, .int .i64 0, .int .i64 0] 53) = U := ⟨_, rfl⟩
  obtain ⟨U2, hU2⟩ : ∃ U, U1.alloc (.cells #[.slice none 0 0, .int .i64 0, .int .i64 0, .int .i64 0, .int .i64 0, .int .i64 0, .int .i64 0, .int .i64 0, .int .i64 0, .int .i64 0, .int .i64 0, .int .i64 0, .int .i64 0, .int .i64 0, .int .i64 0, .int .i64 0, .int .i64 0, .int .i64 0, .int .i64 0, .int .i64 0, .int .i64 0, .int .i64 0, .int .i64 0, .int .i64 0, .int .i64 0, .int .i64 0, .int .i64 0, .int .i64 0, .int .i64 0, .int .i64 0, .int .i64 0, .int .i64 0, .int .i64 0, .int .i64 0, .int .i64 0, .int .i64 0, .int .i64 0, .int .i64 0, .int .i64 0, .int .i64 0, .int .i64 0, .int .i64 0, .int .i64 0] 53) = U := ⟨_, rfl⟩
  have hz1 : U1.heap.size = w.heap.size + 1 := by rw [← hU1]; simp
  have k1 : U1.heap[w.heap.size]? = some (.cells zeroP 53 (0, 0)) := by rw [← hU1]; exact dk_new_at rfl
  have k2 : U2.heap[w.heap.size]? = some (.cells zeroP 53 (0, 0)) := by rw [← hU2, Below.heap_alloc _ _ _ (by omega)]; exact k1
  have k3 : U2.heap[U1.heap.size]? = some (.cells zeroP 53 (0, 0)) := by rw [← hU2]; exact dk_new_at rfl
  have hb : Below w.heap.size w U2 := by rw [← hU2, ← hU1]; exact ((Below.refl _ _).alloc (Nat.le_refl _) _).alloc (by simp) _
  have HT := Lib.hid (And.intro (show (Try.prog.info? 53).map (·.size) = some (Value.agg prog0).cells.size from sz_prog) (And.intro (show 0 + (Value.agg prog0).cells.size ≤ zeroP.size by decide) (And.intro (show (Value.agg prog0).cells.all (·.oneCell') = true by kernel_rfl) (show prog0 = (zeroP.toList.take 0 ++ (Value.agg prog0).cells.toList ++ zeroP.toList.drop (0 + (Value.agg prog0).cells.size)).toArray by kernel_rfl))))
  have HK := Lib.hid (And.intro k2 (And.intro k3 hb))
  clear k1 k2 k3 hb hz1
  go_enter Try.func28, Try.ntmps28
  go_upto_region 2 with (refine RgX.wpList_store_seg rfl 53 _ _ rfl U1.heap.size 0 (.agg prog0) rfl rfl 53 zeroP HK.out.2.1 HT.out.1 HT.out.2.1 HT.out.2.2.1 prog0 HT.out.2.2.2 ?_; intro u3 m3 o3 z3 b3)
  have hU1z : U1.heap.size = w.heap.size + 1 := by rw [← hU1]; simp
  have hlo : w.heap.size ≤ U1.heap.size := by omega
  have hne : w.heap.size ≠ U1.heap.size := by omega
  have H3 := Lib.hid (And.intro m3 (And.intro ((o3 w.heap.size hne).trans HK.out.1) (HK.out.2.2.trans (b3.mono hlo))))
  clear m3 o3 z3 b3 HK HT hU1 hU2 hU1z
  go_wp2_with fail
  go_loopw [6] (fun i V => ∃ (k : Nat) (C : Array Value), 1 ≤ k ∧ k ≤ 40 ∧ i = .int .i64 (k : Int) ∧ Hid (PrC C (.slice none 0 0)) ∧ Hid (V.heap[U1.heap.size]? = some (.cells C 53 (0, 0))) ∧ Hid (V.heap[w.heap.size]? = some (.cells zeroP 53 (0, 0))) ∧ Hid (Below w.heap.size w V)) (fun i _ => 40 - (intOf i).toNat)
  case atStart => exact ⟨1, prog0, by omega, by omega, rfl, prog0_ok, H3.out.1, H3.out.2.1, H3.out.2.2⟩
  case round =>
    obtain ⟨k, C, hk1, hk, rfl, HC, HM, HR, HW⟩ := hrel
    by_cases hin : k < 40
    · have di : (k : Int) < 40 := by omega
      have HT := Lib.hid (And.intro (show (Try.prog.info? 3).map (·.size) = some (Value.int .i64 (-1)).cells.size from dk_sz_int) (And.intro (show 1 + k + (Value.int .i64 (-1)).cells.size ≤ C.size by have := HC.out.size; show 1 + k + 1 ≤ _; omega) (And.intro (show (Value.int .i64 (-1)).cells.all (·.oneCell') = true by simp [Value.cells, Value.oneCell']) (seg_one (T := C) (j := 1 + k) (v := .int .i64 (-1)) rfl (by have := HC.out.size; omega)))))
      go_wp2_with (refine RgX.wpList_store_seg rfl 3 _ _ rfl U1.heap.size (1 + k) (.int .i64 (-1)) rfl rfl 53 C HM.out HT.out.1 HT.out.2.1 HT.out.2.2.1 (C.setIfInBounds (1 + k) (.int .i64 (-1))) HT.out.2.2.2 ?_; intro u4 m4 o4 z4 b4; have H4 := Lib.hid (And.intro m4 (And.intro ((o4 _ hne).trans HR.out) (HW.out.trans (b4.mono hlo)))); clear m4 o4 z4 b4)
      go_roundw
      case rel => exact ⟨k + 1, _, by omega, by omega, by go_num, HC.out.set (1 + k) (by omega) (-1), H4.out.1, H4.out.2.1, H4.out.2.2⟩
      case measure => simp [intOf]; omega
    · have di : ¬ (k : Int) < 40 := by omega
      obtain ⟨Z, hZ⟩ : ∃ Z, wr.alloc (.cells #[.int .i64 2, .int .i64 0, .int .i64 1, .int .i64 n, .int .i64 11, .int .i64 0, .int .i64 16, .int .i64 13, .int .i64 1, .int .i64 d, .int .i64 2, .int .i64 0, .int .i64 1, .int .i64 5, .int .i64 17, .int .i64 7, .int .i64 2, .int .i64 0, .int .i64 1, .int .i64 1, .int .i64 6, .int .i64 0, .int .i64 3, .int .i64 0, .int .i64 15, .int .i64 0, .int .i64 23, .int .i64 0] 71) = Z := ⟨_, rfl⟩
      have hbZ : Below wr.heap.size wr Z := hZ ▸ dk_box wr _
      have hkZ : Z.heap[wr.heap.size]? = some (.cells (VM.codeC (VM.busy n d)).toArray 71 (0, 0)) := by rw [← hZ]; exact dk_new_at rfl
      have HX := Lib.hid (And.intro hkZ (And.intro ((hbZ.block _ (blk_lt HM.out)).trans HM.out) (And.intro ((hbZ.block _ (blk_lt HR.out)).trans HR.out) (HW.out.trans (hbZ.mono HW.out.size)))))
      have hC2 := HC.out.code_ (A' := .slice (some ⟨wr.heap.size, 0, none⟩) 14 14) rfl
      have HT := Lib.hid (And.intro (show (Try.prog.info? 50).map (·.size) = some (Value.slice (some ⟨wr.heap.size, 0, none⟩) 14 14).cells.size from sz_code) (And.intro (show 0 + (Value.slice (some ⟨wr.heap.size, 0, none⟩) 14 14).cells.size ≤ C.size by have := HC.out.size; show 0 + 1 ≤ _; omega) (And.intro (show (Value.slice (some ⟨wr.heap.size, 0, none⟩) 14 14).cells.all (·.oneCell') = true by simp [Value.cells, Value.oneCell']) (seg_one (T := C) (j := 0) (v := .slice (some ⟨wr.heap.size, 0, none⟩) 14 14) rfl (by have := HC.out.size; omega)))))
      have hneZ : wr.heap.size ≠ U1.heap.size := by have := blk_lt HM.out; omega
      have hneR : wr.heap.size ≠ w.heap.size := by have := blk_lt HR.out; omega
      obtain ⟨C2, hC2e⟩ : ∃ C2, C.setIfInBounds 0 (.slice (some ⟨wr.heap.size, 0, none⟩) 14 14) = C2 := ⟨_, rfl⟩
      rw [hC2e] at hC2 HT
      have HC2 := Lib.hid hC2
      clear hbZ hkZ hC2 hC2e
      go_upto_region 7 with (refine RgX.wpList_store_seg rfl 50 _ _ rfl U1.heap.size 0 (.slice (some ⟨wr.heap.size, 0, none⟩) 14 14) rfl rfl 53 C HX.out.2.1 HT.out.1 HT.out.2.1 HT.out.2.2.1 C2 HT.out.2.2.2 ?_; intro u4 m4 o4 z4 b4; have H4 := Lib.hid (And.intro m4 (And.intro ((o4 _ hne).trans HX.out.2.2.1) (And.intro ((o4 _ hneZ).trans HX.out.1) (HX.out.2.2.2.trans (b4.mono hlo))))); clear m4 o4 z4 b4)
      have HS := Lib.hid (And.intro (show (Try.prog.info? 53).map (·.size) = some C2.size by rw [HC2.out.size]; exact sz_prog) (And.intro (show 0 + (Value.agg C2).cells.size ≤ zeroP.size by show 0 + C2.size ≤ _; rw [HC2.out.size]; decide) (And.intro (show (Value.agg C2).cells.all (·.oneCell') = true by show C2.all _ = true; rw [Array.all_eq_true]; intro i hi; exact HC2.out.one _ (Array.getElem_mem hi)) (show C2 = (zeroP.toList.take 0 ++ (Value.agg C2).cells.toList ++ zeroP.toList.drop (0 + (Value.agg C2).cells.size)).toArray by show C2 = ([] ++ C2.toList ++ zeroP.toList.drop (0 + C2.size)).toArray; rw [HC2.out.size]; show C2 = ([] ++ C2.toList ++ []).toArray; simp))))
      go_wp2_with (first | (refine wpList_load_row rfl 53 _ rfl U1.heap.size rfl 53 C2 (0, 0) _ H4.out.1 Try.underlying53 rfl HS.out.1 ?_) | (refine RgX.wpList_store_seg rfl 53 _ _ rfl w.heap.size 0 (.agg C2) rfl rfl 53 zeroP H4.out.2.1 HS.out.1 HS.out.2.1 HS.out.2.2.1 C2 HS.out.2.2.2 ?_; intro u5 m5 o5 z5 b5))
      exact bodyPost_ret (results_cell_row rfl _ u5 w.heap.size _ C2 (0, 0) _ rfl m5 Try.underlying53 rfl HS.out.1) rfl ⟨⟨_, C2, rfl, HC2.out, (o5 _ hneR).trans H4.out.2.2.1⟩, H4.out.2.2.2.trans b5⟩
end Go.Proofs.Ytgdefhlcgmibcaa
