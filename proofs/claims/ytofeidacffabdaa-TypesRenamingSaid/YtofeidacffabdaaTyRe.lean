/-
  The reference: in, comparison, TypeOf. Condition: the value is a tree.
-/
import Derived.Test.YtofeidacffabdaaTyWt
import Derived.Lib.Bytes
namespace Go.Proofs.Ytofeidacffabdaa
open Go Go.RowKit Go.Proofs Go.Shelf
attribute [local go_sem] Oper.semAt_some

theorem str_eq (x y : ByteArray) : (x.toList == y.toList) = decide (x = y) := by
  rw [Bool.eq_iff_iff, beq_iff_eq, decide_eq_true_iff, Lib.toList_data, Lib.toList_data]
  constructor
  · intro h
    apply ByteArray.ext
    exact Array.toList_inj.1 h
  · rintro rfl; rfl
/-- A list of strings in memory. -/
def Sts (hi : Nat) (W : World) (A : Option Addr) (m : Nat) (l : List ByteArray) : Prop := l.length = m ∧ (0 < m → ∃ b off, A = some ⟨b, off, none⟩ ∧ b < hi ∧ ∀ j, j < m → W.cell? ⟨b, off + j, none⟩ = some (.string (l[j]?.getD ⟨#[]⟩)))
theorem Sts.below {hi : Nat} {W W' : World} {A : Option Addr} {m : Nat} {l : List ByteArray} (h : Sts hi W A m l) (hb : Below hi W W') : Sts hi W' A m l := ⟨h.1, fun hm => by
  obtain ⟨b, off, e, h1, h2⟩ := h.2 hm
  exact ⟨b, off, e, h1, fun j hj => (hb.cell (p := ⟨b, off + j, none⟩) h1).trans (h2 j hj)⟩⟩
theorem Sts.of {hi : Nat} {W : World} {g : Nat} {C : Array Value} {f : Nat × Nat} {l : List ByteArray} {m : Nat} (h : W.heap[g]? = some (.cells C 9 f)) (hg : g < hi) (hm : l.length = m) (hc : ∀ j, j < m → C[j]? = some (.string (l[j]?.getD ⟨#[]⟩))) : Sts hi W (some ⟨g, 0, none⟩) m l := ⟨hm, fun _ => ⟨g, 0, rfl, hg, fun j hj => by
  rw [Nat.zero_add, cell_of_row W g j C _ f h]
  exact hc j hj⟩⟩
theorem inL_snoc {l : List ByteArray} {j : Nat} {x s : ByteArray} (hx : l[j]? = some x) (h : TY.inL (l.take j) s = false) (e : x ≠ s) : TY.inL (l.take (j + 1)) s = false := by
  unfold TY.inL at h ⊢
  rw [List.take_add_one, hx, List.any_append, h]
  simp [e]
set_option maxHeartbeats 2000000 in
theorem in_any (W : World) (hi : Nat) (A : Option Addr) (m c : Nat) (l : List ByteArray) (s : ByteArray) (h : Sts hi W A m l) (hm : m ≤ 100000) : Calls Try.prog 34 #[.slice A m c, .string s] W fun e w' => e = .returned (.bool (TY.inL l s)) ∧ w' = W := by
  have HL := Lib.hid h.1
  have HS := Lib.hid h
  clear h
  go_enter Try.func34, Try.ntmps34
  go_wp2_with fail
  go_loopw [5] (fun i V => ∃ j : Nat, j ≤ m ∧ i = .int .i64 (j : Int) ∧ Hid (TY.inL (l.take j) s = false) ∧ V = W) (fun i _ => m - (intOf i).toNat)
  case atStart => exact ⟨0, by omega, rfl, (show TY.inL (l.take 0) s = false from rfl), rfl⟩
  case round =>
    obtain ⟨j, hj, rfl, hT, rfl⟩ := hrel
    by_cases hjm : j < m
    · obtain ⟨x, hx⟩ : ∃ t, l[j]? = some t := ⟨l[j]'(by rw [HL.out]; exact hjm), List.getElem?_eq_getElem (by rw [HL.out]; exact hjm)⟩
      obtain ⟨b, off, rfl, hb, hcx⟩ := HS.out.2 (by omega)
      have ex := hcx j hjm
      rw [hx] at ex
      simp only [Option.getD_some] at ex
      by_cases hxs : x = s
      · subst hxs
        have HY := Lib.hid (show TY.inL l x = true from TY.inL_iff.2 (List.mem_of_getElem? hx))
        clear hcx hx
        go_wp2_with fail
        go_ret
        rw [HY.out]
        exact ⟨rfl, rfl⟩
      · have HSN := Lib.hid (inL_snoc hx hT.out hxs)
        have e1 : (x.toList == s.toList) = false := by rw [str_eq, decide_eq_false hxs]
        clear hcx hx
        go_wp2_with fail
        go_roundw
        case rel => exact ⟨j + 1, by omega, by go_num, HSN.out, trivial⟩
        case measure => simp [intOf]; omega
    · obtain rfl : j = m := by omega
      have HY := Lib.hid (show TY.inL l s = false by
        have := hT.out
        rwa [List.take_of_length_le (by rw [HL.out]; exact Nat.le_refl _)] at this)
      go_wp2_with fail
      go_ret
      rw [HY.out]
      exact ⟨rfl, rfl⟩
set_option maxHeartbeats 2000000 in
theorem comparison_any (W : World) (s : ByteArray) : Calls Try.prog 35 #[.string s] W fun e w' => e = .returned (.bool (TY.inL TY.compar s)) ∧ Below W.heap.size W w' := by
  obtain ⟨W1, hW1⟩ : ∃ U, W.alloc (.cells #[.string TY.sLt, .string TY.sLe, .string TY.sGt, .string TY.sGe, .string TY.sEq, .string TY.sNe] 9) = U := ⟨_, rfl⟩
  have hb1 : Below W.heap.size W W1 := by rw [← hW1]; exact (Below.refl _ _).alloc (Nat.le_refl _) _
  have z1 : W1.heap.size = W.heap.size + 1 := by rw [← hW1, World.size_alloc]
  have ho := World.alloc_heap_new W (.cells #[.string TY.sLt, .string TY.sLe, .string TY.sGt, .string TY.sGe, .string TY.sEq, .string TY.sNe] 9)
  rw [hW1] at ho
  have hst : Sts W1.heap.size W1 (some ⟨W.heap.size, 0, none⟩) 6 TY.compar := Sts.of ho (by omega) rfl fun j hj => by
    match j, hj with
    | 0, _ => rfl
    | 1, _ => rfl
    | 2, _ => rfl
    | 3, _ => rfl
    | 4, _ => rfl
    | 5, _ => rfl
  have HC := Lib.hid (in_any W1 _ _ 6 6 _ s hst (by decide))
  have HB1 := Lib.hid hb1
  have HW1 := Lib.hid hW1
  clear hst ho hb1 hW1 z1
  go_enter Try.func35, Try.ntmps35
  go_wp2_with (first
    | (rw [HW1.out]; go_at_call 34; refine HC.out.mono ?_; clear HC; rintro e w2 ⟨rfl, rfl⟩))
  go_ret
  exact ⟨rfl, HB1.out⟩
end Go.Proofs.Ytofeidacffabdaa
