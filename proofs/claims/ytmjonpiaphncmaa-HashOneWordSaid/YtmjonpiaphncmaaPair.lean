/-
  hash.Pair returns the hash of two hashes, and the law's examples hold. Conditions: none.
-/
import Derived.Test.YtmjonpiaphncmaaBytes
namespace Go.Proofs.Ytmjonpiaphncmaa
open Go.RowKit

/-- A new block of integers, as a slice. -/
theorem Ints.lit (k : IntKind) (w : World) (e : TypeId) (l : List Int) (C : Array Value) (hC : C = (l.map (Value.int k)).toArray) (n : Nat) (hn : l.length = n) :
    Ints k (w.alloc (.cells C e)).heap.size (w.alloc (.cells C e)) (some ⟨w.heap.size, 0, none⟩) n l := by
  refine ⟨hn, fun _ => ⟨w.heap.size, 0, rfl, by simp, fun j hj => ?_⟩⟩
  rw [Nat.zero_add, cell_new_row w C e (0, 0) j, hC, List.getElem?_toArray, List.getElem?_map, List.getElem?_eq_getElem (by omega)]
  rfl

theorem len_small {n : Nat} (h : n ≤ 1000) : Len n := by unfold Len; omega

theorem sum_one (s : ByteArray) (hs : Len s.size) (x : Int) (w : World) :
    Calls Try.prog 13 #[.string s, .slice (some ⟨w.heap.size, 0, none⟩) 1 1] (w.alloc (.cells #[.int .i64 x] 3)) fun e w' => e = .returned (.int .u64 (sumI (sb s) [x])) ∧ Below w.heap.size w w' :=
  (sum_any s _ 1 1 [x] _ (Ints.lit .i64 w 3 [x] _ rfl 1 rfl) hs (len_small (by decide))).mono fun _ _ ⟨he, hb⟩ => ⟨he, ((Below.refl _ w).alloc (Nat.le_refl _) _).trans (hb.mono (by simp))⟩
theorem sum_two (s : ByteArray) (hs : Len s.size) (x y : Int) (w : World) :
    Calls Try.prog 13 #[.string s, .slice (some ⟨w.heap.size, 0, none⟩) 2 2] (w.alloc (.cells #[.int .i64 x, .int .i64 y] 3)) fun e w' => e = .returned (.int .u64 (sumI (sb s) [x, y])) ∧ Below w.heap.size w w' :=
  (sum_any s _ 2 2 [x, y] _ (Ints.lit .i64 w 3 [x, y] _ rfl 2 rfl) hs (len_small (by decide))).mono fun _ _ ⟨he, hb⟩ => ⟨he, ((Below.refl _ w).alloc (Nat.le_refl _) _).trans (hb.mono (by simp))⟩
theorem bytes_two (s : ByteArray) (hs : Len s.size) (x y : Int) (hx : B8 x) (hy : B8 y) (w : World) :
    Calls Try.prog 17 #[.string s, .slice (some ⟨w.heap.size, 0, none⟩) 2 2] (w.alloc (.cells #[.int .u8 x, .int .u8 y] 5)) fun e w' => e = .returned (.int .u64 (bytesI (sb s) [x, y])) ∧ Below w.heap.size w w' :=
  (bytes_any s _ 2 2 [x, y] _ (Ints.lit .u8 w 5 [x, y] _ rfl 2 rfl) (Nat.le_refl _) (by intro z hz; simp at hz; rcases hz with rfl | rfl <;> assumption) hs (len_small (by decide))).mono
    fun _ _ ⟨he, hb⟩ => ⟨he, ((Below.refl _ w).alloc (Nat.le_refl _) _).trans (hb.mono (by simp))⟩

def sPair : ByteArray := { data := #[112, 97, 105, 114] }
def sA : ByteArray := { data := #[97] }
theorem sb_pair : sb sPair = pairS := rfl
theorem sb_a : sb sA = [97] := rfl

set_option maxHeartbeats 400000 in
theorem pair_any (a b : Int) (w : World) :
    Calls Try.prog 19 #[.int .u64 a, .int .u64 b] w fun e w' => e = .returned (.int .u64 (pairI a b)) ∧ Below w.heap.size w w' := by
  go_enter Try.func19, Try.ntmps19
  go_wp2_with (go_at_call 13; refine (sum_two sPair (len_small (by decide)) _ _ _).mono ?_; rintro e w' ⟨rfl, hb⟩)
  go_ret
  exact ⟨ret_u64 (by unfold pairI; rw [wrap64_i64, wrap64_i64, sb_pair]), hb⟩

theorem live1 : (sumI [97] [5] != sumI [97] [6]) = true := by decide +kernel
theorem live2 : (bytesI [97] [1, 2] == sumI [97] [513, 2]) = true := by decide +kernel
theorem live3 : (pairI 1 2 != pairI 1 3) = true := by decide +kernel

/-- The six hashes of the examples, under names. -/
theorem live_all : ∃ a b c d p q : Int, (a != b) = true ∧ (c == d) = true ∧ (p != q) = true ∧ sumI [97] [5] = a ∧ sumI [97] [6] = b ∧ bytesI [97] [1, 2] = c ∧ sumI [97] [513, 2] = d ∧ pairI 1 2 = p ∧ pairI 1 3 = q :=
  ⟨_, _, _, _, _, _, live1, live2, live3, rfl, rfl, rfl, rfl, rfl, rfl⟩

set_option maxHeartbeats 400000 in
theorem lives_any (w : World) :
    Calls Try.prog 15 #[] w fun e w' => e = .returned (.bool true) ∧ Below w.heap.size w w' := by
  obtain ⟨a, b, c, d, p, q, l1, l2, l3, h1, h2, h3, h4, h5, h6⟩ := live_all
  have H1 : ∀ w, Calls Try.prog 13 #[.string { data := #[97] }, .slice (some ⟨w.heap.size, 0, none⟩) 1 1] (w.alloc (.cells #[.int .i64 5] 3)) fun e w' => e = .returned (.int .u64 a) ∧ Below w.heap.size w w' := fun w => by
    rw [← h1]; exact sum_one sA (len_small (by decide)) 5 w
  have H2 : ∀ w, Calls Try.prog 13 #[.string { data := #[97] }, .slice (some ⟨w.heap.size, 0, none⟩) 1 1] (w.alloc (.cells #[.int .i64 6] 3)) fun e w' => e = .returned (.int .u64 b) ∧ Below w.heap.size w w' := fun w => by
    rw [← h2]; exact sum_one sA (len_small (by decide)) 6 w
  have H3 : ∀ w, Calls Try.prog 17 #[.string { data := #[97] }, .slice (some ⟨w.heap.size, 0, none⟩) 2 2] (w.alloc (.cells #[.int .u8 1, .int .u8 2] 5)) fun e w' => e = .returned (.int .u64 c) ∧ Below w.heap.size w w' := fun w => by
    rw [← h3]; exact bytes_two sA (len_small (by decide)) 1 2 ⟨by decide, by decide⟩ ⟨by decide, by decide⟩ w
  have H4 : ∀ w, Calls Try.prog 13 #[.string { data := #[97] }, .slice (some ⟨w.heap.size, 0, none⟩) 2 2] (w.alloc (.cells #[.int .i64 513, .int .i64 2] 3)) fun e w' => e = .returned (.int .u64 d) ∧ Below w.heap.size w w' := fun w => by
    rw [← h4]; exact sum_two sA (len_small (by decide)) 513 2 w
  have H5 : ∀ w, Calls Try.prog 19 #[.int .u64 1, .int .u64 2] w fun e w' => e = .returned (.int .u64 p) ∧ Below w.heap.size w w' := fun w => by
    rw [← h5]; exact pair_any 1 2 w
  have H6 : ∀ w, Calls Try.prog 19 #[.int .u64 1, .int .u64 3] w fun e w' => e = .returned (.int .u64 q) ∧ Below w.heap.size w w' := fun w => by
    rw [← h6]; exact pair_any 1 3 w
  have K1 := Lib.hid H1
  have K2 := Lib.hid H2
  have K3 := Lib.hid H3
  have K4 := Lib.hid H4
  have K5 := Lib.hid H5
  have K6 := Lib.hid H6
  clear H1 H2 H3 H4 H5 H6 h1 h2 h3 h4 h5 h6
  go_enter Try.func15, Try.ntmps15
  go_wp2_with fail
  refine (K1.out _).mono ?_
  rintro e w1 ⟨rfl, hb1⟩
  go_wp2_with fail
  refine (K2.out _).mono ?_
  rintro e w2 ⟨rfl, hb2⟩
  go_wp2_with fail
  refine (K3.out _).mono ?_
  rintro e w3 ⟨rfl, hb3⟩
  go_wp2_with fail
  refine (K4.out _).mono ?_
  rintro e w4 ⟨rfl, hb4⟩
  go_wp2_with fail
  refine (K5.out _).mono ?_
  rintro e w5 ⟨rfl, hb5⟩
  go_wp2_with fail
  refine (K6.out _).mono ?_
  rintro e w6 ⟨rfl, hb6⟩
  go_wp2_with fail
  go_ret
  have b2 := hb1.trans (hb2.mono hb1.size)
  have b3 := b2.trans (hb3.mono b2.size)
  have b4 := b3.trans (hb4.mono b3.size)
  have b5 := b4.trans (hb5.mono b4.size)
  exact ⟨rfl, b5.trans (hb6.mono b5.size)⟩
end Go.Proofs.Ytmjonpiaphncmaa
