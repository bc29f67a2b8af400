/-
  lexer.byteClasses: the table of the classes of bytes.
-/
import Derived.Deep.WholeRow
import Derived.Laws.ResultCell
import Derived.Lib.Strings
import Derived.Lib.IndexBytes
import Derived.Laws.Strings3
import Derived.Laws.DeepStrings4
import Derived.WalkKit
import Derived.Test.YtlfpaemfhanpiaaGreatDoorK3
import Derived.Test.YtlfpaemfhanpiaaGreatDoorK1

namespace Go.Proofs.YtlfpaemfhanpiaaGreatDoor
open Go Go.RowKit Go.Proofs

/-- The class of a byte. -/
def clsN (c : Nat) : Nat :=
  if c = 32 ∨ c = 9 ∨ c = 10 then 1 else if c = 35 then 2 else if 97 ≤ c ∧ c ≤ 122 then 3 else if 48 ≤ c ∧ c ≤ 57 then 4
  else if c = 60 ∨ c = 62 ∨ c = 61 ∨ c = 33 then 6 else if c = 124 ∨ c = 38 then 7
  else if c = 123 ∨ c = 125 ∨ c = 91 ∨ c = 93 ∨ c = 40 ∨ c = 41 ∨ c = 59 ∨ c = 44 ∨ c = 43 ∨ c = 45 ∨ c = 42 ∨ c = 47 then 5 else 0
def markC (C : Array Value) (l : List UInt8) (c : Int) : Array Value := l.foldl (fun a b => a.setIfInBounds b.toNat (.int .u8 c)) C
theorem markC_size (l : List UInt8) (c : Int) : ∀ C : Array Value, (markC C l c).size = C.size := by
  induction l with
  | nil => intro C; rfl
  | cons b t ih => intro C; unfold markC at ih ⊢; rw [List.foldl_cons, ih, Array.size_setIfInBounds]
theorem markC_snoc (C : Array Value) (l : List UInt8) (b : UInt8) (c : Int) : markC C (l ++ [b]) c = (markC C l c).setIfInBounds b.toNat (.int .u8 c) := by simp [markC, List.foldl_append]
def tab0 : Array Value := Array.replicate 256 (.int .u8 0)
def tabC : Array Value := markC (markC (markC (markC (markC (markC (markC tab0 [32, 9, 10] 1) [35] 2) [97, 98, 99, 100, 101, 102, 103, 104, 105, 106, 107, 108, 109, 110, 111, 112, 113, 114, 115, 116, 117, 118, 119, 120, 121, 122] 3) [48, 49, 50, 51, 52, 53, 54, 55, 56, 57] 4) [123, 125, 91, 93, 40, 41, 59, 44, 43, 45, 42, 47] 5) [60, 62, 61, 33] 6) [124, 38] 7
theorem tabC_eq : tabC = (Array.range 256).map fun x => Value.int .u8 ((clsN x : Nat) : Int) := by kernel_rfl
theorem tabC_size : tabC.size = 256 := by rw [tabC_eq]; simp
theorem tabC_at {x : Nat} (h : x < 256) : tabC[x]? = some (.int .u8 ((clsN x : Nat) : Int)) := by
  rw [tabC_eq, Array.getElem?_map]
  simp [h]
theorem tabC_one : tabC.all (·.oneCell') = true := by
  rw [Array.all_eq_true_iff_forall_mem]
  intro x hx
  rw [tabC_eq] at hx
  obtain ⟨y, _, rfl⟩ := Array.mem_map.1 hx
  rfl
theorem row_set {W : World} {g i : Nat} {C : Array Value} {t : TypeId} (h : W.heap[g]? = some (.cells C t (0, 0))) (v : Value) : (W.setCell ⟨g, i, none⟩ v).heap[g]? = some (.cells (C.setIfInBounds i v) t (0, 0)) := by
  simp [World.setCell, Array.getElem?_modify, h]
set_option maxRecDepth 100000 in
set_option maxHeartbeats 2000000 in
theorem mark_any (s : ByteArray) (c : Int) (hs : s.size ≤ 1000) (C : Array Value) (hC : C.size = 256) (g : Nat) (w : World) (hg : w.heap[g]? = some (.cells C 99 (0, 0))) :
    Calls Tryz.prog 94 #[.string s, .int .u8 c, .pointer (some ⟨g, 0, none⟩)] w fun e w' => (∃ v, e = .returned v) ∧ w'.heap[g]? = some (.cells (markC C s.data.toList c) 99 (0, 0)) ∧ Below g w w' ∧ w'.heap.size = w.heap.size := by
  have hgl := heap_lt hg
  have hsz : s.data.toList.length = s.size := by rw [Array.length_toList]; rfl
  have HSZ := Lib.hid hsz
  clear hsz
  go_enter Tryz.func94, Tryz.ntmps94
  go_wp2
  go_loopw [8] (fun i W => ∃ j : Nat, j ≤ s.size ∧ i = .int .i64 (j : Int) ∧ W.heap[g]? = some (.cells (markC C (s.data.toList.take j) c) 99 (0, 0)) ∧ Below g w W ∧ W.heap.size = w.heap.size) (fun i _ => s.size - (intOf i).toNat)
  case atStart => exact ⟨0, Nat.zero_le _, rfl, hg, Below.refl g w, rfl⟩
  case round =>
    obtain ⟨j, hj, rfl, hh, hB, hz⟩ := hrel
    by_cases hlt : j < s.size
    · obtain ⟨b, hb⟩ : ∃ b : UInt8, s[j]'hlt = b := ⟨_, rfl⟩
      have hb2 : s.data.toList[j]? = some b := by rw [← hb]; exact Lib.data_getElem? s j hlt
      have hb3 : (b.toNat : Int) < 256 := by have := b.toNat_lt; omega
      have HR := Lib.hid (row_set (i := b.toNat) hh (.int .u8 c))
      have HB := Lib.hid hb2
      have hcell : wr.cell? ⟨g, b.toNat, none⟩ = some ((markC C (s.data.toList.take j) c)[b.toNat]?.getD undef) := by
        have h1 : b.toNat < (markC C (s.data.toList.take j) c).size := by rw [markC_size, hC]; omega
        rw [cell_of_row wr g b.toNat _ _ (0, 0) hh, Array.getElem?_eq_getElem h1]
        rfl
      have hfz : wr.frozen? ⟨g, b.toNat, none⟩ = false := by simp [World.frozen?, hh]
      clear hb2 hh
      go_wp2
      go_roundw
      case rel => exact ⟨j + 1, by omega, by go_num, by rw [List.take_add_one, HB.out]; simp only [Option.toList]; rw [markC_snoc]; exact HR.out, hB.setCell (Nat.le_refl _) _, by simp [World.setCell]; exact hz⟩
      case measure => simp [intOf]; omega
    · obtain rfl : j = s.size := by omega
      have HH := Lib.hid (show wr.heap[g]? = some (.cells (markC C s.data.toList c) 99 (0, 0)) by rw [List.take_of_length_le (by rw [HSZ.out]; exact Nat.le_refl _)] at hh; exact hh)
      clear hh
      go_wp2
      go_end0
      exact ⟨⟨_, rfl⟩, HH.out, hB, hz⟩
end Go.Proofs.YtlfpaemfhanpiaaGreatDoor
