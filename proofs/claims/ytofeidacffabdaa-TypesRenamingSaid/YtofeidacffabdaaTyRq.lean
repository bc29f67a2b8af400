/-
  The law's renamed; Decimal of a digit. Condition: the list's strings lie in memory and are short.
-/
import Derived.Test.YtofeidacffabdaaTyRn
import Derived.Test.YtofeidacffabdaaTyDl
import Derived.Handy
namespace Go.Proofs.Ytofeidacffabdaa
open Go Go.RowKit Go.Proofs Go.Shelf
attribute [local go_sem] Oper.semAt_some

theorem map_snocB {l : List ByteArray} {j : Nat} {t : ByteArray} (f : ByteArray → ByteArray) (h : l[j]? = some t) : (l.take (j + 1)).map f = (l.take j).map f ++ [f t] := by
  rw [List.take_add_one, h, List.map_append]
  rfl
set_option maxHeartbeats 4000000 in
theorem renamedL_any (V : World) (hi : Nat) (A : Option Addr) (c m : Nat) (l : List ByteArray) (x : ByteArray) (hst : Stn hi V A c l) (hm : l.length = m) (hm2 : m ≤ 1000) (hh : hi ≤ V.heap.size) (hx : x.size ≤ 1000) (hl : ∀ s ∈ l, s.size ≤ 1000) :
    Calls Try.prog 22 #[.slice A m c, .string x] V fun e w' => ∃ A' c', e = .returned (.slice A' m c') ∧ Stn w'.heap.size w' A' c' (l.map (sfx x)) ∧ Below V.heap.size V w' := by
  have HM := Lib.hid hm
  have HST := Lib.hid hst
  have HL := Lib.hid hl
  obtain ⟨i0, hi0, hz0, hz1, hz2⟩ := info_parts info_str
  have HZ := Lib.hid (And.intro hi0 (And.intro hz0 (And.intro hz1 hz2)))
  clear hst hm hi0 hz0 hz1 hz2 hl
  go_enter Try.func22, Try.ntmps22
  go_wp2_with fail
  go_loopw [5, 6] (fun z i U => ∃ (j c' : Nat) (A' : Option Addr), j ≤ m ∧ i = .int .i64 (j : Int) ∧ z = .slice A' j c' ∧ Hid (U.ownsRow V.heap.size 9 1 (.slice A' j c') j (((l.take j).map (sfx x)).map Value.string)) ∧ Hid (Below V.heap.size V U)) (fun _ i _ => m - (intOf i).toNat)
  case atStart => exact ⟨0, 0, none, by omega, rfl, rfl, ⟨rfl, .inl ⟨rfl, rfl⟩⟩, Below.refl _ _⟩
  case round =>
    obtain ⟨j, c', A', hj, rfl, rfl, hO, hBl⟩ := hrel
    have hsz := hBl.out.size
    by_cases hjm : j < m
    · obtain ⟨y, hy⟩ : ∃ x, l[j]? = some x := ⟨l[j]'(by rw [HM.out]; exact hjm), List.getElem?_eq_getElem (by rw [HM.out]; exact hjm)⟩
      obtain ⟨h1, h2, ⟨rfl, h3⟩ | ⟨b, o, rfl, hb, hc⟩⟩ := HST.out
      · have := HM.out
        omega
      have hcs := (hBl.out.cell (p := ⟨b, o + j, none⟩) (show b < V.heap.size by omega)).trans (hc j y hy)
      have HSN := Lib.hid (map_snocB (sfx x) hy)
      have hys := HL.out y (List.mem_of_getElem? hy)
      clear hc hy
      go_wp2_with (first
        | (at_builtin; refine wpList_append_own _ rfl _ _ 32 rfl V.heap.size 9 i0 _ 1 16 Try.underlying32 HZ.out.1 HZ.out.2.1 HZ.out.2.2.1 HZ.out.2.2.2 rfl (by decide) _ _ _ rfl (row_below hO.out ((Below.refl _ _).alloc (Nat.le_refl _) _)) ⟨wr.heap.size, 0, none⟩ 1 1 [.string (y ++ x)] rfl rfl (news_alloc wr [.string (y ++ x)] _ _ rfl) (by simp [Value.oneCell']) (by simp only [maxLen]; omega) (by omega) (by rw [World.size_alloc]; omega) ?_; intro v7 w7 hown7 hgrow7 _
           obtain ⟨A7, c7, rfl, _, _⟩ := own_slice hown7
           have B7 := Lib.hid ((hBl.out.alloc hsz (.cells #[.string (y ++ x)] 9)).grown hgrow7 (by rw [World.size_alloc]; omega) (fun k e => (hO.out.lt k e).1))
           have HO7 := Lib.hid hown7
           clear hown7 hgrow7))
      go_roundw
      case rel => exact ⟨j + 1, c7, A7, by omega, by go_num, rfl, by rw [HSN.out, List.map_append]; exact HO7.out, B7.out⟩
      case measure => simp [intOf]; omega
    · obtain rfl : j = m := by omega
      have HT := Lib.hid (show l.take j = l by rw [List.take_of_length_le (by rw [HM.out]; exact Nat.le_refl _)])
      rw [HT.out] at hO
      go_wp2_with fail
      go_ret
      exact ⟨A', c', rfl, Stn.of_own (by rw [List.length_map]; exact HM.out) hO.out, hBl.out⟩
/-- A digit. -/
def dg (n : Nat) : ByteArray := ⟨#[UInt8.ofNat (48 + n)]⟩
set_option maxRecDepth 100000 in
set_option maxHeartbeats 2000000 in
theorem Decimal_dg (n : Nat) (hn : n < 10) (W : World) : Calls Try.prog 21 #[.int .i64 (n : Int)] W fun e w' => e = .returned (.string (dg n)) ∧ w' = W := by
  have hx' : n = 0 ∨ n = 1 ∨ n = 2 ∨ n = 3 ∨ n = 4 ∨ n = 5 ∨ n = 6 ∨ n = 7 ∨ n = 8 ∨ n = 9 := by omega
  clear hn
  rcases hx' with rfl | rfl | rfl | rfl | rfl | rfl | rfl | rfl | rfl | rfl
  · go_enter Try.func21, Try.ntmps21
    go_wp2
    go_ret
    exact ⟨rfl, rfl⟩
  all_goals
    go_enter Try.func21, Try.ntmps21
    go_wp2
    go_rounds 2
    all_goals go_wp2
    all_goals go_ret
    all_goals exact ⟨rfl, rfl⟩
end Go.Proofs.Ytofeidacffabdaa
