/-
  The law's without, renamed. Condition: the list's strings lie in memory.
-/
import Derived.Test.YtofeidacffabdaaTyNm
namespace Go.Proofs.Ytofeidacffabdaa
open Go Go.RowKit Go.Proofs Go.Shelf
attribute [local go_sem] Oper.semAt_some

theorem less_snoc {l : List ByteArray} {j : Nat} {x s : ByteArray} (h : l[j]? = some x) : TY.less (l.take (j + 1)) s = if x = s then TY.less (l.take j) s else TY.less (l.take j) s ++ [x] := by
  unfold TY.less
  rw [List.take_add_one, h, List.filter_append]
  by_cases e : x = s
  · rw [if_pos e]; simp [e]
  · rw [if_neg e]; simp [e]
theorem less_len (l : List ByteArray) (s : ByteArray) (j : Nat) : (TY.less (l.take j) s).length ≤ l.length := by
  unfold TY.less
  exact Nat.le_trans (List.length_filter_le _ _) (by rw [List.length_take]; omega)
set_option maxHeartbeats 4000000 in
theorem without_any (V : World) (hi : Nat) (A : Option Addr) (c m : Nat) (l : List ByteArray) (s : ByteArray) (hst : Stn hi V A c l) (hm : l.length = m) (hm2 : m ≤ 1000) (hh : hi ≤ V.heap.size) :
    Calls Try.prog 27 #[.slice A m c, .string s] V fun e w' => ∃ A' c' n', e = .returned (.slice A' n' c') ∧ (TY.less l s).length = n' ∧ Stn w'.heap.size w' A' c' (TY.less l s) ∧ Below V.heap.size V w' := by
  have HM := Lib.hid hm
  have HST := Lib.hid hst
  have HLL := Lib.hid (fun j => less_len l s j)
  obtain ⟨i0, hi0, hz0, hz1, hz2⟩ := info_parts info_str
  have HZ := Lib.hid (And.intro hi0 (And.intro hz0 (And.intro hz1 hz2)))
  clear hst hm hi0 hz0 hz1 hz2
  go_enter Try.func27, Try.ntmps27
  go_wp2_with fail
  go_loopw [5, 6] (fun z i U => ∃ (j q c' : Nat) (A' : Option Addr), j ≤ m ∧ i = .int .i64 (j : Int) ∧ z = .slice A' q c' ∧ Hid ((TY.less (l.take j) s).length = q) ∧ Hid (U.ownsRow V.heap.size 9 1 (.slice A' q c') q ((TY.less (l.take j) s).map Value.string)) ∧ Hid (Below V.heap.size V U)) (fun _ i _ => m - (intOf i).toNat)
  case atStart => exact ⟨0, 0, 0, none, by omega, rfl, rfl, rfl, ⟨rfl, .inl ⟨rfl, rfl⟩⟩, Below.refl _ _⟩
  case round =>
    obtain ⟨j, q, c', A', hj, rfl, rfl, hq, hO, hBl⟩ := hrel
    have hsz := hBl.out.size
    have hq2 : q ≤ 1000 := by have h1 := HLL.out j; have h2 := hq.out; have h3 := HM.out; omega
    by_cases hjm : j < m
    · obtain ⟨x, hx⟩ : ∃ x, l[j]? = some x := ⟨l[j]'(by rw [HM.out]; exact hjm), List.getElem?_eq_getElem (by rw [HM.out]; exact hjm)⟩
      obtain ⟨h1, h2, ⟨rfl, h3⟩ | ⟨b, o, rfl, hb, hc⟩⟩ := HST.out
      · have := HM.out
        omega
      have hcs := (hBl.out.cell (p := ⟨b, o + j, none⟩) (show b < V.heap.size by omega)).trans (hc j x hx)
      have hsn := less_snoc (s := s) hx
      by_cases hxs : x = s
      · subst hxs
        rw [if_pos rfl] at hsn
        have HSN := Lib.hid hsn
        clear hsn hc hx
        go_wp2_with fail
        go_roundw
        case rel => exact ⟨j + 1, q, c', A', by omega, by go_num, rfl, by rw [HSN.out]; exact hq.out, by rw [HSN.out]; exact hO.out, hBl.out⟩
        case measure => simp [intOf]; omega
      · rw [if_neg hxs] at hsn
        have HSN := Lib.hid hsn
        have e1 : (x.toList == s.toList) = false := by rw [str_eq, decide_eq_false hxs]
        clear hsn hc hx
        go_wp2_with (first
          | (at_builtin; refine wpList_append_own _ rfl _ _ 32 rfl V.heap.size 9 i0 _ 1 16 Try.underlying32 HZ.out.1 HZ.out.2.1 HZ.out.2.2.1 HZ.out.2.2.2 rfl (by decide) _ _ _ rfl (row_below hO.out ((Below.refl _ _).alloc (Nat.le_refl _) _)) ⟨wr.heap.size, 0, none⟩ 1 1 [.string x] rfl rfl (news_alloc wr [.string x] _ _ rfl) (by simp [Value.oneCell']) (by simp only [maxLen]; omega) (by omega) (by rw [World.size_alloc]; omega) ?_; intro v7 w7 hown7 hgrow7 _
             obtain ⟨A7, c7, rfl, _, _⟩ := own_slice hown7
             have B7 := Lib.hid ((hBl.out.alloc hsz (.cells #[.string x] 9)).grown hgrow7 (by rw [World.size_alloc]; omega) (fun k e => (hO.out.lt k e).1))
             have HO7 := Lib.hid hown7
             clear hown7 hgrow7))
        go_roundw
        case rel => exact ⟨j + 1, q + 1, c7, A7, by omega, by go_num, rfl, by rw [HSN.out]; show _ = _; rw [List.length_append, hq.out]; rfl, by rw [HSN.out, List.map_append]; exact HO7.out, B7.out⟩
        case measure => simp [intOf]; omega
    · obtain rfl : j = m := by omega
      have HT := Lib.hid (show l.take j = l by rw [List.take_of_length_le (by rw [HM.out]; exact Nat.le_refl _)])
      rw [HT.out] at hq hO
      go_wp2_with fail
      go_ret
      exact ⟨A', c', q, rfl, hq.out, Stn.of_own hq.out hO.out, hBl.out⟩
end Go.Proofs.Ytofeidacffabdaa
