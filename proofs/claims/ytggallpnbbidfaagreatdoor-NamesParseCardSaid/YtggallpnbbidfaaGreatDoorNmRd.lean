/-
  The reference's dots of a slice of numbers of the names, its key of a message and its test of a cause.
-/
import Derived.Test.YtggallpnbbidfaaGreatDoorNmR
import Derived.Test.YtggallpnbbidfaaGreatDoorNmZ
namespace Go.Proofs.YtggallpnbbidfaaGreatDoor
open Go Go.RowKit Go.Proofs
attribute [local go_sem] Oper.semAt_some

theorem dots_take {l : List Int} {k : Nat} {x : Int} (hk : 0 < k) (hx : l[k]? = some x) : NM.dots (l.take k) ++ ([46] ++ Lib.itoa x) = NM.dots (l.take (k + 1)) := by
  have h1 : l.take k ≠ [] := by
    intro e
    have h2 := (List.getElem?_eq_some_iff.1 hx).1
    have := congrArg List.length e
    rw [List.length_take, List.length_nil] at this
    omega
  rw [List.take_add_one, hx, ← NM.dots_join _ _ h1 (by simp), Option.toList_some, NM.dots_one]
  rfl
set_option maxRecDepth 100000 in
set_option maxHeartbeats 4000000 in
theorem dotsR_any {g n : Nat} {t : TypeId} (l : List Int) (w : World) (hg : w.heap[g]? = some (.cells (l.map (Value.int .i64)).toArray t (0, 0))) (hl : l.length = n) (hn : n ≤ 100) (hall : ∀ x ∈ l, NM.Nn x) :
    Calls Tryz.prog 36 #[.slice (some ⟨g, 0, none⟩) n n] w fun e w' => e = .returned (.string (NM.bs (NM.dots l))) ∧ w' = w := by
  have HG := Lib.hid hg
  have HL := Lib.hid hl
  have HA := Lib.hid hall
  clear hg hl hall
  go_enter Tryz.func36, Tryz.ntmps36
  go_wp2_with fail
  go_loopw [3, 4] (fun s i V => ∃ (k : Nat) (b : ByteArray), k ≤ n ∧ i = .int .i64 (k : Int) ∧ s = .string b ∧ Hid (b = NM.bs (NM.dots (l.take k))) ∧ b.size ≤ 2000 ∧ V = w) (fun _ i _ => n - (intOf i).toNat)
  case atStart => exact ⟨0, ⟨#[]⟩, by omega, rfl, rfl, by show (⟨#[]⟩ : ByteArray) = NM.bs (NM.dots (l.take 0)); rfl, by decide, rfl⟩
  case round =>
    obtain ⟨k, b, hk, rfl, rfl, HB, hsz, hw⟩ := hrel
    rw [hw]
    clear hw
    by_cases hlt : k < n
    · obtain ⟨x, hx⟩ : ∃ x, l[k]? = some x := ⟨_, List.getElem?_eq_getElem (by rw [HL.out]; exact hlt)⟩
      have hxn := HA.out x (List.mem_of_getElem? hx)
      have hc0 : w.cell? ⟨g, k, none⟩ = some (.int .i64 x) := by
        have h := cell_of_row w g k _ _ (0, 0) HG.out
        rw [List.getElem?_toArray, List.getElem?_map, hx] at h
        exact h
      have HI := Lib.hid (decimal_any hxn w)
      have hd := NM.dots_len (l.take (k + 1)) (fun y hy => HA.out y (List.mem_of_mem_take hy))
      have hlen : (NM.dots (l.take (k + 1))).length ≤ 2000 := by rw [List.length_take] at hd; omega
      have HT := Lib.hid hlen
      have hz : (NM.bs (Lib.itoa x)).size ≤ 10 := by rw [bs_size]; exact NM.itoa_len hxn
      by_cases h0 : k = 0
      · subst h0
        have HE := Lib.hid (show b ++ NM.bs (Lib.itoa x) = NM.bs (NM.dots (l.take (0 + 1))) by
          rw [HB.out, bs_add, List.take_add_one, hx, Option.toList_some, List.take_zero, List.nil_append, NM.dots_one]
          rfl)
        clear hx hxn hd hlen HB
        generalize NM.bs (Lib.itoa x) = y at *
        go_wp2_with (go_at_call 35; refine HI.out.mono ?_; rintro e w1 ⟨rfl, rfl⟩)
        go_roundw
        case rel => exact ⟨0 + 1, _, by omega, by go_num, rfl, HE, by rw [HE.out, bs_size]; exact HT.out, by first | rfl | trivial⟩
        case measure => simp [intOf]; omega
      · have hk0 : decide ((k : Int) > 0) = true := decide_eq_true (by omega)
        have hk1 : 0 < k := by omega
        have HE := Lib.hid (show (b ++ ⟨#[46]⟩) ++ NM.bs (Lib.itoa x) = NM.bs (NM.dots (l.take (k + 1))) by
          rw [HB.out, show (⟨#[46]⟩ : ByteArray) = NM.bs [46] from rfl, bs_add, bs_add, List.append_assoc, dots_take (by omega) hx])
        have hz2 : (b ++ ⟨#[46]⟩ : ByteArray).size ≤ 2001 := by
          rw [ByteArray.size_append]
          show b.size + 1 ≤ 2001
          omega
        clear hx hxn hd hlen HB h0
        generalize NM.bs (Lib.itoa x) = y at *
        go_wp2_with (go_at_call 35; refine HI.out.mono ?_; rintro e w1 ⟨rfl, rfl⟩)
        go_roundw
        case rel => exact ⟨k + 1, _, by omega, by go_num, rfl, HE, by rw [HE.out, bs_size]; exact HT.out, by first | rfl | trivial⟩
        case measure => simp [intOf]; omega
    · obtain rfl : k = n := by omega
      have HE := Lib.hid (show b = NM.bs (NM.dots l) by rw [HB.out, List.take_of_length_le (by rw [HL.out]; exact Nat.le_refl _)])
      clear HB
      go_wp2_with fail
      go_ret
      exact ⟨by rw [HE.out]; rfl, rfl⟩
end Go.Proofs.YtggallpnbbidfaaGreatDoor
