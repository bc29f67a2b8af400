/-
  The reference's Same and SameMsgs: two lists are equal. No condition but the lengths.
-/
import Derived.Test.YtepbppckhfiplaaNwQ
import Derived.Test.YtepbppckhfiplaaLst
import Derived.BigQuiet
namespace Go.Proofs.Ytepbppckhfiplaa
open Go Go.RowKit Go.Proofs
attribute [local go_sem] Oper.semAt_some

set_option maxHeartbeats 4000000 in
set_option maxRecDepth 100000 in
theorem sameEn_any {A1 A2 : Option Addr} {n1 c1 n2 c2 : Nat} {l1 l2 : List NW.En} (w : World) (h1 : Ens w A1 n1 c1 l1) (h2 : Ens w A2 n2 c2 l2) (bn : n1 ≤ 1000000) :
    Calls Try.prog 15 #[.slice A1 n1 c1, .slice A2 n2 c2] w fun e w' => e = .returned (.bool (decide (l1 = l2))) ∧ Below w.heap.size w w' := by
  have HE1 := Lib.hid h1
  have HE2 := Lib.hid h2
  have HN := Lib.hid (And.intro h1.len h2.len)
  clear h1 h2
  go_enter Try.func15, Try.ntmps15
  by_cases hn : n1 = n2
  · subst hn
    go_wp2_with fail
    go_loopw [5] (fun i V => ∃ k : Nat, k ≤ n1 ∧ i = .int .i64 (k : Int) ∧ Hid (l1.take k = l2.take k) ∧ Hid (Below w.heap.size w V)) (fun i _ => n1 - (intOf i).toNat)
    case atStart => exact ⟨0, by omega, rfl, rfl, Below.refl _ _⟩
    case round =>
      obtain ⟨k, hk, rfl, HQ, HV⟩ := hrel
      by_cases hin : k < n1
      · have dk : decide (k < n1) = true := decide_eq_true hin
        obtain ⟨x, hx⟩ : ∃ x, l1[k]? = some x := ⟨_, List.getElem?_eq_getElem (by rw [HN.out.1]; exact hin)⟩
        obtain ⟨y, hy⟩ : ∃ y, l2[k]? = some y := ⟨_, List.getElem?_eq_getElem (by rw [HN.out.2]; exact hin)⟩
        obtain ⟨g, hg, hgl, p0, p1, p2, p3, p4, p5, p6, p7, p8⟩ := en_at (HE1.out.keep HV.out) hx
        obtain ⟨g', hg', hgl', q0, q1, q2, q3, q4, q5, q6, q7, q8⟩ := en_at (HE2.out.keep HV.out) hy
        subst hg
        subst hg'
        have hne : ∀ V, (binOp .neq 28 (enV x) (enV y)).run Try.prog V = .ok (.bool (!decide (x = y))) V := fun V => neEn_any x y V
        have HX := Lib.hid (And.intro hx hy)
        clear hx hy
        by_cases hxy : x = y
        · have dq : decide (x = y) = true := decide_eq_true hxy
          simp only [dq, Bool.not_true] at hne
          have HT := Lib.hid (LS.more HQ.out HX.out.1 (hxy ▸ HX.out.2))
          clear HX hxy dq
          go_wp2_with (go_quiet (fail))
          go_roundw
          case rel => exact ⟨k + 1, by omega, by go_num, HT, HV.out.trans ((drewN_below wr _).mono HV.out.size)⟩
          case measure => simp [intOf]; omega
        · have dq : decide (x = y) = false := decide_eq_false hxy
          simp only [dq, Bool.not_false] at hne
          have HT := Lib.hid (LS.dec_f (p := l1 = l2) fun h => LS.differ HX.out.1 HX.out.2 hxy h)
          clear HX hxy dq
          go_wp2_with (go_quiet (fail))
          go_ret
          exact ⟨by rw [HT.out]; rfl, HV.out.trans ((drewN_below wr _).mono HV.out.size)⟩
      · have dk : decide (k < n1) = false := decide_eq_false hin
        have HT := Lib.hid (show decide (l1 = l2) = true from decide_eq_true (LS.both HQ.out (by have := HN.out.1; omega) (by have := HN.out.2; omega)))
        clear HQ
        go_wp2_with fail
        go_ret
        exact ⟨by rw [HT.out]; rfl, HV.out⟩
  · have dn : decide ((n1 : Int) = (n2 : Int)) = false := decide_eq_false (by omega)
    have dn2 : ((n1 : Int) != (n2 : Int)) = true := by simp; omega
    have HT := Lib.hid (LS.dec_f (p := l1 = l2) fun h => hn (by have := HN.out; rw [← this.1, ← this.2, h]))
    go_wp2_with fail
    go_ret
    exact ⟨by rw [HT.out]; rfl, Below.refl _ _⟩
set_option maxHeartbeats 4000000 in
set_option maxRecDepth 100000 in
theorem sameMs_any {A1 A2 : Option Addr} {n1 c1 n2 c2 : Nat} {l1 l2 : List NM.Ms} (w : World) (h1 : Mss w A1 n1 c1 l1) (h2 : Mss w A2 n2 c2 l2) (bn : n1 ≤ 1000000) :
    Calls Try.prog 21 #[.slice A1 n1 c1, .slice A2 n2 c2] w fun e w' => e = .returned (.bool (decide (l1 = l2))) ∧ Below w.heap.size w w' := by
  have HE1 := Lib.hid h1
  have HE2 := Lib.hid h2
  have HN := Lib.hid (And.intro h1.len h2.len)
  clear h1 h2
  go_enter Try.func21, Try.ntmps21
  by_cases hn : n1 = n2
  · subst hn
    go_wp2_with fail
    go_loopw [5] (fun i V => ∃ k : Nat, k ≤ n1 ∧ i = .int .i64 (k : Int) ∧ Hid (l1.take k = l2.take k) ∧ Hid (Below w.heap.size w V)) (fun i _ => n1 - (intOf i).toNat)
    case atStart => exact ⟨0, by omega, rfl, rfl, Below.refl _ _⟩
    case round =>
      obtain ⟨k, hk, rfl, HQ, HV⟩ := hrel
      by_cases hin : k < n1
      · have dk : decide (k < n1) = true := decide_eq_true hin
        obtain ⟨x, hx⟩ : ∃ x, l1[k]? = some x := ⟨_, List.getElem?_eq_getElem (by rw [HN.out.1]; exact hin)⟩
        obtain ⟨y, hy⟩ : ∃ y, l2[k]? = some y := ⟨_, List.getElem?_eq_getElem (by rw [HN.out.2]; exact hin)⟩
        obtain ⟨g, hg, hgl, p0, p1, p2, p3, p4⟩ := ms_at (HE1.out.keep HV.out) hx
        obtain ⟨g', hg', hgl', q0, q1, q2, q3, q4⟩ := ms_at (HE2.out.keep HV.out) hy
        subst hg
        subst hg'
        have hne : ∀ V, (binOp .neq 26 (msV x) (msV y)).run Try.prog V = .ok (.bool (!decide (x = y))) V := fun V => neM_any x y V
        have HX := Lib.hid (And.intro hx hy)
        clear hx hy
        by_cases hxy : x = y
        · have dq : decide (x = y) = true := decide_eq_true hxy
          simp only [dq, Bool.not_true] at hne
          have HT := Lib.hid (LS.more HQ.out HX.out.1 (hxy ▸ HX.out.2))
          clear HX hxy dq
          go_wp2_with (go_quiet (fail))
          go_roundw
          case rel => exact ⟨k + 1, by omega, by go_num, HT, HV.out.trans ((drewN_below wr _).mono HV.out.size)⟩
          case measure => simp [intOf]; omega
        · have dq : decide (x = y) = false := decide_eq_false hxy
          simp only [dq, Bool.not_false] at hne
          have HT := Lib.hid (LS.dec_f (p := l1 = l2) fun h => LS.differ HX.out.1 HX.out.2 hxy h)
          clear HX hxy dq
          go_wp2_with (go_quiet (fail))
          go_ret
          exact ⟨by rw [HT.out]; rfl, HV.out.trans ((drewN_below wr _).mono HV.out.size)⟩
      · have dk : decide (k < n1) = false := decide_eq_false hin
        have HT := Lib.hid (show decide (l1 = l2) = true from decide_eq_true (LS.both HQ.out (by have := HN.out.1; omega) (by have := HN.out.2; omega)))
        clear HQ
        go_wp2_with fail
        go_ret
        exact ⟨by rw [HT.out]; rfl, HV.out⟩
  · have dn : decide ((n1 : Int) = (n2 : Int)) = false := decide_eq_false (by omega)
    have dn2 : ((n1 : Int) != (n2 : Int)) = true := by simp; omega
    have HT := Lib.hid (LS.dec_f (p := l1 = l2) fun h => hn (by have := HN.out; rw [← this.1, ← this.2, h]))
    go_wp2_with fail
    go_ret
    exact ⟨by rw [HT.out]; rfl, Below.refl _ _⟩
end Go.Proofs.Ytepbppckhfiplaa
