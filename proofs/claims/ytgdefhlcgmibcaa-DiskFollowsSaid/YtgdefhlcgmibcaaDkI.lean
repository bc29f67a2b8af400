/-
  The reference's Same: two disks have the same cells and pending writes. No condition but the lengths.
-/
import Derived.Test.YtgdefhlcgmibcaaDkH
namespace Go.Proofs.Ytgdefhlcgmibcaa
open Go Go.RowKit Go.Proofs
attribute [local go_sem] Oper.semAt_some

set_option maxRecDepth 100000 in
theorem eq_wr (d : Nat) (x y x' y' : Int) (W : World) : (Op.equalIn (d + 2) 46 (.agg #[.int .i64 x, .int .i64 y]) (.agg #[.int .i64 x', .int .i64 y'])).run Try.prog W = .ok (x == x' && y == y') W := by
  have u3 := Try.underlying3
  have a3 := Try.isAgg3
  have z3 := Try.sizeOf3
  have ht : Try.prog.underlying 46 = some (.struct (Try.prog.fieldsOf 46)) := by kernel_rfl
  have hp : Try.prog.stoodInHeld 46 = false := by kernel_rfl
  have hf : (Try.prog.fieldsOf 46).toList = [⟨"Var", 3, 0, false, "", "", 0⟩, ⟨"Value", 3, 1, false, "", "", 8⟩] := by kernel_rfl
  rw [run_equalIn_agg _ (d + 1) _ _ _ ht hp, hf]
  clear hf ht hp
  cases e1 : x == x' <;> cases e2 : y == y' <;> simp [Op.eqFields, go_sem, u3, a3, z3, e1, e2]
theorem neW_any (a v a' v' : Int) (W : World) : (binOp .neq 46 (.agg #[.int .i64 a, .int .i64 v]) (.agg #[.int .i64 a', .int .i64 v'])).run Try.prog W = .ok (.bool (!decide ((a, v) = (a', v')))) W := by
  rw [run_neq_struct, show (10000 : Nat) = 9998 + 2 from rfl, eq_wr]
  show Result.ok (Value.bool _) W = _
  congr 3
  rw [Bool.eq_iff_iff]
  simp
theorem dk_take_differ {α : Type} {l r : List α} {k : Nat} {x y : α} (hx : l[k]? = some x) (hy : r[k]? = some y) (h : x ≠ y) : l ≠ r := fun e => by
  subst e
  rw [hx] at hy
  injection hy with hy
  exact h hy
theorem dk_take_more {α : Type} {l r : List α} {k : Nat} {x : α} (h : l.take k = r.take k) (hx : l[k]? = some x) (hy : r[k]? = some x) : l.take (k + 1) = r.take (k + 1) := by
  rw [List.take_add_one, List.take_add_one, h, hx, hy]
set_option maxHeartbeats 4000000 in
set_option maxRecDepth 100000 in
theorem refSame_any {lo lo' : Nat} {x y : Value} {d e : DK.Dk} (w : World) (hx : DkAt lo w x d) (hy : DkAt lo' w y e) (bn : d.cells.length ≤ 1000) (bm : d.pend.length ≤ 1000) :
    Calls Try.prog 17 #[x, y] w fun r w' => r = .returned (.bool (decide (d.cells = e.cells ∧ d.pend = e.pend))) ∧ Below w.heap.size w w' := by
  obtain ⟨A, n, c, P, m, q, rfl, h1, h2⟩ := hx
  obtain ⟨A', n', c', P', m', q', rfl, h1', h2'⟩ := hy
  obtain ⟨U, hU, hbu, k0, k1, hz⟩ := dk_two_boxes w (.cells #[.slice A n c, .slice P m q] 26) (.cells #[.slice A' n' c', .slice P' m' q'] 26)
  obtain ⟨a0, a1⟩ := dk_two k0
  obtain ⟨b0, b1⟩ := dk_two k1
  have HK := Lib.hid (fun (V : World) (hV : Below U.heap.size U V) => And.intro (dk_two ((hV.block _ (by omega)).trans k0)) (dk_two ((hV.block _ (by omega)).trans k1)))
  have HX := Lib.hid (fun (V : World) (hV : Below U.heap.size U V) => And.intro ((h2.keep hbu).keep hV) ((h2'.keep hbu).keep hV))
  have HC := Lib.hid (sameInts_any A A' n n' c c' d.cells e.cells U ((h1.keep hbu).ints) ((h1'.keep hbu).ints) (by rw [← h1.len]; omega))
  have HB := Lib.hid hbu
  have HN := Lib.hid (And.intro h2.len h2'.len)
  have hm3 : m ≤ 1000 := by rw [← h2.len]; exact bm
  clear k0 k1 hbu hz h1 h2 h1' h2' bn bm
  by_cases hc : d.cells = e.cells
  · have HC2 := Lib.hid (show Calls Try.prog 18 #[.slice A n c, .slice A' n' c'] U (Tells true U) by have := HC.out; rwa [decide_eq_true hc] at this)
    by_cases hl : m = m'
    · subst hl
      have hne : ((m : Int) != (m : Int)) = false := by simp
      have HD := Lib.hid hc
      clear hc HC
      go_enter Try.func17, Try.ntmps17
      go_wp2_with (go_at_call 18; refine HC2.out.mono ?_; rintro r w2 ⟨rfl, hb2⟩; obtain ⟨⟨f0, f1⟩, f2, f3⟩ := HK.out w2 hb2; have HB2 := Lib.hid hb2; clear hb2)
      clear hU a0 a1 b0 b1 f0 f1 f2 f3
      go_loopw [5] (fun i V => ∃ k : Nat, k ≤ m ∧ i = .int .i64 (k : Int) ∧ Hid (d.pend.take k = e.pend.take k) ∧ Hid (Below U.heap.size U V)) (fun i _ => m - (intOf i).toNat)
      case atStart => exact ⟨0, by omega, rfl, rfl, HB2.out⟩
      case round =>
        obtain ⟨k, hk, rfl, HQ, HV⟩ := hrel
        obtain ⟨⟨a0, a1⟩, b0, b1⟩ := HK.out wr HV.out
        by_cases hin : k < m
        · have dk : decide (k < m) = true := decide_eq_true hin
          obtain ⟨g, off, a, v, rfl, _, _, hxk, p0, p1⟩ := ((HX.out wr HV.out).1).at_ hin
          obtain ⟨g', off', a', v', rfl, _, _, hyk, q0, q1⟩ := ((HX.out wr HV.out).2).at_ hin
          have hne : ∀ V, (binOp .neq 46 (.agg #[.int .i64 a, .int .i64 v]) (.agg #[.int .i64 a', .int .i64 v'])).run Try.prog V = .ok (.bool (!decide ((a, v) = (a', v')))) V := fun V => neW_any a v a' v' V
          have HXY := Lib.hid (And.intro hxk hyk)
          clear hxk hyk
          by_cases hxy : (a, v) = (a', v')
          · have dq : decide ((a, v) = (a', v')) = true := decide_eq_true hxy
            simp only [dq, Bool.not_true] at hne
            have HT := Lib.hid (dk_take_more HQ.out HXY.out.1 (hxy ▸ HXY.out.2))
            clear HXY hxy dq
            go_wp2_with (go_quiet (fail))
            go_roundw
            case rel => exact ⟨k + 1, by omega, by go_num, HT, HV.out.trans ((dk_drewN wr _).mono HV.out.size)⟩
            case measure => simp [intOf]; omega
          · have dq : decide ((a, v) = (a', v')) = false := decide_eq_false hxy
            simp only [dq, Bool.not_false] at hne
            have HT := Lib.hid (decide_eq_false (p := d.cells = e.cells ∧ d.pend = e.pend) fun h => dk_take_differ HXY.out.1 HXY.out.2 hxy h.2)
            clear HXY hxy dq
            go_wp2_with (go_quiet (fail))
            go_ret
            exact ⟨by rw [HT.out]; rfl, HB.out.trans ((HV.out.trans ((dk_drewN wr _).mono HV.out.size)).mono HB.out.size)⟩
        · have dk : decide (k < m) = false := decide_eq_false hin
          have HT := Lib.hid (decide_eq_true (p := d.cells = e.cells ∧ d.pend = e.pend) ⟨HD.out, by
            have h := HQ.out
            rwa [List.take_of_length_le (by rw [HN.out.1]; omega), List.take_of_length_le (by rw [HN.out.2]; omega)] at h⟩)
          clear HQ
          go_wp2_with fail
          go_ret
          exact ⟨by rw [HT.out]; rfl, HB.out.trans (HV.out.mono HB.out.size)⟩
    · have hne : ((m : Int) != (m' : Int)) = true := by rw [bne_iff_ne]; omega
      have HT := Lib.hid (decide_eq_false (p := d.cells = e.cells ∧ d.pend = e.pend) fun h => hl (by rw [← HN.out.1, ← HN.out.2, h.2]))
      clear hc HC hl
      go_enter Try.func17, Try.ntmps17
      go_wp2_with (go_at_call 18; refine HC2.out.mono ?_; rintro r w2 ⟨rfl, hb2⟩; obtain ⟨⟨f0, f1⟩, f2, f3⟩ := HK.out w2 hb2; have HB2 := Lib.hid hb2; clear hb2)
      go_ret
      exact ⟨by rw [HT.out]; rfl, HB.out.trans (HB2.out.mono HB.out.size)⟩
  · have HC2 := Lib.hid (show Calls Try.prog 18 #[.slice A n c, .slice A' n' c'] U (Tells false U) by have := HC.out; rwa [decide_eq_false hc] at this)
    have HT := Lib.hid (decide_eq_false (p := d.cells = e.cells ∧ d.pend = e.pend) fun h => hc h.1)
    clear hc HC
    go_enter Try.func17, Try.ntmps17
    go_wp2_with (go_at_call 18; refine HC2.out.mono ?_; rintro r w2 ⟨rfl, hb2⟩; have HB2 := Lib.hid hb2; clear hb2)
    go_ret
    exact ⟨by rw [HT.out]; rfl, HB.out.trans (HB2.out.mono HB.out.size)⟩
end Go.Proofs.Ytgdefhlcgmibcaa
