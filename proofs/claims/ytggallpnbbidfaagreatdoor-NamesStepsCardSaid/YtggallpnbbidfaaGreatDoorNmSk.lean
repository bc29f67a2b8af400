/-
  The reference's order of two lists, whatever their lengths; its key of a step. No condition.
-/
import Derived.Test.YtggallpnbbidfaaGreatDoorNmEk
import Derived.Test.YtggallpnbbidfaaGreatDoorNmSo
import Derived.Test.YtggallpnbbidfaaGreatDoorRgO
namespace Go.Proofs.YtggallpnbbidfaaGreatDoor
open Go Go.RowKit Go.Proofs
attribute [local go_sem] Oper.semAt_some

namespace RgX
/-- An own row of these integers, made since block lo. -/
def Sp.own (t : TypeId) (lo : Nat) (l : List Int) : Sp := ⟨fun w x => ∃ g m, x = .slice (some ⟨g, 0, none⟩) l.length m ∧ w.ownsRow lo t 1 (.slice (some ⟨g, 0, none⟩) l.length m) l.length (l.map (Value.int .i64)), fun ⟨g, m, e, h⟩ hb => ⟨g, m, e, own_below h hb⟩⟩
/-- A row in another block than h. -/
def Sp.rown (h : Option Nat) (C : Array Value) (t : TypeId) (n : Nat) : Sp := ⟨fun w x => ∃ g, x = .slice (some ⟨g, 0, none⟩) n n ∧ w.heap[g]? = some (.cells C t (0, 0)) ∧ some g ≠ h, fun ⟨g, e, h1, h2⟩ hb => ⟨g, e, (hb.block g (Array.getElem?_eq_some_iff.1 h1).1).trans h1, h2⟩⟩
theorem own_new (w : World) (l : List Int) (t : TypeId) (lo : Nat) (z : Array Value) (cap : Nat) {n : Nat} (hn : l.length = n) {L : List Value} (hL : L = l.map (Value.int .i64)) (hz : z.size = 1) (hlo : lo ≤ w.heap.size) (hge : n ≤ cap) (hcm : cap ≤ maxLen) :
    (Sp.own t lo l).p (w.drew.alloc (.cells (L.toArray ++ Builtin.zeroCells z (cap - n)) t)) (.slice (some ⟨w.heap.size, 0, none⟩) n cap) := by
  subst hn
  subst hL
  refine ⟨w.heap.size, cap, rfl, by simp, .inr ⟨w.heap.size, cap, _, rfl, hlo, heap_alloc_new w.drew _, hge, hcm, ?_, ?_⟩⟩
  · simp only [Array.size_append, List.size_toArray, size_zeroCells, hz, List.length_map]
    omega
  · simp only [Array.toList_append]
    rw [show l.length * 1 = (l.map (Value.int .i64)).length by simp]
    exact List.take_left
theorem rown_grown {w w' : World} {g m base : Nat} {v v' : Value} {C : Array Value} {t e : TypeId} {ys : List Value} (h : w.heap[g]? = some (.cells C t (0, 0))) (hne : some g ≠ v.ownBlock) (hgr : w.grownBy w' v.ownBlock) (ho : w'.ownsRow base e 1 v' m ys) (hm : C.size < m) : w'.heap[g]? = some (.cells C t (0, 0)) ∧ some g ≠ v'.ownBlock := by
  have h1 : w'.heap[g]? = some (.cells C t (0, 0)) := (hgr.block g (Array.getElem?_eq_some_iff.1 h).1 hne).trans h
  refine ⟨h1, fun e2 => ?_⟩
  rcases ho.2 with ⟨rfl, _⟩ | ⟨g2, cap, cur, rfl, _, hg, hmc, _, hs, _⟩
  · cases e2
  · injection e2 with e2
    have e3 : g = g2 := e2
    subst e3
    rw [h1] at hg
    injection hg with hg
    injection hg with hg
    subst hg
    omega
end RgX
set_option maxRecDepth 100000 in
set_option maxHeartbeats 4000000 in
theorem lists_two {g1 g2 n1 n2 m1 m2 : Nat} (l r : List Int) (w : World) (hl : g1 < w.heap.size ∧ ∀ j x, l[j]? = some x → w.cell? ⟨g1, j, none⟩ = some (.int .i64 x)) (hr : g2 < w.heap.size ∧ ∀ j x, r[j]? = some x → w.cell? ⟨g2, j, none⟩ = some (.int .i64 x)) (nl : l.length = n1) (nr : r.length = n2) (b1 : n1 ≤ 100) (b2 : n2 ≤ 100) :
    Calls Tryz.prog 25 #[.slice (some ⟨g1, 0, none⟩) n1 m1, .slice (some ⟨g2, 0, none⟩) n2 m2] w fun e w' => e = .returned (.int .i64 (NM.lexL l r)) ∧ Below w.heap.size w w' := by
  have H1 := Lib.hid hl
  have H2 := Lib.hid hr
  have N1 := Lib.hid nl
  have N2 := Lib.hid nr
  clear hl hr nl nr
  go_enter Tryz.func25, Tryz.ntmps25
  go_wp2_with fail
  go_loopw [5] (fun i V => ∃ k : Nat, k ≤ n1 ∧ k ≤ n2 ∧ i = .int .i64 (k : Int) ∧ Hid (NM.lexL l r = NM.lexL (l.drop k) (r.drop k)) ∧ Below w.heap.size w V) (fun i _ => n1 - (intOf i).toNat)
  case atStart => exact ⟨0, by omega, by omega, rfl, by show NM.lexL l r = NM.lexL (l.drop 0) (r.drop 0); rfl, Below.refl _ _⟩
  case round =>
    obtain ⟨k, hk, hk2, rfl, HE, hB⟩ := hrel
    have HB := Lib.hid hB
    clear hB
    by_cases hlt : k < n1
    · have q1 : decide (k < n1) = true := decide_eq_true hlt
      by_cases hlt2 : k < n2
      · have q2 : decide (k < n2) = true := decide_eq_true hlt2
        obtain ⟨x, hx⟩ : ∃ x, l[k]? = some x := ⟨_, List.getElem?_eq_getElem (by rw [N1.out]; exact hlt)⟩
        obtain ⟨y, hy⟩ : ∃ y, r[k]? = some y := ⟨_, List.getElem?_eq_getElem (by rw [N2.out]; exact hlt2)⟩
        have c1 : wr.cell? ⟨g1, k, none⟩ = some (.int .i64 x) := (HB.out.cell (p := ⟨g1, k, none⟩) H1.out.1).trans (H1.out.2 k x hx)
        have c2 : wr.cell? ⟨g2, k, none⟩ = some (.int .i64 y) := (HB.out.cell (p := ⟨g2, k, none⟩) H2.out.1).trans (H2.out.2 k y hy)
        have HD := Lib.hid (HE.out.trans (lexL_drop hx hy))
        clear hx hy HE
        by_cases hxy : x < y
        · have HR := Lib.hid (show NM.lexL l r = -1 by rw [HD.out]; unfold NM.cmpI NM.orI; rw [if_pos hxy, if_neg (by decide)])
          have d1 : decide (x < y) = true := decide_eq_true hxy
          clear HD
          go_wp2_with (go_quiet (fail))
          go_ret
          exact ⟨by rw [HR.out]; rfl, HB.out.trans ((drewN_below wr _).mono HB.out.size)⟩
        · have d1 : decide (x < y) = false := decide_eq_false hxy
          by_cases hyx : y < x
          · have HR := Lib.hid (show NM.lexL l r = 1 by rw [HD.out]; unfold NM.cmpI NM.orI; rw [if_neg hxy, if_pos hyx, if_neg (by decide)])
            have d2 : decide (x > y) = true := decide_eq_true hyx
            clear HD
            go_wp2_with (go_quiet (fail))
            go_ret
            exact ⟨by rw [HR.out]; rfl, HB.out.trans ((drewN_below wr _).mono HB.out.size)⟩
          · have HR := Lib.hid (show NM.lexL l r = NM.lexL (l.drop (k + 1)) (r.drop (k + 1)) by rw [HD.out]; unfold NM.cmpI NM.orI; rw [if_neg hxy, if_neg hyx, if_pos rfl])
            have d2 : decide (x > y) = false := decide_eq_false hyx
            clear HD
            go_wp2_with (go_quiet (fail))
            go_roundw
            case rel => exact ⟨k + 1, by omega, by omega, by go_num, HR, HB.out.trans ((drewN_below wr _).mono HB.out.size)⟩
            case measure => simp [intOf]; omega
      · have q2 : decide (k < n2) = false := decide_eq_false hlt2
        have q3 : decide (n1 < n2) = false := decide_eq_false (by omega)
        have q4 : decide (n2 < n1) = true := decide_eq_true (by omega)
        have HR := Lib.hid (show NM.lexL l r = 1 by
          rw [HE.out, show r.drop k = [] from List.drop_eq_nil_of_le (by have := N2.out; omega), show l.drop k = l[k]'(by have := N1.out; omega) :: l.drop (k + 1) from List.drop_eq_getElem_cons (by have := N1.out; omega)]
          rfl)
        clear HE
        go_wp2_with fail
        go_ret
        exact ⟨by rw [HR.out]; rfl, HB.out⟩
    · have q1 : decide (k < n1) = false := decide_eq_false hlt
      by_cases hlt2 : k < n2
      · have q3 : decide (n1 < n2) = true := decide_eq_true (by omega)
        have HR := Lib.hid (show NM.lexL l r = -1 by
          rw [HE.out, show l.drop k = [] from List.drop_eq_nil_of_le (by have := N1.out; omega), show r.drop k = r[k]'(by have := N2.out; omega) :: r.drop (k + 1) from List.drop_eq_getElem_cons (by have := N2.out; omega)]
          rfl)
        clear HE
        go_wp2_with fail
        go_ret
        exact ⟨by rw [HR.out]; rfl, HB.out⟩
      · have q3 : decide (n1 < n2) = false := decide_eq_false (by omega)
        have q4 : decide (n2 < n1) = false := decide_eq_false (by omega)
        have HR := Lib.hid (show NM.lexL l r = 0 by
          rw [HE.out, show l.drop k = [] from List.drop_eq_nil_of_le (by have := N1.out; omega), show r.drop k = [] from List.drop_eq_nil_of_le (by have := N2.out; omega)]
          rfl)
        clear HE
        go_wp2_with fail
        go_ret
        exact ⟨by rw [HR.out]; rfl, HB.out⟩
theorem queKey_new (c h t k i : Int) (w : World) : Calls Tryz.prog 52 #[.agg #[.int .i64 c, .int .i64 h, .int .i64 t, .int .i64 k, .int .i64 i]] w fun e w' => (∃ g, e = .returned (.slice (some ⟨g, 0, none⟩) 5 5) ∧ w'.heap[g]? = some (.cells #[.int .i64 c, .int .i64 h, .int .i64 t, .int .i64 k, .int .i64 i] 3 (0, 0)) ∧ w.heap.size ≤ g) ∧ Below w.heap.size w w' := by
  obtain ⟨U, hU⟩ : ∃ U, w.alloc (.cells #[.int .i64 c, .int .i64 h, .int .i64 t, .int .i64 k, .int .i64 i] 36) = U := ⟨_, rfl⟩
  have hb : Below w.heap.size w U := hU ▸ one_box w _
  have k1 : U.heap[w.heap.size]? = some (.cells #[.int .i64 c, .int .i64 h, .int .i64 t, .int .i64 k, .int .i64 i] 36 (0, 0)) := by rw [← hU]; exact new_at rfl
  obtain ⟨a0, a1, a2, a3, a4⟩ := row5 k1
  have HB := Lib.hid hb
  clear k1 hb
  go_enter Tryz.func52, Tryz.ntmps52
  go_wp2_with fail
  go_ret
  exact ⟨⟨U.heap.size, rfl, new_at rfl, HB.out.size⟩, HB.out.trans ((one_box U _).mono HB.out.size)⟩
set_option maxHeartbeats 4000000 in
set_option maxRecDepth 100000 in
theorem eventKey_own (k n a c h t i p : Int) (w : World) : Calls Tryz.prog 51 #[.agg #[.int .i64 k, .int .i64 n, .int .i64 a, .int .i64 c, .int .i64 h, .int .i64 t, .int .i64 i, .int .i64 p]] w fun e w' => (∃ v, e = .returned v ∧ (RgX.Sp.own 3 w.heap.size [k, n, a, c, h, t, i, p]).p w' v) ∧ Below w.heap.size w w' := by
  obtain ⟨U, hU⟩ : ∃ U, w.alloc (.cells #[.int .i64 k, .int .i64 n, .int .i64 a, .int .i64 c, .int .i64 h, .int .i64 t, .int .i64 i, .int .i64 p] 28) = U := ⟨_, rfl⟩
  have hb : Below w.heap.size w U := hU ▸ one_box w _
  have hlt : w.heap.size < U.heap.size := by rw [← hU]; simp
  have k1 : U.heap[w.heap.size]? = some (.cells #[.int .i64 k, .int .i64 n, .int .i64 a, .int .i64 c, .int .i64 h, .int .i64 t, .int .i64 i, .int .i64 p] 28 (0, 0)) := by rw [← hU]; exact new_at rfl
  have HK := Lib.hid (fun (V : World) (hV : Below U.heap.size U V) => row8 ((hV.block _ hlt).trans k1))
  have HB := Lib.hid hb
  clear k1 hb
  go_enter Tryz.func51, Tryz.ntmps51
  go_wp2_with fail
  clear hU
  refine RgX.region 12 (fun i => (if i = 11 then 2 else 3 + i)) (fun ix_ => match ix_ with | 0 => .v (.pointer (some ⟨w.heap.size, 0, none⟩)) | 1 => .v (.int .i64 k) | 2 => .v (.pointer (some ⟨w.heap.size, 1, none⟩)) | 3 => .v (.int .i64 n) | 4 => .v (.pointer (some ⟨w.heap.size, 2, none⟩)) | 5 => .v (.int .i64 a) | 6 => .row #[.int .i64 k, .int .i64 n, .int .i64 a] 3 3 | 7 => .v (.pointer (some ⟨w.heap.size, 3, none⟩)) | 8 => .v (.agg #[.int .i64 c, .int .i64 h, .int .i64 t, .int .i64 i, .int .i64 p]) | 9 => .row #[.int .i64 c, .int .i64 h, .int .i64 t, .int .i64 i, .int .i64 p] 3 5 | 10 => RgX.Sp.own 3 w.heap.size [k, n, a, c, h, t, i, p] | 11 => RgX.Sp.own 3 w.heap.size [k, n, a, c, h, t, i, p] | _ => .any) (by kernel_rfl) rfl (by kernel_rfl)  (fun i hi => by show (if i = 11 then 2 else 3 + i) < 14; (repeat' split) <;> omega) (fun i j hi hj => by show (if i = 11 then 2 else 3 + i) = (if j = 11 then 2 else 3 + j) → i = j; (repeat' split) <;> omega) ?step ?fin
  case step =>
    intro L_ A_ w3 ix op_ hI ho hdep
    have hi : ix < 12 := (Array.getElem?_eq_some_iff.1 ho).1
    have hcase : ix = 0 ∨ ix = 1 ∨ ix = 2 ∨ ix = 3 ∨ ix = 4 ∨ ix = 5 ∨ ix = 6 ∨ ix = 7 ∨ ix = 8 ∨ ix = 9 ∨ ix = 10 ∨ ix = 11 := by omega
    have hh := hI.held
    clear hi
    rcases hcase with rfl | rfl | rfl | rfl | rfl | rfl | rfl | rfl | rfl | rfl | rfl | rfl
    · simp only [List.getElem?_toArray, List.getElem?_cons_zero, Option.some.injEq] at ho
      subst ho
      refine ⟨rfl, ?_⟩
      have e1 : A_.tmps[1]?.getD undef = .pointer (some ⟨w.heap.size, 0, none⟩) := by rw [hI.low 1 (by decide)]; rfl
      clear hI hdep
      exact .run rfl (.pointer (some ⟨w.heap.size, 0, none⟩)) w3 (by simp [execOp, go_sem, Act.eval, e1]) (Below.refl _ _) rfl
    · simp only [List.getElem?_toArray, List.getElem?_cons_succ, List.getElem?_cons_zero, Option.some.injEq] at ho
      subst ho
      refine ⟨rfl, ?_⟩
      have e3 : A_.tmps[3]?.getD undef = .pointer (some ⟨w.heap.size, 0, none⟩) := getD_of (hI.val_ (i := 0) rfl rfl (by decide) (hdep ⟨0, .data⟩ (by simp) rfl))
      clear hI hdep
      obtain ⟨d0, d1, d2, d3, d4, d5, d6, d7⟩ := HK.out w3 hh
      exact .run rfl (.int .i64 k) w3 (by simp [execOp, go_sem, Act.eval, *]) (Below.refl _ _) rfl
    · simp only [List.getElem?_toArray, List.getElem?_cons_succ, List.getElem?_cons_zero, Option.some.injEq] at ho
      subst ho
      refine ⟨rfl, ?_⟩
      have e1 : A_.tmps[1]?.getD undef = .pointer (some ⟨w.heap.size, 0, none⟩) := by rw [hI.low 1 (by decide)]; rfl
      clear hI hdep
      exact .run rfl (.pointer (some ⟨w.heap.size, 1, none⟩)) w3 (by simp [execOp, go_sem, Act.eval, e1]) (Below.refl _ _) rfl
    · simp only [List.getElem?_toArray, List.getElem?_cons_succ, List.getElem?_cons_zero, Option.some.injEq] at ho
      subst ho
      refine ⟨rfl, ?_⟩
      have e5 : A_.tmps[5]?.getD undef = .pointer (some ⟨w.heap.size, 1, none⟩) := getD_of (hI.val_ (i := 2) rfl rfl (by decide) (hdep ⟨2, .data⟩ (by simp) rfl))
      clear hI hdep
      obtain ⟨d0, d1, d2, d3, d4, d5, d6, d7⟩ := HK.out w3 hh
      exact .run rfl (.int .i64 n) w3 (by simp [execOp, go_sem, Act.eval, *]) (Below.refl _ _) rfl
    · simp only [List.getElem?_toArray, List.getElem?_cons_succ, List.getElem?_cons_zero, Option.some.injEq] at ho
      subst ho
      refine ⟨rfl, ?_⟩
      have e1 : A_.tmps[1]?.getD undef = .pointer (some ⟨w.heap.size, 0, none⟩) := by rw [hI.low 1 (by decide)]; rfl
      clear hI hdep
      exact .run rfl (.pointer (some ⟨w.heap.size, 2, none⟩)) w3 (by simp [execOp, go_sem, Act.eval, e1]) (Below.refl _ _) rfl
    · simp only [List.getElem?_toArray, List.getElem?_cons_succ, List.getElem?_cons_zero, Option.some.injEq] at ho
      subst ho
      refine ⟨rfl, ?_⟩
      have e7 : A_.tmps[7]?.getD undef = .pointer (some ⟨w.heap.size, 2, none⟩) := getD_of (hI.val_ (i := 4) rfl rfl (by decide) (hdep ⟨4, .data⟩ (by simp) rfl))
      clear hI hdep
      obtain ⟨d0, d1, d2, d3, d4, d5, d6, d7⟩ := HK.out w3 hh
      exact .run rfl (.int .i64 a) w3 (by simp [execOp, go_sem, Act.eval, *]) (Below.refl _ _) rfl
    · simp only [List.getElem?_toArray, List.getElem?_cons_succ, List.getElem?_cons_zero, Option.some.injEq] at ho
      subst ho
      refine ⟨rfl, ?_⟩
      have e4 : A_.tmps[4]?.getD undef = .int .i64 k := getD_of (hI.val_ (i := 1) rfl rfl (by decide) (hdep ⟨1, .data⟩ (by simp) rfl))
      have e6 : A_.tmps[6]?.getD undef = .int .i64 n := getD_of (hI.val_ (i := 3) rfl rfl (by decide) (hdep ⟨3, .data⟩ (by simp) rfl))
      have e8 : A_.tmps[8]?.getD undef = .int .i64 a := getD_of (hI.val_ (i := 5) rfl rfl (by decide) (hdep ⟨5, .data⟩ (by simp) rfl))
      clear hI hdep
      exact .run rfl (.slice (some ⟨w3.heap.size, 0, none⟩) 3 3) (w3.alloc (.cells #[.int .i64 k, .int .i64 n, .int .i64 a] 3)) (by simp [execOp, go_sem, Act.eval, e4, e6, e8]) ((Below.refl _ _).alloc (Nat.le_refl _) _) (RgX.row_new _ _ _ _)
    · simp only [List.getElem?_toArray, List.getElem?_cons_succ, List.getElem?_cons_zero, Option.some.injEq] at ho
      subst ho
      refine ⟨rfl, ?_⟩
      have e1 : A_.tmps[1]?.getD undef = .pointer (some ⟨w.heap.size, 0, none⟩) := by rw [hI.low 1 (by decide)]; rfl
      clear hI hdep
      exact .run rfl (.pointer (some ⟨w.heap.size, 3, none⟩)) w3 (by simp [execOp, go_sem, Act.eval, e1]) (Below.refl _ _) rfl
    · simp only [List.getElem?_toArray, List.getElem?_cons_succ, List.getElem?_cons_zero, Option.some.injEq] at ho
      subst ho
      refine ⟨rfl, ?_⟩
      have e10 : A_.tmps[10]?.getD undef = .pointer (some ⟨w.heap.size, 3, none⟩) := getD_of (hI.val_ (i := 7) rfl rfl (by decide) (hdep ⟨7, .data⟩ (by simp) rfl))
      clear hI hdep
      obtain ⟨d0, d1, d2, d3, d4, d5, d6, d7⟩ := HK.out w3 hh
      exact .run rfl (.agg #[.int .i64 c, .int .i64 h, .int .i64 t, .int .i64 i, .int .i64 p]) w3 (by simp [execOp, go_sem, Act.eval, *]) (Below.refl _ _) rfl
    · simp only [List.getElem?_toArray, List.getElem?_cons_succ, List.getElem?_cons_zero, Option.some.injEq] at ho
      subst ho
      refine ⟨rfl, ?_⟩
      have e11 : A_.tmps[11]?.getD undef = .agg #[.int .i64 c, .int .i64 h, .int .i64 t, .int .i64 i, .int .i64 p] := getD_of (hI.val_ (i := 8) rfl rfl (by decide) (hdep ⟨8, .data⟩ (by simp) rfl))
      clear hI hdep
      exact .call rfl 37 #[.agg #[.int .i64 c, .int .i64 h, .int .i64 t, .int .i64 i, .int .i64 p]] (by simp [go_sem, Act.eval, e11]) (msgKey_row _ _ _ _ _ w3)
    · simp only [List.getElem?_toArray, List.getElem?_cons_succ, List.getElem?_cons_zero, Option.some.injEq] at ho
      subst ho
      refine ⟨rfl, ?_⟩
      obtain ⟨_, e9, g9, rfl, r9⟩ := hI.get_ (i := 6) (j := 9) rfl rfl (by decide) (hdep ⟨6, .data⟩ (by simp) rfl)
      obtain ⟨_, e12, g12, rfl, r12⟩ := hI.get_ (i := 9) (j := 12) rfl rfl (by decide) (hdep ⟨9, .data⟩ (by simp) rfl)
      clear hI hdep
      obtain ⟨i0, hi0, hz0, hs0, hb0⟩ := RgX.info_split info_intK
      exact .run rfl _ _ (RgX.run_append_new (a := A_) (.tmp 9) (.tmp 12) 22 rfl 3 i0 (.int .i64 0) Tryz.underlying22 hi0 hz0 (some ⟨g9, 0, none⟩) 3 [.int .i64 k, .int .i64 n, .int .i64 a] (by simpa [Act.eval] using e9) (by rw [hs0]; exact run_firstCells_some w3.drew 1 3 ⟨g9, 0, none⟩ 3 3 _ rfl (World.news_of_block r9)) ⟨g12, 0, none⟩ 5 5 [.int .i64 c, .int .i64 h, .int .i64 t, .int .i64 i, .int .i64 p] (by simpa [Act.eval] using e12) (by rw [hs0]; rfl) (World.news_of_block r12) (fun u hu => by simp at hu; rcases hu with rfl | rfl | rfl | rfl | rfl <;> rfl) (by decide) (by decide) (by rw [hb0]; decide)) (RgX.below_drew_alloc _ _) (RgX.own_new w3 [k, n, a, c, h, t, i, p] _ _ _ _ rfl rfl rfl (by have := hh.size; omega) (grownCap_ge _ _ _ _) (grownCap_le_maxLen _ _ _ _ (by decide)))
    · simp only [List.getElem?_toArray, List.getElem?_cons_succ, List.getElem?_cons_zero, Option.some.injEq] at ho
      subst ho
      refine ⟨rfl, ?_⟩
      obtain ⟨y13, e13, h13⟩ := hI.get_ (i := 10) (j := 13) rfl rfl (by decide) (hdep ⟨10, .data⟩ (by simp) rfl)
      clear hI hdep
      exact .run rfl y13 w3 (by simp [execOp, go_sem, Act.eval, e13]) (Below.refl _ _) h13
  case fin =>
  intro A_ w3 hs hd hlow hS hok
  obtain ⟨_, hy2, g2, m2, rfl, r2⟩ := hok 11 2 _ (by decide) rfl rfl
  obtain ⟨_, hy9, g9, rfl, r9⟩ := hok 6 9 _ (by decide) rfl rfl
  obtain ⟨_, hy12, g12, rfl, r12⟩ := hok 9 12 _ (by decide) rfl rfl
  obtain ⟨_, hy13, g13, m13, rfl, r13⟩ := hok 10 13 _ (by decide) rfl rfl
  obtain rfl : A_ = ⟨#[.agg #[.int .i64 k, .int .i64 n, .int .i64 a, .int .i64 c, .int .i64 h, .int .i64 t, .int .i64 i, .int .i64 p], .pointer (some ⟨w.heap.size, 0, none⟩), .slice (some ⟨g2, 0, none⟩) 8 m2, .pointer (some ⟨w.heap.size, 0, none⟩), .int .i64 k, .pointer (some ⟨w.heap.size, 1, none⟩), .int .i64 n, .pointer (some ⟨w.heap.size, 2, none⟩), .int .i64 a, .slice (some ⟨g9, 0, none⟩) 3 3, .pointer (some ⟨w.heap.size, 3, none⟩), .agg #[.int .i64 c, .int .i64 h, .int .i64 t, .int .i64 i, .int .i64 p], .slice (some ⟨g12, 0, none⟩) 5 5, .slice (some ⟨g13, 0, none⟩) 8 m13], []⟩ := act_ext hd hs (fun j hj => match j, hj with | 0, _ => (hlow 0 (by decide)).trans rfl | 1, _ => (hlow 1 (by decide)).trans rfl | 2, _ => hy2 | 3, _ => RgX.val_at (hok 0 3 _ (by decide) rfl rfl) | 4, _ => RgX.val_at (hok 1 4 _ (by decide) rfl rfl) | 5, _ => RgX.val_at (hok 2 5 _ (by decide) rfl rfl) | 6, _ => RgX.val_at (hok 3 6 _ (by decide) rfl rfl) | 7, _ => RgX.val_at (hok 4 7 _ (by decide) rfl rfl) | 8, _ => RgX.val_at (hok 5 8 _ (by decide) rfl rfl) | 9, _ => hy9 | 10, _ => RgX.val_at (hok 7 10 _ (by decide) rfl rfl) | 11, _ => RgX.val_at (hok 8 11 _ (by decide) rfl rfl) | 12, _ => hy12 | 13, _ => hy13 | n + 14, h => absurd h (by show ¬ n + 14 < 14; omega))
  clear hs hd hlow hok hy2 hy9 hy12 hy13
  go_wp2_with fail
  go_ret
  exact ⟨⟨_, rfl, g2, m2, rfl, r2⟩, HB.out.trans (hS.mono HB.out.size)⟩
theorem NM.stepL_take {e : NM.Ev} {l : List (NM.Qu × Int)} {j : Nat} {x : NM.Qu × Int} (h : l[j]? = some x) : NM.stepL e (l.take (j + 1)) = NM.stepL e (l.take j) ++ NM.quL x.1 ++ [x.2] := by
  unfold NM.stepL NM.asksL
  rw [List.take_add_one, h]
  simp [NM.askL]
theorem NM.stepL_len (e : NM.Ev) (l : List (NM.Qu × Int)) : (NM.stepL e l).length = 8 + 6 * l.length := by
  unfold NM.stepL
  rw [List.length_append]
  show 8 + _ = _
  congr 1
  induction l with
  | nil => rfl
  | cons x t ih =>
    show (NM.askL x ++ NM.asksL t).length = _
    rw [List.length_append, ih, List.length_cons]
    show 6 + _ = _
    omega
/-- The row that a step's key grows in: ahead of a question's key, and behind it. -/
def SkOwn (U : World) (t : TypeId) (v0 : Value) (n : Nat) (xs ys : List Value) (b : Bool) (w : World) (v : Value) : Prop :=
  Below U.heap.size U w ∧ (if b = true then (∃ B c, v = .slice B (n + 5) c ∧ w.ownsRow U.heap.size t 1 (.slice B (n + 5) c) (n + 5) (xs ++ ys)) else v = v0 ∧ w.ownsRow U.heap.size t 1 v0 n xs)
theorem SkOwn.keep {U : World} {t : TypeId} {v0 : Value} {n : Nat} {xs ys : List Value} (b : Bool) (w w' : World) (v : Value) (h : SkOwn U t v0 n xs ys b w v) (hb : Below w.heap.size w w') : SkOwn U t v0 n xs ys b w' v := by
  refine ⟨h.1.trans (hb.mono h.1.size), ?_⟩
  have h2 := h.2
  cases b with
  | false =>
    rw [if_neg (by decide)] at h2 ⊢
    exact ⟨h2.1, own_below h2.2 hb⟩
  | true =>
    rw [if_pos rfl] at h2 ⊢
    obtain ⟨B, c, e, h3⟩ := h2
    exact ⟨B, c, e, own_below h3 hb⟩
theorem SkOwn.lt {U : World} {t : TypeId} {v0 v : Value} {n : Nat} {xs ys : List Value} {b : Bool} {w : World} (h : SkOwn U t v0 n xs ys b w v) : ∀ k, v.ownBlock = some k → k < w.heap.size := by
  have h2 := h.2
  cases b with
  | false =>
    rw [if_neg (by decide)] at h2
    obtain ⟨rfl, h3⟩ := h2
    exact fun k hk => (h3.lt k hk).2
  | true =>
    rw [if_pos rfl] at h2
    obtain ⟨B, c, rfl, h3⟩ := h2
    exact fun k hk => (h3.lt k hk).2
set_option maxHeartbeats 8000000 in
set_option maxRecDepth 100000 in
theorem stepKey_any (k n a c h t i p : Int) (A1 B1 : Option Addr) (n1 m1 pp1 q1 : Nat) (o1 : Bool) {l : List (NM.Qu × Int)} (w : World) (ha : Asks w A1 n1 l) (b1 : n1 ≤ 12) :
    Calls Tryz.prog 26 #[.agg #[.int .i64 k, .int .i64 n, .int .i64 a, .int .i64 c, .int .i64 h, .int .i64 t, .int .i64 i, .int .i64 p, .slice A1 n1 m1, .bool o1, .slice B1 pp1 q1]] w fun e w' => (∃ v, e = .returned v ∧ (RgX.Sp.key (NM.stepL ⟨k, n, a, ⟨c, h, t, i, p⟩⟩ l)).p w' v) ∧ Below w.heap.size w w' := by
  obtain ⟨i0, hi0, hz0, hs0, hb0⟩ := RgX.info_split info_intK
  obtain ⟨U, hU⟩ : ∃ U, w.alloc (.cells #[.int .i64 k, .int .i64 n, .int .i64 a, .int .i64 c, .int .i64 h, .int .i64 t, .int .i64 i, .int .i64 p, .slice A1 n1 m1, .bool o1, .slice B1 pp1 q1] 32) = U := ⟨_, rfl⟩
  have hb : Below w.heap.size w U := hU ▸ one_box w _
  have hlu : w.heap.size < U.heap.size := by rw [← hU]; simp
  have k1 : U.heap[w.heap.size]? = some (.cells #[.int .i64 k, .int .i64 n, .int .i64 a, .int .i64 c, .int .i64 h, .int .i64 t, .int .i64 i, .int .i64 p, .slice A1 n1 m1, .bool o1, .slice B1 pp1 q1] 32 (0, 0)) := by rw [← hU]; exact new_at rfl
  have HK := Lib.hid (fun (V : World) (hV : Below U.heap.size U V) => row11 ((hV.block _ hlu).trans k1))
  have HA := Lib.hid (ha.keep hb)
  have HB := Lib.hid hb
  have HL := Lib.hid ha.1
  clear hb ha
  obtain ⟨d0, d1, d2, d3, d4, d5, d6, d7, d8, d9, d10⟩ := row11 k1
  clear k1
  go_enter Tryz.func26, Tryz.ntmps26
  go_wp2_with (go_at_call 51; refine (eventKey_own _ _ _ _ _ _ _ _ _).mono ?_; rintro e w5 ⟨⟨_, rfl, g5, m5, rfl, o5⟩, hb5⟩)
  clear hU d0 d1 d2 d3 d4 d5 d6 d7 d8 d9 d10
  have HO5 := Lib.hid (show w5.ownsRow U.heap.size 3 1 (.slice (some ⟨g5, 0, none⟩) 8 m5) 8 ((NM.stepL ⟨k, n, a, ⟨c, h, t, i, p⟩⟩ (l.take 0)).map (Value.int .i64)) from o5)
  have HB5 := Lib.hid hb5
  clear o5 hb5
  go_loopw [3, 4] (fun kx ix V => ∃ (j : Nat) (B : Option Addr) (N cc : Nat), j ≤ n1 ∧ N = 8 + 6 * j ∧ ix = .int .i64 (j : Int) ∧ kx = .slice B N cc ∧ Hid (V.ownsRow U.heap.size 3 1 (.slice B N cc) N ((NM.stepL ⟨k, n, a, ⟨c, h, t, i, p⟩⟩ (l.take j)).map (Value.int .i64))) ∧ Hid (Below U.heap.size U V)) (fun _ ix _ => n1 - (intOf ix).toNat)
  case atStart => exact ⟨0, some ⟨g5, 0, none⟩, 8, m5, by omega, rfl, rfl, rfl, HO5, HB5⟩
  case round =>
    obtain ⟨j, B, N, cc, hj, hN, rfl, rfl, HO, HV⟩ := hrel
    have hsV := HV.out.size
    obtain ⟨d0, d1, d2, d3, d4, d5, d6, d7, d8, d9, d10⟩ := HK.out wr HV.out
    by_cases hlt : j < n1
    · have dk : decide (j < n1) = true := decide_eq_true hlt
      obtain ⟨⟨⟨qc, qh, qt, qk, qi⟩, a3⟩, hx⟩ : ∃ x, l[j]? = some x := ⟨_, List.getElem?_eq_getElem (by have := HL.out; omega)⟩
      obtain ⟨ga, hga, hgl, hxa⟩ := HA.out.2 (by omega)
      have HQ := Lib.hid (fun (V : World) (hV : Below U.heap.size U V) => (hxa j _ hx).keep hgl hV)
      have HX := Lib.hid hx
      subst hga
      clear hx hxa
      go_wp2_with fail
      clear d0 d1 d2 d3 d4 d5 d6 d7 d8 d9 d10
      refine RgX.own2 16 8 (fun i => ( 15 + i)) (fun h_ ix_ => match ix_ with | 0 => .v (.slice B N cc) | 1 => .v (.pointer (some ⟨w.heap.size, 8, none⟩)) | 2 => .v (.slice (some ⟨ga, 0, none⟩) n1 m1) | 3 => .v (.int .i64 (j : Int)) | 4 => .v (.pointer (some ⟨ga, j * 7, none⟩)) | 5 => .v (.pointer (some ⟨ga, j * 7, none⟩)) | 6 => .v (.agg #[.int .i64 qc, .int .i64 qh, .int .i64 qt, .int .i64 qk, .int .i64 qi]) | 7 => RgX.Sp.rown h_ #[.int .i64 qc, .int .i64 qh, .int .i64 qt, .int .i64 qk, .int .i64 qi] 3 5 | 8 => .any | 9 => .v (.pointer (some ⟨w.heap.size, 8, none⟩)) | 10 => .v (.slice (some ⟨ga, 0, none⟩) n1 m1) | 11 => .v (.int .i64 (j : Int)) | 12 => .v (.pointer (some ⟨ga, j * 7, none⟩)) | 13 => .v (.pointer (some ⟨ga, j * 7 + 6, none⟩)) | 14 => .v (.int .i64 a3) | 15 => RgX.Sp.rown h_ #[.int .i64 a3] 3 1 | _ => .any) _ _ _ (.slice B N cc) (SkOwn U 3 (.slice B N cc) N ((NM.stepL ⟨k, n, a, ⟨c, h, t, i, p⟩⟩ (l.take j)).map (Value.int .i64)) [.int .i64 qc, .int .i64 qh, .int .i64 qt, .int .i64 qk, .int .i64 qi]) (by kernel_rfl) rfl rfl (by decide) rfl rfl (by kernel_rfl) (by kernel_rfl) (by kernel_rfl) (by kernel_rfl) (fun i hi => by show ( 15 + i) < 33; (repeat' split) <;> omega) (fun i j hi hj => by show ( 15 + i) = ( 15 + j) → i = j; (repeat' split) <;> omega) (⟨HV.out, by rw [if_neg (by decide)]; exact ⟨rfl, HO.out⟩⟩) (SkOwn.keep) ?step ?app ?fin
      case step =>
        intro L_ A_ w3 y_ ix op_ hi hnA hO hI ho hdep
        have hcase : ix = 0 ∨ ix = 1 ∨ ix = 2 ∨ ix = 3 ∨ ix = 4 ∨ ix = 5 ∨ ix = 6 ∨ ix = 7 ∨ ix = 9 ∨ ix = 10 ∨ ix = 11 ∨ ix = 12 ∨ ix = 13 ∨ ix = 14 ∨ ix = 15 := by omega
        obtain ⟨b_, hO⟩ := hO
        have hh : Below U.heap.size U w3 := hO.1
        have hlo := hO.lt
        clear hO
        clear hi hnA
        rcases hcase with rfl | rfl | rfl | rfl | rfl | rfl | rfl | rfl | rfl | rfl | rfl | rfl | rfl | rfl | rfl
        · simp only [List.getElem?_toArray, List.getElem?_cons_zero, Option.some.injEq] at ho
          subst ho
          refine ⟨rfl, ?_⟩
          have e3 : A_.tmps[3]?.getD undef = .slice B N cc := by rw [hI.low 3 (by decide)]; rfl
          clear hI hdep
          exact .run rfl (.slice B N cc) w3 (by simp [execOp, go_sem, Act.eval, e3]) (Below.refl _ _) rfl
        · simp only [List.getElem?_toArray, List.getElem?_cons_succ, List.getElem?_cons_zero, Option.some.injEq] at ho
          subst ho
          refine ⟨rfl, ?_⟩
          have e1 : A_.tmps[1]?.getD undef = .pointer (some ⟨w.heap.size, 0, none⟩) := by rw [hI.low 1 (by decide)]; rfl
          clear hI hdep
          exact .run rfl (.pointer (some ⟨w.heap.size, 8, none⟩)) w3 (by simp [execOp, go_sem, Act.eval, e1]) (Below.refl _ _) rfl
        · simp only [List.getElem?_toArray, List.getElem?_cons_succ, List.getElem?_cons_zero, Option.some.injEq] at ho
          subst ho
          refine ⟨rfl, ?_⟩
          have e16 : A_.tmps[16]?.getD undef = .pointer (some ⟨w.heap.size, 8, none⟩) := getD_of (hI.val_ (i := 1) rfl rfl (by decide) (hdep ⟨1, .data⟩ (by simp) rfl))
          clear hI hdep
          obtain ⟨d0, d1, d2, d3, d4, d5, d6, d7, d8, d9, d10⟩ := HK.out w3 hh
          exact .run rfl (.slice (some ⟨ga, 0, none⟩) n1 m1) w3 (by simp [execOp, go_sem, Act.eval, *]) (Below.refl _ _) rfl
        · simp only [List.getElem?_toArray, List.getElem?_cons_succ, List.getElem?_cons_zero, Option.some.injEq] at ho
          subst ho
          refine ⟨rfl, ?_⟩
          have e4 : A_.tmps[4]?.getD undef = .int .i64 (j : Int) := by rw [hI.low 4 (by decide)]; rfl
          clear hI hdep
          exact .run rfl (.int .i64 (j : Int)) w3 (by simp [execOp, go_sem, Act.eval, e4]) (Below.refl _ _) rfl
        · simp only [List.getElem?_toArray, List.getElem?_cons_succ, List.getElem?_cons_zero, Option.some.injEq] at ho
          subst ho
          refine ⟨rfl, ?_⟩
          have e17 : A_.tmps[17]?.getD undef = .slice (some ⟨ga, 0, none⟩) n1 m1 := getD_of (hI.val_ (i := 2) rfl rfl (by decide) (hdep ⟨2, .data⟩ (by simp) rfl))
          have e18 : A_.tmps[18]?.getD undef = .int .i64 (j : Int) := getD_of (hI.val_ (i := 3) rfl rfl (by decide) (hdep ⟨3, .data⟩ (by simp) rfl))
          clear hI hdep
          exact .run rfl (.pointer (some ⟨ga, j * 7, none⟩)) w3 (by simp [execOp, go_sem, Act.eval, e17, e18]; omega) (Below.refl _ _) rfl
        · simp only [List.getElem?_toArray, List.getElem?_cons_succ, List.getElem?_cons_zero, Option.some.injEq] at ho
          subst ho
          refine ⟨rfl, ?_⟩
          have e19 : A_.tmps[19]?.getD undef = .pointer (some ⟨ga, j * 7, none⟩) := getD_of (hI.val_ (i := 4) rfl rfl (by decide) (hdep ⟨4, .data⟩ (by simp) rfl))
          clear hI hdep
          exact .run rfl (.pointer (some ⟨ga, j * 7, none⟩)) w3 (by simp [execOp, go_sem, Act.eval, e19]) (Below.refl _ _) rfl
        · simp only [List.getElem?_toArray, List.getElem?_cons_succ, List.getElem?_cons_zero, Option.some.injEq] at ho
          subst ho
          refine ⟨rfl, ?_⟩
          have e20 : A_.tmps[20]?.getD undef = .pointer (some ⟨ga, j * 7, none⟩) := getD_of (hI.val_ (i := 5) rfl rfl (by decide) (hdep ⟨5, .data⟩ (by simp) rfl))
          clear hI hdep
          obtain ⟨r_, x0, x1, x2, x3, x4, x5, x6⟩ := HQ.out w3 hh
          exact .run rfl (.agg #[.int .i64 qc, .int .i64 qh, .int .i64 qt, .int .i64 qk, .int .i64 qi]) w3 (by simp [execOp, go_sem, Act.eval, *]) (Below.refl _ _) rfl
        · simp only [List.getElem?_toArray, List.getElem?_cons_succ, List.getElem?_cons_zero, Option.some.injEq] at ho
          subst ho
          refine ⟨rfl, ?_⟩
          have e21 : A_.tmps[21]?.getD undef = .agg #[.int .i64 qc, .int .i64 qh, .int .i64 qt, .int .i64 qk, .int .i64 qi] := getD_of (hI.val_ (i := 6) rfl rfl (by decide) (hdep ⟨6, .data⟩ (by simp) rfl))
          clear hI hdep
          exact .call rfl 52 #[.agg #[.int .i64 qc, .int .i64 qh, .int .i64 qt, .int .i64 qk, .int .i64 qi]] (by simp [go_sem, Act.eval, e21]) ((queKey_new _ _ _ _ _ w3).mono fun e_ w_ ⟨⟨g_, h1_, h2_, h3_⟩, h4_⟩ => ⟨⟨_, h1_, g_, rfl, h2_, fun e => by have := hlo _ e.symm; omega⟩, h4_⟩)
        · simp only [List.getElem?_toArray, List.getElem?_cons_succ, List.getElem?_cons_zero, Option.some.injEq] at ho
          subst ho
          refine ⟨rfl, ?_⟩
          have e1 : A_.tmps[1]?.getD undef = .pointer (some ⟨w.heap.size, 0, none⟩) := by rw [hI.low 1 (by decide)]; rfl
          clear hI hdep
          exact .run rfl (.pointer (some ⟨w.heap.size, 8, none⟩)) w3 (by simp [execOp, go_sem, Act.eval, e1]) (Below.refl _ _) rfl
        · simp only [List.getElem?_toArray, List.getElem?_cons_succ, List.getElem?_cons_zero, Option.some.injEq] at ho
          subst ho
          refine ⟨rfl, ?_⟩
          have e24 : A_.tmps[24]?.getD undef = .pointer (some ⟨w.heap.size, 8, none⟩) := getD_of (hI.val_ (i := 9) rfl rfl (by decide) (hdep ⟨9, .data⟩ (by simp) rfl))
          clear hI hdep
          obtain ⟨d0, d1, d2, d3, d4, d5, d6, d7, d8, d9, d10⟩ := HK.out w3 hh
          exact .run rfl (.slice (some ⟨ga, 0, none⟩) n1 m1) w3 (by simp [execOp, go_sem, Act.eval, *]) (Below.refl _ _) rfl
        · simp only [List.getElem?_toArray, List.getElem?_cons_succ, List.getElem?_cons_zero, Option.some.injEq] at ho
          subst ho
          refine ⟨rfl, ?_⟩
          have e4 : A_.tmps[4]?.getD undef = .int .i64 (j : Int) := by rw [hI.low 4 (by decide)]; rfl
          clear hI hdep
          exact .run rfl (.int .i64 (j : Int)) w3 (by simp [execOp, go_sem, Act.eval, e4]) (Below.refl _ _) rfl
        · simp only [List.getElem?_toArray, List.getElem?_cons_succ, List.getElem?_cons_zero, Option.some.injEq] at ho
          subst ho
          refine ⟨rfl, ?_⟩
          have e25 : A_.tmps[25]?.getD undef = .slice (some ⟨ga, 0, none⟩) n1 m1 := getD_of (hI.val_ (i := 10) rfl rfl (by decide) (hdep ⟨10, .data⟩ (by simp) rfl))
          have e26 : A_.tmps[26]?.getD undef = .int .i64 (j : Int) := getD_of (hI.val_ (i := 11) rfl rfl (by decide) (hdep ⟨11, .data⟩ (by simp) rfl))
          clear hI hdep
          exact .run rfl (.pointer (some ⟨ga, j * 7, none⟩)) w3 (by simp [execOp, go_sem, Act.eval, e25, e26]; omega) (Below.refl _ _) rfl
        · simp only [List.getElem?_toArray, List.getElem?_cons_succ, List.getElem?_cons_zero, Option.some.injEq] at ho
          subst ho
          refine ⟨rfl, ?_⟩
          have e27 : A_.tmps[27]?.getD undef = .pointer (some ⟨ga, j * 7, none⟩) := getD_of (hI.val_ (i := 12) rfl rfl (by decide) (hdep ⟨12, .data⟩ (by simp) rfl))
          clear hI hdep
          exact .run rfl (.pointer (some ⟨ga, j * 7 + 6, none⟩)) w3 (by simp [execOp, go_sem, Act.eval, e27]) (Below.refl _ _) rfl
        · simp only [List.getElem?_toArray, List.getElem?_cons_succ, List.getElem?_cons_zero, Option.some.injEq] at ho
          subst ho
          refine ⟨rfl, ?_⟩
          have e28 : A_.tmps[28]?.getD undef = .pointer (some ⟨ga, j * 7 + 6, none⟩) := getD_of (hI.val_ (i := 13) rfl rfl (by decide) (hdep ⟨13, .data⟩ (by simp) rfl))
          clear hI hdep
          obtain ⟨r_, x0, x1, x2, x3, x4, x5, x6⟩ := HQ.out w3 hh
          exact .run rfl (.int .i64 a3) w3 (by simp [execOp, go_sem, Act.eval, *]) (Below.refl _ _) rfl
        · simp only [List.getElem?_toArray, List.getElem?_cons_succ, List.getElem?_cons_zero, Option.some.injEq] at ho
          subst ho
          refine ⟨rfl, ?_⟩
          have e29 : A_.tmps[29]?.getD undef = .int .i64 a3 := getD_of (hI.val_ (i := 14) rfl rfl (by decide) (hdep ⟨14, .data⟩ (by simp) rfl))
          clear hI hdep
          exact .run rfl (.slice (some ⟨w3.heap.size, 0, none⟩) 1 1) (w3.alloc (.cells #[.int .i64 a3] 3)) (by simp [execOp, go_sem, Act.eval, e29]) ((Below.refl _ _).alloc (Nat.le_refl _) _) ⟨_, rfl, heap_alloc_new _ _, fun e => by have := hlo _ e.symm; omega⟩
      case app =>
        intro L_ A_ w3 hO hI hdep
        have e15 : A_.tmps[15]?.getD undef = .slice B N cc := getD_of (hI.val_ (i := 0) rfl rfl (by decide) (hdep ⟨0, .data⟩ (by simp) rfl))
        obtain ⟨_, e22, g22, rfl, r22, l22⟩ := hI.get_ (i := 7) (j := 22) rfl rfl (by decide) (hdep ⟨7, .data⟩ (by simp) rfl)
        clear hI hdep
        refine ⟨rfl, rfl, ?_⟩
        obtain ⟨hB, hO⟩ := hO
        rw [if_neg (by decide)] at hO
        refine RgX.app_exec (.tmp 15) (.tmp 22) 22 rfl U.heap.size 3 i0 (.int .i64 0) 1 8 Tryz.underlying22 hi0 hz0 hs0 hb0 rfl (by decide) (.slice B N cc) N ((NM.stepL ⟨k, n, a, ⟨c, h, t, i, p⟩⟩ (l.take j)).map (Value.int .i64)) (by simpa [Act.eval] using e15) hO.2 ⟨g22, 0, none⟩ 5 5 [.int .i64 qc, .int .i64 qh, .int .i64 qt, .int .i64 qk, .int .i64 qi] (by simpa [Act.eval] using e22) rfl (World.news_of_block r22) (fun u hu => by simp at hu; rcases hu with rfl | rfl | rfl | rfl | rfl <;> rfl) (by decide) (by simp only [maxLen]; omega) (by omega) hB.size ?_
        intro B' c' w' hown' hgr'
        refine ⟨⟨hB.grown hgr' hB.size (fun b e => (hO.2.lt b e).1), ?_⟩, fun i x hi hne hp => ?_⟩
        · rw [if_pos rfl]
          exact ⟨B', c', rfl, hown'⟩
        have hcase : i = 0 ∨ i = 1 ∨ i = 2 ∨ i = 3 ∨ i = 4 ∨ i = 5 ∨ i = 6 ∨ i = 7 ∨ i = 9 ∨ i = 10 ∨ i = 11 ∨ i = 12 ∨ i = 13 ∨ i = 14 ∨ i = 15 := by omega
        clear hi hne
        rcases hcase with rfl | rfl | rfl | rfl | rfl | rfl | rfl | rfl | rfl | rfl | rfl | rfl | rfl | rfl | rfl
        · exact hp
        · exact hp
        · exact hp
        · exact hp
        · exact hp
        · exact hp
        · exact hp
        · obtain ⟨g, e, hg, hne⟩ := hp
          obtain ⟨h5, h6⟩ := RgX.rown_grown hg hne hgr' hown' (by show 5 < N + 5; omega)
          exact ⟨g, e, h5, h6⟩
        · exact hp
        · exact hp
        · exact hp
        · exact hp
        · exact hp
        · exact hp
        · obtain ⟨g, e, hg, hne⟩ := hp
          obtain ⟨h5, h6⟩ := RgX.rown_grown hg hne hgr' hown' (by show 1 < N + 5; omega)
          exact ⟨g, e, h5, h6⟩
      case fin =>
      intro A_ w3 y_ hs hd hlow hO hy hok
      obtain ⟨_, hy22, g22, rfl, r22, l22⟩ := hok 7 22 _ (by decide) (by decide) rfl rfl
      obtain ⟨_, hy30, g30, rfl, r30, l30⟩ := hok 15 30 _ (by decide) (by decide) rfl rfl
      obtain rfl : A_ = ⟨#[.agg #[.int .i64 k, .int .i64 n, .int .i64 a, .int .i64 c, .int .i64 h, .int .i64 t, .int .i64 i, .int .i64 p, .slice (some ⟨ga, 0, none⟩) n1 m1, .bool o1, .slice B1 pp1 q1], .pointer (some ⟨w.heap.size, 0, none⟩), .slice none 0 0, .slice B N cc, .int .i64 (j : Int), .pointer (some ⟨w.heap.size, 0, none⟩), .agg #[.int .i64 k, .int .i64 n, .int .i64 a, .int .i64 c, .int .i64 h, .int .i64 t, .int .i64 i, .int .i64 p], .slice (some ⟨g5, 0, none⟩) 8 m5, .int .i64 (j : Int), .pointer (some ⟨w.heap.size, 8, none⟩), .slice (some ⟨ga, 0, none⟩) n1 m1, .int .i64 (n1 : Int), .bool true, u13, u14, .slice B N cc, .pointer (some ⟨w.heap.size, 8, none⟩), .slice (some ⟨ga, 0, none⟩) n1 m1, .int .i64 (j : Int), .pointer (some ⟨ga, j * 7, none⟩), .pointer (some ⟨ga, j * 7, none⟩), .agg #[.int .i64 qc, .int .i64 qh, .int .i64 qt, .int .i64 qk, .int .i64 qi], .slice (some ⟨g22, 0, none⟩) 5 5, y_, .pointer (some ⟨w.heap.size, 8, none⟩), .slice (some ⟨ga, 0, none⟩) n1 m1, .int .i64 (j : Int), .pointer (some ⟨ga, j * 7, none⟩), .pointer (some ⟨ga, j * 7 + 6, none⟩), .int .i64 a3, .slice (some ⟨g30, 0, none⟩) 1 1, u31, undef], []⟩ := act_ext hd hs (fun j hj => match j, hj with | 0, _ => (hlow 0 (by decide)).trans rfl | 1, _ => (hlow 1 (by decide)).trans rfl | 2, _ => (hlow 2 (by decide)).trans rfl | 3, _ => (hlow 3 (by decide)).trans rfl | 4, _ => (hlow 4 (by decide)).trans rfl | 5, _ => (hlow 5 (by decide)).trans rfl | 6, _ => (hlow 6 (by decide)).trans rfl | 7, _ => (hlow 7 (by decide)).trans rfl | 8, _ => (hlow 8 (by decide)).trans rfl | 9, _ => (hlow 9 (by decide)).trans rfl | 10, _ => (hlow 10 (by decide)).trans rfl | 11, _ => (hlow 11 (by decide)).trans rfl | 12, _ => (hlow 12 (by decide)).trans rfl | 13, _ => (hlow 13 (by decide)).trans rfl | 14, _ => (hlow 14 (by decide)).trans rfl | 15, _ => RgX.val_at (hok 0 15 _ (by decide) (by decide) rfl rfl) | 16, _ => RgX.val_at (hok 1 16 _ (by decide) (by decide) rfl rfl) | 17, _ => RgX.val_at (hok 2 17 _ (by decide) (by decide) rfl rfl) | 18, _ => RgX.val_at (hok 3 18 _ (by decide) (by decide) rfl rfl) | 19, _ => RgX.val_at (hok 4 19 _ (by decide) (by decide) rfl rfl) | 20, _ => RgX.val_at (hok 5 20 _ (by decide) (by decide) rfl rfl) | 21, _ => RgX.val_at (hok 6 21 _ (by decide) (by decide) rfl rfl) | 22, _ => hy22 | 23, _ => hy | 24, _ => RgX.val_at (hok 9 24 _ (by decide) (by decide) rfl rfl) | 25, _ => RgX.val_at (hok 10 25 _ (by decide) (by decide) rfl rfl) | 26, _ => RgX.val_at (hok 11 26 _ (by decide) (by decide) rfl rfl) | 27, _ => RgX.val_at (hok 12 27 _ (by decide) (by decide) rfl rfl) | 28, _ => RgX.val_at (hok 13 28 _ (by decide) (by decide) rfl rfl) | 29, _ => RgX.val_at (hok 14 29 _ (by decide) (by decide) rfl rfl) | 30, _ => hy30 | 31, _ => (hlow 31 (by decide)).trans rfl | 32, _ => (hlow 32 (by decide)).trans rfl | n + 33, h => absurd h (by show ¬ n + 33 < 33; omega))
      clear hs hd hlow hy hok hy22 hy30
      obtain ⟨hB, hO⟩ := hO
      rw [if_pos rfl] at hO
      obtain ⟨B', c', rfl, hown⟩ := hO
      refine ⟨rfl, ?_⟩
      refine RgX.app_exec (.tmp 23) (.tmp 30) 22 rfl U.heap.size 3 i0 (.int .i64 0) 1 8 Tryz.underlying22 hi0 hz0 hs0 hb0 rfl (by decide) (.slice B' (N + 5) c') (N + 5) _ rfl hown ⟨g30, 0, none⟩ 1 1 [.int .i64 a3] rfl rfl (World.news_of_block r30) (fun u hu => by simp at hu; subst hu; rfl) (by decide) (by simp only [maxLen]; omega) (by omega) hB.size ?_
      intro B3 c3 w4 hown4 hgr4
      have HV4 := Lib.hid (hB.grown hgr4 hB.size (fun b e => (hown.lt b e).1))
      have HO4 := Lib.hid (show w4.ownsRow U.heap.size 3 1 (.slice B3 (N + 5 + 1) c3) (N + 5 + 1) ((NM.stepL ⟨k, n, a, ⟨c, h, t, i, p⟩⟩ (l.take (j + 1))).map (Value.int .i64)) from by
        rw [NM.stepL_take HX.out, List.map_append, List.map_append]
        exact hown4)
      clear hown hown4 hgr4 hB r22 l22 r30 l30
      show wpList _ _ _ _ ⟨#[.agg #[.int .i64 k, .int .i64 n, .int .i64 a, .int .i64 c, .int .i64 h, .int .i64 t, .int .i64 i, .int .i64 p, .slice (some ⟨ga, 0, none⟩) n1 m1, .bool o1, .slice B1 pp1 q1], .pointer (some ⟨w.heap.size, 0, none⟩), .slice none 0 0, .slice B N cc, .int .i64 (j : Int), .pointer (some ⟨w.heap.size, 0, none⟩), .agg #[.int .i64 k, .int .i64 n, .int .i64 a, .int .i64 c, .int .i64 h, .int .i64 t, .int .i64 i, .int .i64 p], .slice (some ⟨g5, 0, none⟩) 8 m5, .int .i64 (j : Int), .pointer (some ⟨w.heap.size, 8, none⟩), .slice (some ⟨ga, 0, none⟩) n1 m1, .int .i64 (n1 : Int), .bool true, u13, u14, .slice B N cc, .pointer (some ⟨w.heap.size, 8, none⟩), .slice (some ⟨ga, 0, none⟩) n1 m1, .int .i64 (j : Int), .pointer (some ⟨ga, j * 7, none⟩), .pointer (some ⟨ga, j * 7, none⟩), .agg #[.int .i64 qc, .int .i64 qh, .int .i64 qt, .int .i64 qk, .int .i64 qi], .slice (some ⟨g22, 0, none⟩) 5 5, .slice B' (N + 5) c', .pointer (some ⟨w.heap.size, 8, none⟩), .slice (some ⟨ga, 0, none⟩) n1 m1, .int .i64 (j : Int), .pointer (some ⟨ga, j * 7, none⟩), .pointer (some ⟨ga, j * 7 + 6, none⟩), .int .i64 a3, .slice (some ⟨g30, 0, none⟩) 1 1, .slice B3 (N + 5 + 1) c3, undef], []⟩ w4
      go_wp2_with fail
      go_roundw
      case rel => exact ⟨j + 1, B3, N + 5 + 1, c3, by omega, by omega, by go_num, by rw [hN], HO4, HV4⟩
      case measure => simp [intOf]; omega
    · have dk : decide (j < n1) = false := decide_eq_false hlt
      obtain rfl : j = n1 := by omega
      go_wp2_with fail
      go_ret
      obtain ⟨g, cap, hv, hgl, hglt⟩ := HO.out.form (by omega)
      injection hv with hA
      subst hA
      have hlen := NM.stepL_len ⟨k, n, a, ⟨c, h, t, i, p⟩⟩ l
      have hL := HL.out
      refine ⟨⟨_, rfl, g, cc, ?_, hglt, fun q y hy => ?_⟩, HB.out.trans (HV.out.mono HB.out.size)⟩
      · rw [hlen, hN, hL]
        rfl
      · have := HO.out.cells (g := g) rfl q (.int .i64 y) (by rw [List.take_of_length_le (by omega), List.getElem?_map, hy]; rfl)
        rw [Addr.add_lit, Nat.zero_add] at this
        exact this
end Go.Proofs.YtggallpnbbidfaaGreatDoor
