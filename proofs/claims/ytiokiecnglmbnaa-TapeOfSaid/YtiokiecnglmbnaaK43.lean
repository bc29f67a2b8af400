/-
  The program's without: a list of events, and one of answers, without those whose numbers a map holds. Conditions: the lengths.
-/
import Derived.Test.YtiokiecnglmbnaaK41
import Derived.Test.YtiokiecnglmbnaaK42
import Derived.Test.YtiokiecnglmbnaaK4
import Derived.Test.YtiokiecnglmbnaaK17
import Derived.Test.YtiokiecnglmbnaaK5
import Derived.IntWalk

namespace Go.Proofs.Ytiokiecnglmbnaa
open Go Go.RowKit Go.Proofs
attribute [local go_sem] Oper.semAt_some

def evsC (l : List NM.Ev) : List Value := l.flatMap evC
theorem evsC_snoc (l : List NM.Ev) (x : NM.Ev) : evsC (l ++ [x]) = evsC l ++ evC x := by simp [evsC]
theorem own_belowW {w w' : World} {base size n : Nat} {e : TypeId} {v : Value} {xs : List Value} (h : w.ownsRow base e size v n xs) (hb : Below w.heap.size w w') : w'.ownsRow base e size v n xs :=
  h.kept (row := none) ⟨hb.os, hb.tape, hb.output, hb.size, fun k hk _ => hb.block k hk⟩ (by cases hv : v.ownBlock <;> simp)
theorem ansC_snocW (l : List TP.An) (x : TP.An) : TP.ansC (l ++ [x]) = TP.ansC l ++ TP.anC x := by simp [TP.ansC]
theorem own_lo {w : World} {base size n : Nat} {e : TypeId} {v : Value} {xs : List Value} (h : w.ownsRow base e size v n xs) {b : Nat} (hb : v.ownBlock = some b) : base ≤ b := by
  rcases h.2 with ⟨rfl, _⟩ | ⟨g, cap, cur, rfl, hg, _⟩
  · cases hb
  · have e2 : some g = some b := hb
    injection e2 with e2
    omega
theorem row8W {V : World} {g : Nat} {t : TypeId} {x0 x1 x2 x3 x4 x5 x6 x7 : Value} (h : V.heap[g]? = some (.cells #[x0, x1, x2, x3, x4, x5, x6, x7] t (0, 0))) : V.cell? ⟨g, 0, none⟩ = some x0 ∧ V.cell? ⟨g, 1, none⟩ = some x1 ∧ V.cell? ⟨g, 2, none⟩ = some x2 ∧ V.cell? ⟨g, 3, none⟩ = some x3 ∧ V.cell? ⟨g, 4, none⟩ = some x4 ∧ V.cell? ⟨g, 5, none⟩ = some x5 ∧ V.cell? ⟨g, 6, none⟩ = some x6 ∧ V.cell? ⟨g, 7, none⟩ = some x7 :=
  ⟨cell_of_row _ _ 0 _ _ (0, 0) h, cell_of_row _ _ 1 _ _ (0, 0) h, cell_of_row _ _ 2 _ _ (0, 0) h, cell_of_row _ _ 3 _ _ (0, 0) h, cell_of_row _ _ 4 _ _ (0, 0) h, cell_of_row _ _ 5 _ _ (0, 0) h, cell_of_row _ _ 6 _ _ (0, 0) h, cell_of_row _ _ 7 _ _ (0, 0) h⟩
theorem row6W {V : World} {g : Nat} {t : TypeId} {x0 x1 x2 x3 x4 x5 : Value} (h : V.heap[g]? = some (.cells #[x0, x1, x2, x3, x4, x5] t (0, 0))) : V.cell? ⟨g, 0, none⟩ = some x0 ∧ V.cell? ⟨g, 1, none⟩ = some x1 ∧ V.cell? ⟨g, 2, none⟩ = some x2 ∧ V.cell? ⟨g, 3, none⟩ = some x3 ∧ V.cell? ⟨g, 4, none⟩ = some x4 ∧ V.cell? ⟨g, 5, none⟩ = some x5 :=
  ⟨cell_of_row _ _ 0 _ _ (0, 0) h, cell_of_row _ _ 1 _ _ (0, 0) h, cell_of_row _ _ 2 _ _ (0, 0) h, cell_of_row _ _ 3 _ _ (0, 0) h, cell_of_row _ _ 4 _ _ (0, 0) h, cell_of_row _ _ 5 _ _ (0, 0) h⟩
set_option maxHeartbeats 4000000 in
set_option maxRecDepth 100000 in
theorem withoutE_any {E : Option Addr} {ne ce : Nat} {es : List NM.Ev} (f b m : Nat) (o : List Int) (w : World) (he : Evs w E ne es) (hs : SetI w b m o) (bn : ne ≤ 1000000) (hf : f ≤ 1000000) :
    Calls Try.prog 52 #[.slice E ne ce, .int .i64 (f : Int), .map (some b)] w fun e w' => (∃ A n c, e = .returned (.slice A n c) ∧ (TP.sub o f es).length = n ∧ w'.ownsRow w.heap.size 47 8 (.slice A n c) n (evsC (TP.sub o f es))) ∧ Below w.heap.size w w' := by
  obtain ⟨i0, hi0, hz0, hs0, hb0⟩ := info_splitE info_event
  have HE := Lib.hid he
  have HS := Lib.hid hs
  have hbl := hs.lt
  clear he hs
  go_enter Try.func52, Try.ntmps52
  go_wp2_with fail
  go_loopw [7, 8, 9, 12] (fun kept _ _ i V => ∃ (k n c : Nat) (A : Option Addr), k ≤ ne ∧ i = .int .i64 (k : Int) ∧ kept = .slice A n c ∧ Hid (Below w.heap.size w V) ∧ Hid ((TP.sub o f (es.take k)).length = n ∧ n ≤ k ∧ V.ownsRow w.heap.size 47 8 (.slice A n c) n (evsC (TP.sub o f (es.take k))))) (fun _ _ _ i _ => ne - (intOf i).toNat)
  case atStart => exact ⟨0, 0, 0, none, by omega, rfl, rfl, Below.refl _ _, rfl, Nat.le_refl _, World.ownsRow_nil _ _ _ _⟩
  case round =>
    obtain ⟨k, n, c, A, hk, rfl, rfl, HV, HR⟩ := hrel
    by_cases hin : k < ne
    · have dk : decide (k < ne) = true := decide_eq_true hin
      have dk2 : decide ((k : Int) < (ne : Int)) = true := decide_eq_true (by omega)
      obtain ⟨x, hx⟩ : ∃ x, es[k]? = some x := ⟨_, List.getElem?_eq_getElem (by rw [HE.out.1]; exact hin)⟩
      obtain ⟨g, hg, hgl, hxa⟩ := HE.out.2 (by omega)
      obtain ⟨c0, c1, c2, c3, c4, c5, c6, c7⟩ := (hxa k x hx).keep hgl HV.out
      subst hg
      have HX := Lib.hid (TP.sub_next (o := o) (f := f) hx)
      obtain ⟨xk, xn, xa, ⟨xc, xh, xt, xi, xp⟩⟩ := x
      clear hxa hx
      have hwr : IntKind.i64.wrap ((f : Int) + (k : Int)) = (f : Int) + (k : Int) := IntWalk.i64_in _ (by omega)
      have h64 : I64 ((f : Int) + (k : Int)) := by unfold I64; omega
      have hb1 := one_box wr (.cells #[.int .i64 xk, .int .i64 xn, .int .i64 xa, .int .i64 xc, .int .i64 xh, .int .i64 xt, .int .i64 xi, .int .i64 xp] 47)
      obtain ⟨U, hU⟩ : ∃ U, wr.alloc (.cells #[.int .i64 xk, .int .i64 xn, .int .i64 xa, .int .i64 xc, .int .i64 xh, .int .i64 xt, .int .i64 xi, .int .i64 xp] 47) = U := ⟨_, rfl⟩
      rw [hU] at hb1
      have k1 : U.heap[wr.heap.size]? = some (.cells #[.int .i64 xk, .int .i64 xn, .int .i64 xa, .int .i64 xc, .int .i64 xh, .int .i64 xt, .int .i64 xi, .int .i64 xp] 47 (0, 0)) := by rw [← hU]; exact new_at rfl
      obtain ⟨b0, b1, b2, b3, b4, b5, b6, b7⟩ := row8W k1
      have HV1 := Lib.hid (HV.out.trans (hb1.mono HV.out.size))
      have HS1 := Lib.hid (HS.out.keep HV1.out)
      have HR1 := Lib.hid (And.intro HR.out.1 (And.intro HR.out.2.1 (own_belowW HR.out.2.2 hb1)))
      have hsz := HV.out.size
      clear hb1 k1 HV HR
      by_cases hm : ((f : Int) + (k : Int)) ∈ o
      · have dm : decide (((f : Int) + (k : Int)) ∈ o) = true := decide_eq_true hm
        have HX2 := Lib.hid (show TP.sub o f (es.take (k + 1)) = TP.sub o f (es.take k) from by rw [HX.out, if_pos hm, List.append_nil])
        clear hm
        go_wp2_with (first | (at_lookup; refine wpList_lookup_i rfl _ _ rfl rfl HS1.out _ h64 rfl ?_; rw [dm]) | fail)
        go_roundw
        case rel => exact ⟨k + 1, n, c, A, by omega, by go_num, rfl, HV1, by rw [HX2.out]; exact ⟨HR1.out.1, by have := HR1.out.2.1; omega, HR1.out.2.2⟩⟩
        case measure => simp [intOf]; omega
      · have dm : decide (((f : Int) + (k : Int)) ∈ o) = false := decide_eq_false hm
        have HX2 := Lib.hid (show TP.sub o f (es.take (k + 1)) = TP.sub o f (es.take k) ++ [⟨xk, xn, xa, ⟨xc, xh, xt, xi, xp⟩⟩] from by rw [HX.out, if_neg hm])
        have hnk := HR1.out.2.1
        clear hm
        go_wp2_with (first
          | (at_lookup; refine wpList_lookup_i rfl _ _ rfl rfl HS1.out _ h64 rfl ?_; rw [dm])
          | (at_builtin; refine wpList_append_lies _ rfl (.tmp 23) (.tmp 25) 23 rfl w.heap.size 47 i0 _ 8 64 Try.underlying23 hi0 hz0 hs0 hb0 rfl (by decide) (.slice A n c) n (evsC (TP.sub o f (es.take k))) (by simp [Act.eval]) (own_belowW HR1.out.2.2 (one_box U _)) ⟨U.heap.size, 0, none⟩ 1 1 (evC ⟨xk, xn, xa, ⟨xc, xh, xt, xi, xp⟩⟩) (by simp [Act.eval]) rfl (World.news_of_block (World.alloc_heap_new U _)) (by simp [evC, Value.oneCell']) (by decide) (by simp only [maxLen]; omega) (by omega) (by have := HV1.out.size; simp; omega) _ rfl ?_
             intro g10 c10 w10 hown10 hgr10 _ _
             have V10 := Lib.hid ((HV1.out.trans ((one_box U (.cells #[.int .i64 xk, .int .i64 xn, .int .i64 xa, .int .i64 xc, .int .i64 xh, .int .i64 xt, .int .i64 xi, .int .i64 xp] 47)).mono HV1.out.size)).grown hgr10 (by have := HV1.out.size; simp; omega) (fun b e => own_lo HR1.out.2.2 e))
             have R10 := Lib.hid (show (TP.sub o f (es.take (k + 1))).length = n + 1 ∧ n + 1 ≤ k + 1 ∧ w10.ownsRow w.heap.size 47 8 (.slice (some ⟨g10, 0, none⟩) (n + 1) c10) (n + 1) (evsC (TP.sub o f (es.take (k + 1)))) from by
               rw [HX2.out]
               refine ⟨by rw [List.length_append, HR1.out.1]; rfl, by omega, ?_⟩
               rw [evsC_snoc]
               exact hown10)
             clear hown10 hgr10))
        go_roundw
        case rel => exact ⟨k + 1, n + 1, c10, _, by omega, by go_num, rfl, V10, R10⟩
        case measure => simp [intOf]; omega
    · have dk : decide (k < ne) = false := decide_eq_false hin
      have dk2 : decide ((k : Int) < (ne : Int)) = false := decide_eq_false (by omega)
      obtain rfl : k = ne := by omega
      have HT := Lib.hid (show es.take k = es from List.take_of_length_le (by rw [HE.out.1]; exact Nat.le_refl _))
      rw [HT.out] at HR
      go_wp2_with fail
      go_ret
      exact ⟨⟨A, n, c, rfl, HR.out.1, HR.out.2.2⟩, HV.out⟩
set_option maxHeartbeats 4000000 in
set_option maxRecDepth 100000 in
theorem withoutA_any {E : Option Addr} {ne ce : Nat} {es : List TP.An} (f b m : Nat) (o : List Int) (w : World) (he : Ans w E ne es) (hs : SetI w b m o) (bn : ne ≤ 1000000) (hf : f ≤ 1000000) :
    Calls Try.prog 53 #[.slice E ne ce, .int .i64 (f : Int), .map (some b)] w fun e w' => (∃ A n c, e = .returned (.slice A n c) ∧ (TP.sub o f es).length = n ∧ w'.ownsRow w.heap.size 71 6 (.slice A n c) n (TP.ansC (TP.sub o f es))) ∧ Below w.heap.size w w' := by
  obtain ⟨i0, hi0, hz0, hs0, hb0⟩ := info_split' info_answer
  have HE := Lib.hid he
  have HS := Lib.hid hs
  have hbl := hs.lt
  clear he hs
  go_enter Try.func53, Try.ntmps53
  go_wp2_with fail
  go_loopw [7, 8, 9, 12] (fun kept _ _ i V => ∃ (k n c : Nat) (A : Option Addr), k ≤ ne ∧ i = .int .i64 (k : Int) ∧ kept = .slice A n c ∧ Hid (Below w.heap.size w V) ∧ Hid ((TP.sub o f (es.take k)).length = n ∧ n ≤ k ∧ V.ownsRow w.heap.size 71 6 (.slice A n c) n (TP.ansC (TP.sub o f (es.take k))))) (fun _ _ _ i _ => ne - (intOf i).toNat)
  case atStart => exact ⟨0, 0, 0, none, by omega, rfl, rfl, Below.refl _ _, rfl, Nat.le_refl _, World.ownsRow_nil _ _ _ _⟩
  case round =>
    obtain ⟨k, n, c, A, hk, rfl, rfl, HV, HR⟩ := hrel
    by_cases hin : k < ne
    · have dk : decide (k < ne) = true := decide_eq_true hin
      have dk2 : decide ((k : Int) < (ne : Int)) = true := decide_eq_true (by omega)
      obtain ⟨x, hx⟩ : ∃ x, es[k]? = some x := ⟨_, List.getElem?_eq_getElem (by rw [HE.out.1]; exact hin)⟩
      obtain ⟨g, hg, hgl, hxa⟩ := HE.out.2 (by omega)
      obtain ⟨c0, c1, c2, c3, c4, c5⟩ := (hxa k x hx).keep hgl HV.out
      subst hg
      have HX := Lib.hid (TP.sub_next (o := o) (f := f) hx)
      obtain ⟨⟨xc, xh, xt, xk, xi⟩, y⟩ := x
      clear hxa hx
      have hwr : IntKind.i64.wrap ((f : Int) + (k : Int)) = (f : Int) + (k : Int) := IntWalk.i64_in _ (by omega)
      have h64 : I64 ((f : Int) + (k : Int)) := by unfold I64; omega
      have hb1 := one_box wr (.cells #[.int .i64 xc, .int .i64 xh, .int .i64 xt, .int .i64 xk, .int .i64 xi, .int .i64 y] 71)
      obtain ⟨U, hU⟩ : ∃ U, wr.alloc (.cells #[.int .i64 xc, .int .i64 xh, .int .i64 xt, .int .i64 xk, .int .i64 xi, .int .i64 y] 71) = U := ⟨_, rfl⟩
      rw [hU] at hb1
      have k1 : U.heap[wr.heap.size]? = some (.cells #[.int .i64 xc, .int .i64 xh, .int .i64 xt, .int .i64 xk, .int .i64 xi, .int .i64 y] 71 (0, 0)) := by rw [← hU]; exact new_at rfl
      obtain ⟨b0, b1, b2, b3, b4, b5⟩ := row6W k1
      have HV1 := Lib.hid (HV.out.trans (hb1.mono HV.out.size))
      have HS1 := Lib.hid (HS.out.keep HV1.out)
      have HR1 := Lib.hid (And.intro HR.out.1 (And.intro HR.out.2.1 (own_belowW HR.out.2.2 hb1)))
      have hsz := HV.out.size
      clear hb1 k1 HV HR
      by_cases hm : ((f : Int) + (k : Int)) ∈ o
      · have dm : decide (((f : Int) + (k : Int)) ∈ o) = true := decide_eq_true hm
        have HX2 := Lib.hid (show TP.sub o f (es.take (k + 1)) = TP.sub o f (es.take k) from by rw [HX.out, if_pos hm, List.append_nil])
        clear hm
        go_wp2_with (first | (at_lookup; refine wpList_lookup_i rfl _ _ rfl rfl HS1.out _ h64 rfl ?_; rw [dm]) | fail)
        go_roundw
        case rel => exact ⟨k + 1, n, c, A, by omega, by go_num, rfl, HV1, by rw [HX2.out]; exact ⟨HR1.out.1, by have := HR1.out.2.1; omega, HR1.out.2.2⟩⟩
        case measure => simp [intOf]; omega
      · have dm : decide (((f : Int) + (k : Int)) ∈ o) = false := decide_eq_false hm
        have HX2 := Lib.hid (show TP.sub o f (es.take (k + 1)) = TP.sub o f (es.take k) ++ [((⟨xc, xh, xt, xk, xi⟩ : NM.Qu), y)] from by rw [HX.out, if_neg hm])
        have hnk := HR1.out.2.1
        clear hm
        go_wp2_with (first
          | (at_lookup; refine wpList_lookup_i rfl _ _ rfl rfl HS1.out _ h64 rfl ?_; rw [dm])
          | (at_builtin; refine wpList_append_lies _ rfl (.tmp 23) (.tmp 25) 24 rfl w.heap.size 71 i0 _ 6 48 Try.underlying24 hi0 hz0 hs0 hb0 rfl (by decide) (.slice A n c) n (TP.ansC (TP.sub o f (es.take k))) (by simp [Act.eval]) (own_belowW HR1.out.2.2 (one_box U _)) ⟨U.heap.size, 0, none⟩ 1 1 (TP.anC ((⟨xc, xh, xt, xk, xi⟩ : NM.Qu), y)) (by simp [Act.eval]) rfl (World.news_of_block (World.alloc_heap_new U _)) (by simp [TP.anC, Value.oneCell']) (by decide) (by simp only [maxLen]; omega) (by omega) (by have := HV1.out.size; simp; omega) _ rfl ?_
             intro g10 c10 w10 hown10 hgr10 _ _
             have V10 := Lib.hid ((HV1.out.trans ((one_box U (.cells #[.int .i64 xc, .int .i64 xh, .int .i64 xt, .int .i64 xk, .int .i64 xi, .int .i64 y] 71)).mono HV1.out.size)).grown hgr10 (by have := HV1.out.size; simp; omega) (fun b e => own_lo HR1.out.2.2 e))
             have R10 := Lib.hid (show (TP.sub o f (es.take (k + 1))).length = n + 1 ∧ n + 1 ≤ k + 1 ∧ w10.ownsRow w.heap.size 71 6 (.slice (some ⟨g10, 0, none⟩) (n + 1) c10) (n + 1) (TP.ansC (TP.sub o f (es.take (k + 1)))) from by
               rw [HX2.out]
               refine ⟨by rw [List.length_append, HR1.out.1]; rfl, by omega, ?_⟩
               rw [ansC_snocW]
               exact hown10)
             clear hown10 hgr10))
        go_roundw
        case rel => exact ⟨k + 1, n + 1, c10, _, by omega, by go_num, rfl, V10, R10⟩
        case measure => simp [intOf]; omega
    · have dk : decide (k < ne) = false := decide_eq_false hin
      have dk2 : decide ((k : Int) < (ne : Int)) = false := decide_eq_false (by omega)
      obtain rfl : k = ne := by omega
      have HT := Lib.hid (show es.take k = es from List.take_of_length_le (by rw [HE.out.1]; exact Nat.le_refl _))
      rw [HT.out] at HR
      go_wp2_with fail
      go_ret
      exact ⟨⟨A, n, c, rfl, HR.out.1, HR.out.2.2⟩, HV.out⟩
end Go.Proofs.Ytiokiecnglmbnaa
