/-
  The machine's effects that set a variable, jump, send. No condition but the lengths.
-/
import Derived.Test.YtgdefhlcgmibcaaVmA
namespace Go.Proofs.Ytgdefhlcgmibcaa
open Go Go.RowKit Go.Proofs
attribute [local go_sem] Oper.semAt_some

theorem own_at {w : World} {B n c i : Nat} {K : Option Addr} {l : List Int} {x : Int} (h : w.ownsRow B 3 1 (.slice K n c) n (DK.intsC l)) (hx : l[i]? = some x) (hi : i < n) : ∃ g, K = some ⟨g, 0, none⟩ ∧ w.cell? ⟨g, i, none⟩ = some (.int .i64 x) := by
  obtain ⟨g, cur, rfl, _, hg, _, _, _, ht⟩ := own_cells h (by omega)
  refine ⟨g, rfl, (cell_of_row w g i _ _ (0, 0) hg).trans ?_⟩
  have : (cur.toList.take (n * 1))[i]? = some (.int .i64 x) := by rw [ht]; unfold DK.intsC; rw [List.getElem?_map, hx]; rfl
  rw [List.getElem?_take_of_lt (by omega)] at this
  rw [← Array.getElem?_toList]
  exact this
set_option maxHeartbeats 1000000 in
set_option maxRecDepth 100000 in
theorem jump_c {F : MFix} {B g : Nat} {s : VM.St} {w : World} (h : MAt F B w g s) (a : Int) :
    Calls Try.prog 61 #[.pointer (some ⟨g, 0, none⟩), .int .i64 a] w fun e w' => (∃ v, e = .returned v) ∧ MAt F B w' g { s with next := a } ∧ KeepV B w w' := by
  obtain ⟨T, V, K, A, vc, kc, ac, hP⟩ := h
  have hP : MPt F B w g s T V K A vc kc ac := hP
  have HT := Lib.hid (And.intro (mst (T := T) hP.2.1.size 37 (by omega) (.int .i64 a) rfl rfl) (show (Try.prog.info? 3).map (·.size) = some (Value.int .i64 a).cells.size from dk_sz_int))
  have HP := Lib.hid hP
  clear hP
  go_enter Try.func61, Try.ntmps61
  go_wp2_with (refine RgX.wpList_store_seg rfl 3 _ _ rfl g 37 (.int .i64 a) rfl rfl 78 T HP.out.1 HT.out.2 HT.out.1.1 HT.out.1.2.1 (T.setIfInBounds 37 (.int .i64 a)) HT.out.1.2.2 ?_; intro u3 k3 o3 z3 b3)
  go_end0
  exact ⟨⟨_, rfl⟩, (HP.out.next a k3 o3).at_, HP.out.keep o3 b3⟩
set_option maxHeartbeats 1000000 in
set_option maxRecDepth 100000 in
theorem stop_c {F : MFix} {B g : Nat} {s : VM.St} {w : World} (h : MAt F B w g s) (a : Int) :
    Calls Try.prog 70 #[.pointer (some ⟨g, 0, none⟩), .int .i64 a] w fun e w' => (∃ v, e = .returned v) ∧ MAt F B w' g { s with stopped := true } ∧ KeepV B w w' := by
  obtain ⟨T, V, K, A, vc, kc, ac, hP⟩ := h
  have hP : MPt F B w g s T V K A vc kc ac := hP
  have HT := Lib.hid (And.intro (mst (T := T) hP.2.1.size 38 (by omega) (.bool true) rfl rfl) (show (Try.prog.info? 4).map (·.size) = some (Value.bool true).cells.size from vm_sz_bool))
  have HP := Lib.hid hP
  clear hP
  go_enter Try.func70, Try.ntmps70
  go_wp2_with (refine RgX.wpList_store_seg rfl 4 _ _ rfl g 38 (.bool true) rfl rfl 78 T HP.out.1 HT.out.2 HT.out.1.1 HT.out.1.2.1 (T.setIfInBounds 38 (.bool true)) HT.out.1.2.2 ?_; intro u3 k3 o3 z3 b3)
  go_end0
  exact ⟨⟨_, rfl⟩, (HP.out.stopped true k3 o3).at_, HP.out.keep o3 b3⟩
set_option maxHeartbeats 1000000 in
set_option maxRecDepth 100000 in
theorem unless_c {F : MFix} {B g : Nat} {s : VM.St} {w : World} (h : MAt F B w g s) (a : Int) (st : List Int) (x : Int) (hs : s.stack = st ++ [x]) (hl : st.length < 1000) (r : Int) (hr : (if x = 0 then a else s.next) = r) :
    Calls Try.prog 62 #[.pointer (some ⟨g, 0, none⟩), .int .i64 a] w fun e w' => (∃ v, e = .returned v) ∧ MAt F B w' g { s with stack := st, next := r } ∧ KeepV B w w' := by
  have H1 := Lib.hid (pop_c h st x hs (by omega))
  have H2 := Lib.hid (fun (w1 : World) (h1 : MAt F B w1 g { s with stack := st }) => jump_c h1 a)
  clear h hs
  by_cases hx : x = 0
  · rw [if_pos hx] at hr
    subst hx
    subst hr
    go_enter Try.func62, Try.ntmps62
    go_wp2_with (first | (go_at_call 55; refine H1.out.mono ?_; rintro e w1 ⟨rfl, m1, k1⟩; have M1 := Lib.hid (And.intro m1 k1); clear m1 k1 H1) | (go_at_call 61; refine (H2.out _ M1.out.1).mono ?_; rintro e w2 ⟨⟨v, rfl⟩, m2, k2⟩; have M2 := Lib.hid (And.intro m2 k2); clear m2 k2 H2))
    go_end0
    exact ⟨⟨_, rfl⟩, M2.out.1, M1.out.2.trans M2.out.2⟩
  · rw [if_neg hx] at hr
    subst hr
    go_enter Try.func62, Try.ntmps62
    go_wp2_with (go_at_call 55; refine H1.out.mono ?_; rintro e w1 ⟨rfl, m1, k1⟩; have M1 := Lib.hid (And.intro m1 k1); clear m1 k1 H1)
    go_end0
    exact ⟨⟨_, rfl⟩, M1.out.1, M1.out.2⟩
set_option maxHeartbeats 1000000 in
set_option maxRecDepth 100000 in
theorem var_c {F : MFix} {B g : Nat} {s : VM.St} {w : World} (h : MAt F B w g s) (a : Nat) (x : Int) (hx : s.vars[a]? = some x) (hl : s.stack.length < 1000) :
    Calls Try.prog 44 #[.pointer (some ⟨g, 0, none⟩), .int .i64 (a : Int)] w fun e w' => (∃ v, e = .returned v) ∧ MAt F B w' g { s with stack := s.stack ++ [x] } ∧ KeepV B w w' := by
  have H1 := Lib.hid (push_c h x (by omega))
  obtain ⟨T, V, K, A, vc, kc, ac, hP⟩ := h
  have hP : MPt F B w g s T V K A vc kc ac := hP
  obtain ⟨n, hn⟩ : ∃ n, s.vars.length = n := ⟨_, rfl⟩
  have hav : a < s.vars.length := (List.getElem?_eq_some_iff.1 hx).1
  have hoV := hP.2.2.1
  have hcV := mcell hP.1 hP.2.1.vars
  obtain ⟨gv, rfl, hcx⟩ := own_at hoV hx hav
  rw [hn] at hcV hav
  have haI : (a : Int) < (n : Int) := by omega
  clear hP hoV hn hx
  go_enter Try.func44, Try.ntmps44
  go_wp2_with (go_at_call 43; refine H1.out.mono ?_; rintro e w1 ⟨⟨v, rfl⟩, m1, k1⟩)
  go_end0
  exact ⟨⟨_, rfl⟩, m1, k1⟩
end Go.Proofs.Ytgdefhlcgmibcaa
