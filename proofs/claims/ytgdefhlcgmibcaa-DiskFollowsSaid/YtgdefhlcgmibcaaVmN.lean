/-
  The machine's Run of the busy program. No condition but the bounds.
-/
import Derived.Test.YtgdefhlcgmibcaaVmC
import Derived.Test.YtgdefhlcgmibcaaVmB
namespace Go.Proofs.Ytgdefhlcgmibcaa
open Go Go.RowKit Go.Proofs
attribute [local go_sem] Oper.semAt_some

theorem own_less {w : World} {base base' size n : Nat} {t : TypeId} {v : Value} {xs : List Value} (h : w.ownsRow base t size v n xs) (hb : base' ≤ base) : w.ownsRow base' t size v n xs :=
  ⟨h.1, h.2.imp id fun ⟨g, cap, cur, e, h1, h2⟩ => ⟨g, cap, cur, e, Nat.le_trans hb h1, h2⟩⟩
def busyF : MFix := ⟨VM.effL, .func (.func 30) #[] #[], [0, 2, 0, 0, 0, 0, 0, 0, 0], 1⟩
def busyS : VM.St := ⟨[0], [], 0, false, 0, 0, []⟩
def machT (V : Value) : List Value := VM.effL ++ (.func (.func 30) #[] #[] :: (busyF.names.map (Value.int .i64) ++ [.int .i64 1, V, .slice none 0 0, .int .i64 0, .bool false, .int .i64 0, .int .i64 0, .slice none 0 0]))
theorem machT_at (V : Value) : MCells busyF (machT V).toArray busyS V (.slice none 0 0) (.slice none 0 0) where
  size := rfl
  eff := fun i x h => by
    have h : VM.effL[i]? = some x := h
    rw [List.getElem?_toArray]
    unfold machT
    rw [List.getElem?_append_left (List.getElem?_eq_some_iff.1 h).1]
    exact h
  el := rfl
  ask := rfl
  names := fun i x h => by
    have hi : i < 9 := (List.getElem?_eq_some_iff.1 h).1
    have h : ([0, 2, 0, 0, 0, 0, 0, 0, 0] : List Int)[i]? = some x := h
    have hc : i = 0 ∨ i = 1 ∨ i = 2 ∨ i = 3 ∨ i = 4 ∨ i = 5 ∨ i = 6 ∨ i = 7 ∨ i = 8 := by omega
    rcases hc with rfl | rfl | rfl | rfl | rfl | rfl | rfl | rfl | rfl
    all_goals
      injection h with h
      subst h
      rfl
  nl := rfl
  dur := rfl
  vars := rfl
  stack := rfl
  next := rfl
  stopped := rfl
  asked := rfl
  sent := rfl
  acts := rfl
theorem sz_mach : (Try.prog.info? 78).map (·.size) = some 42 := by kernel_rfl
set_option maxHeartbeats 4000000 in
set_option maxRecDepth 100000 in
theorem vmRun_c (C : Array Value) (b mb n : Nat) (d : Int) (hC : PrC C (.slice (some ⟨b, 0, none⟩) 14 14)) (w : World) (hb : w.heap[b]? = some (.cells (VM.codeC (VM.busy n d)).toArray 71 (0, 0))) (hm : w.heap[mb]? = some (.cells #[.int .i64 0] 3 (0, 0))) (hn : n ≤ 30) :
    Calls Try.prog 29 #[.agg C, .int .i64 0, .agg #[.slice (some ⟨mb, 0, none⟩) 1 1, .int .i64 0, .int .i64 2, .int .i64 0, .int .i64 0, .int .i64 0, .int .i64 0, .int .i64 0, .int .i64 0, .int .i64 0], .func (.func 30) #[] #[]] w fun e w' => (∃ v, e = .returned v ∧ RunIs w.heap.size n w' v) ∧ Below w.heap.size w w' := by
  have hmf : ∀ (fn : Fn) (first cap : Array Value) (w : World), (Instr.makeFunc fn first cap).run Try.prog w = .ok (.func fn first cap) w := fun _ _ _ _ => rfl
  obtain ⟨U, hU⟩ : ∃ U, ((w.alloc (.cells C 53)).alloc (.cells #[.slice (some ⟨mb, 0, none⟩) 1 1, .int .i64 0, .int .i64 2, .int .i64 0, .int .i64 0, .int .i64 0, .int .i64 0, .int .i64 0, .int .i64 0, .int .i64 0] 61)).alloc (.cells #[.slice none 0 0, .slice none 0 0, .int .i64 0, .bool false, .slice none 0 0] 58) = U := ⟨_, rfl⟩
  have hbU : Below w.heap.size w U := hU ▸ ((((Below.refl _ _).alloc (Nat.le_refl _) _).alloc (by simp) _).alloc (by simp; omega) _)
  have hzU : U.heap.size = w.heap.size + 3 := by rw [← hU]; simp
  have k0 : U.heap[w.heap.size]? = some (.cells C 53 (0, 0)) := by rw [← hU, Below.heap_alloc _ _ _ (by simp; omega), Below.heap_alloc _ _ _ (by simp)]; exact dk_new_at rfl
  have k1 : U.heap[w.heap.size + 1]? = some (.cells #[.slice (some ⟨mb, 0, none⟩) 1 1, .int .i64 0, .int .i64 2, .int .i64 0, .int .i64 0, .int .i64 0, .int .i64 0, .int .i64 0, .int .i64 0, .int .i64 0] 61 (0, 0)) := by rw [← hU, Below.heap_alloc _ _ _ (by simp)]; exact dk_new_at (by simp)
  have k2 : U.heap[w.heap.size + 2]? = some (.cells #[.slice none 0 0, .slice none 0 0, .int .i64 0, .bool false, .slice none 0 0] 58 (0, 0)) := by rw [← hU]; exact dk_new_at (by simp)
  have HC := Lib.hid (clone_c (w := U) mb 0 ((hbU.block mb (blk_lt hm)).trans hm))
  have HZ := Lib.hid hzU
  have H0 := Lib.hid (And.intro k0 (And.intro k1 (And.intro k2 (And.intro hbU ((hbU.block b (blk_lt hb)).trans hb)))))
  have HP := Lib.hid hC
  have ci := cell_of_row _ _ 0 _ _ (0, 0) k1
  simp at ci
  clear hbU k0 k1 k2 hb hm hC
  go_enter_defers Try.func29, Try.ntmps29
  go_upto_region 3 with (go_at_call 40; refine HC.out.mono ?_; rintro e w1 ⟨⟨V, vc, rfl, ho1⟩, hb1⟩; have H1 := Lib.hid (And.intro ho1 hb1); clear ho1 hb1)
  have hq0 := (H1.out.2.block _ (blk_lt H0.out.1)).trans H0.out.1
  have hq1 := (H1.out.2.block _ (blk_lt H0.out.2.1)).trans H0.out.2.1
  have c0 : w1.cell? ⟨w.heap.size, 1, none⟩ = some (.int .i64 0) := (cell_of_row _ _ 1 _ _ (0, 0) hq0).trans HP.out.hand
  have HQ := Lib.hid (And.intro hq0 hq1)
  clear hq0 hq1
  go_upto_region 5 with fail
  refine RgX.tail 13 (fun i => (if i = 12 then 10 else 30 + i)) (fun ix_ => match ix_ with | 0 => .v (.agg #[.nilFunc, .func (.func 43) #[] #[], .func (.func 44) #[] #[], .func (.func 45) #[] #[], .func (.func 46) #[] #[], .func (.func 47) #[] #[], .func (.func 48) #[] #[], .func (.func 51) #[] #[], .func (.func 52) #[] #[], .func (.func 53) #[] #[], .func (.func 54) #[] #[], .func (.func 56) #[] #[], .func (.func 58) #[] #[], .func (.func 59) #[] #[], .func (.func 60) #[] #[], .func (.func 61) #[] #[], .func (.func 62) #[] #[], .func (.func 63) #[] #[], .func (.func 64) #[] #[], .func (.func 66) #[] #[], .func (.func 67) #[] #[], .func (.func 68) #[] #[], .func (.func 69) #[] #[], .func (.func 70) #[] #[]]) | 1 => .v (.func (.func 30) #[] #[]) | 2 => .v (.pointer (some ⟨w.heap.size + 1, 1, none⟩)) | 3 => .v (.agg #[.int .i64 0, .int .i64 2, .int .i64 0, .int .i64 0, .int .i64 0, .int .i64 0, .int .i64 0, .int .i64 0, .int .i64 0]) | 4 => .v (.pointer (some ⟨w.heap.size, 41, none⟩)) | 5 => .v (.int .i64 1) | 6 => .v (.slice V 1 vc) | 7 => .v (.int .i64 0) | 8 => .v (.pointer (some ⟨w.heap.size, 1, none⟩)) | 9 => .v (.pointer (some ⟨w.heap.size, 1, none⟩)) | 10 => .v (.int .i64 0) | 11 => .v ((.agg (machT (.slice V 1 vc)).toArray)) | 12 => .boxn (w1.heap.size) #[.nilFunc, .nilFunc, .nilFunc, .nilFunc, .nilFunc, .nilFunc, .nilFunc, .nilFunc, .nilFunc, .nilFunc, .nilFunc, .nilFunc, .nilFunc, .nilFunc, .nilFunc, .nilFunc, .nilFunc, .nilFunc, .nilFunc, .nilFunc, .nilFunc, .nilFunc, .nilFunc, .nilFunc, .nilFunc, .int .i64 0, .int .i64 0, .int .i64 0, .int .i64 0, .int .i64 0, .int .i64 0, .int .i64 0, .int .i64 0, .int .i64 0, .int .i64 0, .slice none 0 0, .slice none 0 0, .int .i64 0, .bool false, .int .i64 0, .int .i64 0, .slice none 0 0] 78 | _ => .any) _ (by kernel_rfl) rfl rfl (by kernel_rfl) (by kernel_rfl) (fun i hi => by show (if i = 12 then 10 else 30 + i) < 45; (repeat' split) <;> omega) (fun i j hi hj => by show (if i = 12 then 10 else 30 + i) = (if j = 12 then 10 else 30 + j) → i = j; (repeat' split) <;> omega) ?step ?fin
  case step =>
    intro L_ A_ w3 ix op_ hi hI ho hdep
    have hcase : ix = 0 ∨ ix = 1 ∨ ix = 2 ∨ ix = 3 ∨ ix = 4 ∨ ix = 5 ∨ ix = 6 ∨ ix = 7 ∨ ix = 8 ∨ ix = 9 ∨ ix = 10 ∨ ix = 11 ∨ ix = 12 := by omega
    have hh := hI.held
    clear hi
    rcases hcase with rfl | rfl | rfl | rfl | rfl | rfl | rfl | rfl | rfl | rfl | rfl | rfl | rfl
    · simp only [List.getElem?_toArray, List.getElem?_cons_zero, Option.some.injEq] at ho
      subst ho
      refine ⟨rfl, ?_⟩
      clear hI hdep
      exact .call rfl 41 #[] (by simp [go_sem]) ((effects_c w3).mono fun _ _ ⟨h1_, h2_⟩ => ⟨⟨_, h1_, rfl⟩, h2_⟩)
    · simp only [List.getElem?_toArray, List.getElem?_cons_succ, List.getElem?_cons_zero, Option.some.injEq] at ho
      subst ho
      refine ⟨rfl, ?_⟩
      have e3 : A_.tmps[3]?.getD undef = .func (.func 30) #[] #[] := by rw [hI.low 3 (by decide)]; rfl
      clear hI hdep
      exact .run rfl (.func (.func 30) #[] #[]) w3 (by simp [execOp, go_sem, Act.eval, e3]) (Below.refl _ _) rfl
    · simp only [List.getElem?_toArray, List.getElem?_cons_succ, List.getElem?_cons_zero, Option.some.injEq] at ho
      subst ho
      refine ⟨rfl, ?_⟩
      have e6 : A_.tmps[6]?.getD undef = .pointer (some ⟨w.heap.size + 1, 0, none⟩) := by rw [hI.low 6 (by decide)]; rfl
      clear hI hdep
      exact .run rfl (.pointer (some ⟨w.heap.size + 1, 1, none⟩)) w3 (by simp [execOp, go_sem, Act.eval, e6]) (Below.refl _ _) rfl
    · simp only [List.getElem?_toArray, List.getElem?_cons_succ, List.getElem?_cons_zero, Option.some.injEq] at ho
      subst ho
      refine ⟨rfl, ?_⟩
      have e32 : A_.tmps[32]?.getD undef = .pointer (some ⟨w.heap.size + 1, 1, none⟩) := getD_of (hI.val_ (i := 2) rfl rfl (by decide) (hdep ⟨2, .data⟩ (by simp) rfl))
      clear hI hdep
      have g0 := (hh.block _ (blk_lt HQ.out.1)).trans HQ.out.1; have d0 : w3.cell? ⟨w.heap.size, 1, none⟩ = some (.int .i64 0) := (cell_of_row _ _ 1 _ _ (0, 0) g0).trans HP.out.hand; have d1 : w3.cell? ⟨w.heap.size, 41, none⟩ = some (.int .i64 1) := (cell_of_row _ _ 41 _ _ (0, 0) g0).trans HP.out.dur; have g1 := (hh.block _ (blk_lt HQ.out.2)).trans HQ.out.2; have n1 := cell_of_row _ _ 1 _ _ (0, 0) g1; have n2 := cell_of_row _ _ 2 _ _ (0, 0) g1; have n3 := cell_of_row _ _ 3 _ _ (0, 0) g1; have n4 := cell_of_row _ _ 4 _ _ (0, 0) g1; have n5 := cell_of_row _ _ 5 _ _ (0, 0) g1; have n6 := cell_of_row _ _ 6 _ _ (0, 0) g1; have n7 := cell_of_row _ _ 7 _ _ (0, 0) g1; have n8 := cell_of_row _ _ 8 _ _ (0, 0) g1; have n9 := cell_of_row _ _ 9 _ _ (0, 0) g1; simp at n1 n2 n3 n4 n5 n6 n7 n8 n9
      exact .run rfl (.agg #[.int .i64 0, .int .i64 2, .int .i64 0, .int .i64 0, .int .i64 0, .int .i64 0, .int .i64 0, .int .i64 0, .int .i64 0]) w3 (by simp [execOp, go_sem, Act.eval, *]) (Below.refl _ _) rfl
    · simp only [List.getElem?_toArray, List.getElem?_cons_succ, List.getElem?_cons_zero, Option.some.injEq] at ho
      subst ho
      refine ⟨rfl, ?_⟩
      have e4 : A_.tmps[4]?.getD undef = .pointer (some ⟨w.heap.size, 0, none⟩) := by rw [hI.low 4 (by decide)]; rfl
      clear hI hdep
      exact .run rfl (.pointer (some ⟨w.heap.size, 41, none⟩)) w3 (by simp [execOp, go_sem, Act.eval, e4]) (Below.refl _ _) rfl
    · simp only [List.getElem?_toArray, List.getElem?_cons_succ, List.getElem?_cons_zero, Option.some.injEq] at ho
      subst ho
      refine ⟨rfl, ?_⟩
      have e34 : A_.tmps[34]?.getD undef = .pointer (some ⟨w.heap.size, 41, none⟩) := getD_of (hI.val_ (i := 4) rfl rfl (by decide) (hdep ⟨4, .data⟩ (by simp) rfl))
      clear hI hdep
      have g0 := (hh.block _ (blk_lt HQ.out.1)).trans HQ.out.1; have d0 : w3.cell? ⟨w.heap.size, 1, none⟩ = some (.int .i64 0) := (cell_of_row _ _ 1 _ _ (0, 0) g0).trans HP.out.hand; have d1 : w3.cell? ⟨w.heap.size, 41, none⟩ = some (.int .i64 1) := (cell_of_row _ _ 41 _ _ (0, 0) g0).trans HP.out.dur; have g1 := (hh.block _ (blk_lt HQ.out.2)).trans HQ.out.2; have n1 := cell_of_row _ _ 1 _ _ (0, 0) g1; have n2 := cell_of_row _ _ 2 _ _ (0, 0) g1; have n3 := cell_of_row _ _ 3 _ _ (0, 0) g1; have n4 := cell_of_row _ _ 4 _ _ (0, 0) g1; have n5 := cell_of_row _ _ 5 _ _ (0, 0) g1; have n6 := cell_of_row _ _ 6 _ _ (0, 0) g1; have n7 := cell_of_row _ _ 7 _ _ (0, 0) g1; have n8 := cell_of_row _ _ 8 _ _ (0, 0) g1; have n9 := cell_of_row _ _ 9 _ _ (0, 0) g1; simp at n1 n2 n3 n4 n5 n6 n7 n8 n9
      exact .run rfl (.int .i64 1) w3 (by simp [execOp, go_sem, Act.eval, *]) (Below.refl _ _) rfl
    · simp only [List.getElem?_toArray, List.getElem?_cons_succ, List.getElem?_cons_zero, Option.some.injEq] at ho
      subst ho
      refine ⟨rfl, ?_⟩
      have e9 : A_.tmps[9]?.getD undef = .slice V 1 vc := by rw [hI.low 9 (by decide)]; rfl
      clear hI hdep
      exact .run rfl (.slice V 1 vc) w3 (by simp [execOp, go_sem, Act.eval, e9]) (Below.refl _ _) rfl
    · simp only [List.getElem?_toArray, List.getElem?_cons_succ, List.getElem?_cons_zero, Option.some.injEq] at ho
      subst ho
      refine ⟨rfl, ?_⟩
      have e1 : A_.tmps[1]?.getD undef = .int .i64 0 := by rw [hI.low 1 (by decide)]; rfl
      clear hI hdep
      exact .run rfl (.int .i64 0) w3 (by simp [execOp, go_sem, Act.eval, e1]) (Below.refl _ _) rfl
    · simp only [List.getElem?_toArray, List.getElem?_cons_succ, List.getElem?_cons_zero, Option.some.injEq] at ho
      subst ho
      refine ⟨rfl, ?_⟩
      have e4 : A_.tmps[4]?.getD undef = .pointer (some ⟨w.heap.size, 0, none⟩) := by rw [hI.low 4 (by decide)]; rfl
      clear hI hdep
      exact .run rfl (.pointer (some ⟨w.heap.size, 1, none⟩)) w3 (by simp [execOp, go_sem, Act.eval, e4]) (Below.refl _ _) rfl
    · simp only [List.getElem?_toArray, List.getElem?_cons_succ, List.getElem?_cons_zero, Option.some.injEq] at ho
      subst ho
      refine ⟨rfl, ?_⟩
      have e37 : A_.tmps[37]?.getD undef = .int .i64 0 := getD_of (hI.val_ (i := 7) rfl rfl (by decide) (hdep ⟨7, .data⟩ (by simp) rfl))
      have e38 : A_.tmps[38]?.getD undef = .pointer (some ⟨w.heap.size, 1, none⟩) := getD_of (hI.val_ (i := 8) rfl rfl (by decide) (hdep ⟨8, .data⟩ (by simp) rfl))
      clear hI hdep
      exact .run rfl (.pointer (some ⟨w.heap.size, 1, none⟩)) w3 (by simp [execOp, go_sem, Act.eval, e37, e38]) (Below.refl _ _) rfl
    · simp only [List.getElem?_toArray, List.getElem?_cons_succ, List.getElem?_cons_zero, Option.some.injEq] at ho
      subst ho
      refine ⟨rfl, ?_⟩
      have e39 : A_.tmps[39]?.getD undef = .pointer (some ⟨w.heap.size, 1, none⟩) := getD_of (hI.val_ (i := 9) rfl rfl (by decide) (hdep ⟨9, .data⟩ (by simp) rfl))
      clear hI hdep
      have g0 := (hh.block _ (blk_lt HQ.out.1)).trans HQ.out.1; have d0 : w3.cell? ⟨w.heap.size, 1, none⟩ = some (.int .i64 0) := (cell_of_row _ _ 1 _ _ (0, 0) g0).trans HP.out.hand; have d1 : w3.cell? ⟨w.heap.size, 41, none⟩ = some (.int .i64 1) := (cell_of_row _ _ 41 _ _ (0, 0) g0).trans HP.out.dur; have g1 := (hh.block _ (blk_lt HQ.out.2)).trans HQ.out.2; have n1 := cell_of_row _ _ 1 _ _ (0, 0) g1; have n2 := cell_of_row _ _ 2 _ _ (0, 0) g1; have n3 := cell_of_row _ _ 3 _ _ (0, 0) g1; have n4 := cell_of_row _ _ 4 _ _ (0, 0) g1; have n5 := cell_of_row _ _ 5 _ _ (0, 0) g1; have n6 := cell_of_row _ _ 6 _ _ (0, 0) g1; have n7 := cell_of_row _ _ 7 _ _ (0, 0) g1; have n8 := cell_of_row _ _ 8 _ _ (0, 0) g1; have n9 := cell_of_row _ _ 9 _ _ (0, 0) g1; simp at n1 n2 n3 n4 n5 n6 n7 n8 n9
      exact .run rfl (.int .i64 0) w3 (by simp [execOp, go_sem, Act.eval, *]) (Below.refl _ _) rfl
    · simp only [List.getElem?_toArray, List.getElem?_cons_succ, List.getElem?_cons_zero, Option.some.injEq] at ho
      subst ho
      refine ⟨rfl, ?_⟩
      have e30 : A_.tmps[30]?.getD undef = .agg #[.nilFunc, .func (.func 43) #[] #[], .func (.func 44) #[] #[], .func (.func 45) #[] #[], .func (.func 46) #[] #[], .func (.func 47) #[] #[], .func (.func 48) #[] #[], .func (.func 51) #[] #[], .func (.func 52) #[] #[], .func (.func 53) #[] #[], .func (.func 54) #[] #[], .func (.func 56) #[] #[], .func (.func 58) #[] #[], .func (.func 59) #[] #[], .func (.func 60) #[] #[], .func (.func 61) #[] #[], .func (.func 62) #[] #[], .func (.func 63) #[] #[], .func (.func 64) #[] #[], .func (.func 66) #[] #[], .func (.func 67) #[] #[], .func (.func 68) #[] #[], .func (.func 69) #[] #[], .func (.func 70) #[] #[]] := getD_of (hI.val_ (i := 0) rfl rfl (by decide) (hdep ⟨0, .data⟩ (by simp) rfl))
      have e31 : A_.tmps[31]?.getD undef = .func (.func 30) #[] #[] := getD_of (hI.val_ (i := 1) rfl rfl (by decide) (hdep ⟨1, .data⟩ (by simp) rfl))
      have e33 : A_.tmps[33]?.getD undef = .agg #[.int .i64 0, .int .i64 2, .int .i64 0, .int .i64 0, .int .i64 0, .int .i64 0, .int .i64 0, .int .i64 0, .int .i64 0] := getD_of (hI.val_ (i := 3) rfl rfl (by decide) (hdep ⟨3, .data⟩ (by simp) rfl))
      have e35 : A_.tmps[35]?.getD undef = .int .i64 1 := getD_of (hI.val_ (i := 5) rfl rfl (by decide) (hdep ⟨5, .data⟩ (by simp) rfl))
      have e36 : A_.tmps[36]?.getD undef = .slice V 1 vc := getD_of (hI.val_ (i := 6) rfl rfl (by decide) (hdep ⟨6, .data⟩ (by simp) rfl))
      have e40 : A_.tmps[40]?.getD undef = .int .i64 0 := getD_of (hI.val_ (i := 10) rfl rfl (by decide) (hdep ⟨10, .data⟩ (by simp) rfl))
      clear hI hdep
      exact .run rfl (.agg (machT (.slice V 1 vc)).toArray) w3 (Eq.trans (b := .ok (.value (.agg #[.nilFunc, .func (.func 43) #[] #[], .func (.func 44) #[] #[], .func (.func 45) #[] #[], .func (.func 46) #[] #[], .func (.func 47) #[] #[], .func (.func 48) #[] #[], .func (.func 51) #[] #[], .func (.func 52) #[] #[], .func (.func 53) #[] #[], .func (.func 54) #[] #[], .func (.func 56) #[] #[], .func (.func 58) #[] #[], .func (.func 59) #[] #[], .func (.func 60) #[] #[], .func (.func 61) #[] #[], .func (.func 62) #[] #[], .func (.func 63) #[] #[], .func (.func 64) #[] #[], .func (.func 66) #[] #[], .func (.func 67) #[] #[], .func (.func 68) #[] #[], .func (.func 69) #[] #[], .func (.func 70) #[] #[], .func (.func 30) #[] #[], .int .i64 0, .int .i64 2, .int .i64 0, .int .i64 0, .int .i64 0, .int .i64 0, .int .i64 0, .int .i64 0, .int .i64 0, .int .i64 1, .slice V 1 vc, .slice none 0 0, .int .i64 0, .bool false, .int .i64 0, .int .i64 0, .slice none 0 0])) w3) (by simp [execOp, go_sem, Act.eval, e30, e31, e33, e35, e36, e40]) rfl) (Below.refl _ _) rfl
    · simp only [List.getElem?_toArray, List.getElem?_cons_succ, List.getElem?_cons_zero, Option.some.injEq] at ho
      subst ho
      refine ⟨rfl, ?_⟩
      clear hI hdep
      exact .run rfl (.pointer (some ⟨w3.heap.size, 0, none⟩)) (w3.alloc (.cells #[.nilFunc, .nilFunc, .nilFunc, .nilFunc, .nilFunc, .nilFunc, .nilFunc, .nilFunc, .nilFunc, .nilFunc, .nilFunc, .nilFunc, .nilFunc, .nilFunc, .nilFunc, .nilFunc, .nilFunc, .nilFunc, .nilFunc, .nilFunc, .nilFunc, .nilFunc, .nilFunc, .nilFunc, .nilFunc, .int .i64 0, .int .i64 0, .int .i64 0, .int .i64 0, .int .i64 0, .int .i64 0, .int .i64 0, .int .i64 0, .int .i64 0, .int .i64 0, .slice none 0 0, .slice none 0 0, .int .i64 0, .bool false, .int .i64 0, .int .i64 0, .slice none 0 0] 78)) (by simp [execOp, go_sem]) ((Below.refl _ _).alloc (Nat.le_refl _) _) ⟨_, rfl, heap_alloc_new _ _, hh.size⟩
  case fin =>
  intro A_ w3 hs hd hlow hS hok
  obtain ⟨_, hy10, g10, rfl, r10, l10⟩ := hok 12 10 _ (by decide) rfl rfl
  obtain rfl : A_ = ⟨#[.agg C, .int .i64 0, .agg #[.slice (some ⟨mb, 0, none⟩) 1 1, .int .i64 0, .int .i64 2, .int .i64 0, .int .i64 0, .int .i64 0, .int .i64 0, .int .i64 0, .int .i64 0, .int .i64 0], .func (.func 30) #[] #[], .pointer (some ⟨w.heap.size, 0, none⟩), undef, .pointer (some ⟨w.heap.size + 1, 0, none⟩), undef, .pointer (some ⟨w.heap.size + 1 + 1, 0, none⟩), .slice V 1 vc, .pointer (some ⟨g10, 0, none⟩), .func (.func 39) #[] #[.pointer (some ⟨w.heap.size + 1 + 1, 0, none⟩)], .pointer (some ⟨w.heap.size + 1, 0, none⟩), .slice (some ⟨mb, 0, none⟩) 1 1, .slice V 1 vc, .int .i64 0, .bool false, .bool false, .int .i64 0, .bool false, .bool false, .bool false, .int .i64 0, .pointer (some ⟨w.heap.size, 1, none⟩), .pointer (some ⟨w.heap.size, 1, none⟩), .int .i64 0, .bool false, .bool false, undef, undef, .agg #[.nilFunc, .func (.func 43) #[] #[], .func (.func 44) #[] #[], .func (.func 45) #[] #[], .func (.func 46) #[] #[], .func (.func 47) #[] #[], .func (.func 48) #[] #[], .func (.func 51) #[] #[], .func (.func 52) #[] #[], .func (.func 53) #[] #[], .func (.func 54) #[] #[], .func (.func 56) #[] #[], .func (.func 58) #[] #[], .func (.func 59) #[] #[], .func (.func 60) #[] #[], .func (.func 61) #[] #[], .func (.func 62) #[] #[], .func (.func 63) #[] #[], .func (.func 64) #[] #[], .func (.func 66) #[] #[], .func (.func 67) #[] #[], .func (.func 68) #[] #[], .func (.func 69) #[] #[], .func (.func 70) #[] #[]], .func (.func 30) #[] #[], .pointer (some ⟨w.heap.size + 1, 1, none⟩), .agg #[.int .i64 0, .int .i64 2, .int .i64 0, .int .i64 0, .int .i64 0, .int .i64 0, .int .i64 0, .int .i64 0, .int .i64 0], .pointer (some ⟨w.heap.size, 41, none⟩), .int .i64 1, .slice V 1 vc, .int .i64 0, .pointer (some ⟨w.heap.size, 1, none⟩), .pointer (some ⟨w.heap.size, 1, none⟩), .int .i64 0, (.agg (machT (.slice V 1 vc)).toArray), undef, undef, undef], [{ target := Target.fn (Fn.func 39) #[.pointer (some ⟨w.heap.size + 1 + 1, 0, none⟩)], args := #[] }]⟩ := act_ext hd hs (fun j hj => match j, hj with | 0, _ => (hlow 0 (by decide)).trans rfl | 1, _ => (hlow 1 (by decide)).trans rfl | 2, _ => (hlow 2 (by decide)).trans rfl | 3, _ => (hlow 3 (by decide)).trans rfl | 4, _ => (hlow 4 (by decide)).trans rfl | 5, _ => (hlow 5 (by decide)).trans rfl | 6, _ => (hlow 6 (by decide)).trans rfl | 7, _ => (hlow 7 (by decide)).trans rfl | 8, _ => (hlow 8 (by decide)).trans rfl | 9, _ => (hlow 9 (by decide)).trans rfl | 10, _ => hy10 | 11, _ => (hlow 11 (by decide)).trans rfl | 12, _ => (hlow 12 (by decide)).trans rfl | 13, _ => (hlow 13 (by decide)).trans rfl | 14, _ => (hlow 14 (by decide)).trans rfl | 15, _ => (hlow 15 (by decide)).trans rfl | 16, _ => (hlow 16 (by decide)).trans rfl | 17, _ => (hlow 17 (by decide)).trans rfl | 18, _ => (hlow 18 (by decide)).trans rfl | 19, _ => (hlow 19 (by decide)).trans rfl | 20, _ => (hlow 20 (by decide)).trans rfl | 21, _ => (hlow 21 (by decide)).trans rfl | 22, _ => (hlow 22 (by decide)).trans rfl | 23, _ => (hlow 23 (by decide)).trans rfl | 24, _ => (hlow 24 (by decide)).trans rfl | 25, _ => (hlow 25 (by decide)).trans rfl | 26, _ => (hlow 26 (by decide)).trans rfl | 27, _ => (hlow 27 (by decide)).trans rfl | 28, _ => (hlow 28 (by decide)).trans rfl | 29, _ => (hlow 29 (by decide)).trans rfl | 30, _ => RgX.val_at (hok 0 30 _ (by decide) rfl rfl) | 31, _ => RgX.val_at (hok 1 31 _ (by decide) rfl rfl) | 32, _ => RgX.val_at (hok 2 32 _ (by decide) rfl rfl) | 33, _ => RgX.val_at (hok 3 33 _ (by decide) rfl rfl) | 34, _ => RgX.val_at (hok 4 34 _ (by decide) rfl rfl) | 35, _ => RgX.val_at (hok 5 35 _ (by decide) rfl rfl) | 36, _ => RgX.val_at (hok 6 36 _ (by decide) rfl rfl) | 37, _ => RgX.val_at (hok 7 37 _ (by decide) rfl rfl) | 38, _ => RgX.val_at (hok 8 38 _ (by decide) rfl rfl) | 39, _ => RgX.val_at (hok 9 39 _ (by decide) rfl rfl) | 40, _ => RgX.val_at (hok 10 40 _ (by decide) rfl rfl) | 41, _ => RgX.val_at (hok 11 41 _ (by decide) rfl rfl) | 42, _ => (hlow 42 (by decide)).trans rfl | 43, _ => (hlow 43 (by decide)).trans rfl | 44, _ => (hlow 44 (by decide)).trans rfl | n + 45, h => absurd h (by show ¬ n + 45 < 45; omega))
  clear hs hd hlow hok hy10
  have hS2 : Below w.heap.size w w3 := (H0.out.2.2.2.1.trans (H1.out.2.mono (by omega))).trans (hS.mono (by have := H1.out.2.size; omega))
  have hBg : w.heap.size ≤ g10 := by have := H1.out.2.size; omega
  have HT := Lib.hid (And.intro (show (Try.prog.info? 78).map (·.size) = some (Value.agg (machT (.slice V 1 vc)).toArray).cells.size from sz_mach) (And.intro (show 0 + (Value.agg (machT (.slice V 1 vc)).toArray).cells.size ≤ (#[.nilFunc, .nilFunc, .nilFunc, .nilFunc, .nilFunc, .nilFunc, .nilFunc, .nilFunc, .nilFunc, .nilFunc, .nilFunc, .nilFunc, .nilFunc, .nilFunc, .nilFunc, .nilFunc, .nilFunc, .nilFunc, .nilFunc, .nilFunc, .nilFunc, .nilFunc, .nilFunc, .nilFunc, .nilFunc, .int .i64 0, .int .i64 0, .int .i64 0, .int .i64 0, .int .i64 0, .int .i64 0, .int .i64 0, .int .i64 0, .int .i64 0, .int .i64 0, .slice none 0 0, .slice none 0 0, .int .i64 0, .bool false, .int .i64 0, .int .i64 0, .slice none 0 0] : Array Value).size by show 0 + 42 ≤ 42; omega) (And.intro (show (Value.agg (machT (.slice V 1 vc)).toArray).cells.all (·.oneCell') = true by kernel_rfl) (show (machT (.slice V 1 vc)).toArray = ((#[.nilFunc, .nilFunc, .nilFunc, .nilFunc, .nilFunc, .nilFunc, .nilFunc, .nilFunc, .nilFunc, .nilFunc, .nilFunc, .nilFunc, .nilFunc, .nilFunc, .nilFunc, .nilFunc, .nilFunc, .nilFunc, .nilFunc, .nilFunc, .nilFunc, .nilFunc, .nilFunc, .nilFunc, .nilFunc, .int .i64 0, .int .i64 0, .int .i64 0, .int .i64 0, .int .i64 0, .int .i64 0, .int .i64 0, .int .i64 0, .int .i64 0, .int .i64 0, .slice none 0 0, .slice none 0 0, .int .i64 0, .bool false, .int .i64 0, .int .i64 0, .slice none 0 0] : Array Value).toList.take 0 ++ (Value.agg (machT (.slice V 1 vc)).toArray).cells.toList ++ (#[.nilFunc, .nilFunc, .nilFunc, .nilFunc, .nilFunc, .nilFunc, .nilFunc, .nilFunc, .nilFunc, .nilFunc, .nilFunc, .nilFunc, .nilFunc, .nilFunc, .nilFunc, .nilFunc, .nilFunc, .nilFunc, .nilFunc, .nilFunc, .nilFunc, .nilFunc, .nilFunc, .nilFunc, .nilFunc, .int .i64 0, .int .i64 0, .int .i64 0, .int .i64 0, .int .i64 0, .int .i64 0, .int .i64 0, .int .i64 0, .int .i64 0, .int .i64 0, .slice none 0 0, .slice none 0 0, .int .i64 0, .bool false, .int .i64 0, .int .i64 0, .slice none 0 0] : Array Value).toList.drop (0 + (Value.agg (machT (.slice V 1 vc)).toArray).cells.size)).toArray by kernel_rfl))))
  refine RgX.wpList_store_seg rfl 78 _ _ rfl g10 0 (.agg (machT (.slice V 1 vc)).toArray) rfl rfl 78 #[.nilFunc, .nilFunc, .nilFunc, .nilFunc, .nilFunc, .nilFunc, .nilFunc, .nilFunc, .nilFunc, .nilFunc, .nilFunc, .nilFunc, .nilFunc, .nilFunc, .nilFunc, .nilFunc, .nilFunc, .nilFunc, .nilFunc, .nilFunc, .nilFunc, .nilFunc, .nilFunc, .nilFunc, .nilFunc, .int .i64 0, .int .i64 0, .int .i64 0, .int .i64 0, .int .i64 0, .int .i64 0, .int .i64 0, .int .i64 0, .int .i64 0, .int .i64 0, .slice none 0 0, .slice none 0 0, .int .i64 0, .bool false, .int .i64 0, .int .i64 0, .slice none 0 0] r10 HT.out.1 HT.out.2.1 HT.out.2.2.1 (machT (.slice V 1 vc)).toArray HT.out.2.2.2 ?_
  intro u4 m4 o4 z4 b4
  have hw1 := H1.out.2.size
  have hz := HZ.out
  have q0 := (o4 _ (show w.heap.size ≠ g10 by omega)).trans ((hS.block _ (blk_lt HQ.out.1)).trans HQ.out.1)
  have q2 := (o4 _ (show w.heap.size + 2 ≠ g10 by omega)).trans ((hS.block _ (by omega)).trans ((H1.out.2.block _ (blk_lt H0.out.2.2.1)).trans H0.out.2.2.1))
  have qb := (o4 b (show b ≠ g10 from fun e => by have := blk_lt H0.out.2.2.2.2; omega)).trans ((hS.block b (by have := blk_lt H0.out.2.2.2.2; omega)).trans ((H1.out.2.block b (blk_lt H0.out.2.2.2.2)).trans H0.out.2.2.2.2))
  have ho1 := dk_own_keep H1.out.1 hS
  have ho4 := own_less (own_other' ho1 o4 (fun e => by have := World.ownsRow.lt ho1 g10 e; have h5 := H1.out.1; have := World.ownsRow.lt h5 g10 e; omega)) (show w.heap.size + 3 ≤ U.heap.size by omega)
  have hBg3 : w.heap.size + 3 ≤ g10 := by omega
  have hM : MAt busyF (w.heap.size + 3) u4 g10 busyS := ⟨(machT (.slice V 1 vc)).toArray, V, none, none, vc, 0, 0, m4, machT_at _, ho4, ⟨rfl, .inl ⟨rfl, rfl⟩⟩, ⟨rfl, .inl ⟨rfl, rfl⟩⟩, hBg3, fun b hb hc => by cases hc⟩
  have hB4 : w.heap.size + 3 ≤ u4.heap.size := by have := hS.size; omega
  have c0 : u4.cell? ⟨w.heap.size, 0, none⟩ = some (.slice (some ⟨b, 0, none⟩) 14 14) := (cell_of_row _ _ 0 _ _ (0, 0) q0).trans HP.out.code
  have HRUN := Lib.hid (run_c (lim := 2) hM hB4 rfl rfl rfl hn (⟨0, 0, by omega, by omega, rfl, rfl, rfl, rfl, by simp [busyS], by simp [busyS], by simp [busyS], rfl, .inl ⟨by omega, by omega⟩⟩ : VM.Inv n d 0 busyS) qb)
  have H4 := Lib.hid (And.intro q2 (hS2.trans (b4.mono hBg)))
  clear m4 o4 z4 b4 q0 q2 qb ho1 ho4 hM hB4 hS2 hBg hBg3 hS hw1 hz HT r10 l10
  go_wp2_with (first | (go_at_call 42; refine HRUN.out.mono ?_; rintro e w5 ⟨⟨v, rfl, hR⟩, hb5⟩; obtain ⟨V5, A5, D5, vc5, ac5, m5, dc5, st5, acts5, rfl, o51, o52, hw5, hl5⟩ := hR; have H5 := Lib.hid (And.intro ((hb5.block (w.heap.size + 2) (by omega)).trans H4.out.1) (And.intro o51 (And.intro o52 (And.intro hw5 (And.intro hl5 (H4.out.2.trans (hb5.mono (by omega)))))))); clear o51 o52 hw5 hl5 hb5) | (refine RgX.wpList_store_seg rfl 58 _ _ rfl (w.heap.size + 1 + 1) 0 (.agg #[.slice V5 1 vc5, .slice A5 acts5.length ac5, .int .i64 st5, .bool false, .slice D5 m5 dc5]) rfl rfl 58 _ H5.out.1 vm_sz_out (by show 0 + 5 ≤ 5; omega) (by simp [Value.cells, Value.oneCell']) #[.slice V5 1 vc5, .slice A5 acts5.length ac5, .int .i64 st5, .bool false, .slice D5 m5 dc5] rfl ?_; intro u6 m6 o6 z6 b6))
  have o51 := own_other' H5.out.2.1 o6 (ne_ty H5.out.2.1 H5.out.1 (by decide))
  have o52 := own_other' H5.out.2.2.1 o6 (ne_ty H5.out.2.2.1 H5.out.1 (by decide))
  have HX := Lib.hid (show RunIs w.heap.size n u6 (.agg #[.slice V5 1 vc5, .slice A5 acts5.length ac5, .int .i64 st5, .bool false, .slice D5 m5 dc5]) from ⟨V5, A5, D5, vc5, ac5, m5, dc5, st5, acts5, rfl, own_less o51 (by omega), own_less o52 (by omega), H5.out.2.2.2.1, H5.out.2.2.2.2.1⟩)
  have hbl : Below w.heap.size w u6 := H5.out.2.2.2.2.2.trans (b6.mono (by omega))
  refine leaves_cons (f := 39) (args := #[.pointer (some ⟨w.heap.size + 1 + 1, 0, none⟩)]) (by simp) (by simp [go_sem]) ?_
  refine (vm_idle ⟨w.heap.size + 1 + 1, 0, none⟩ _).mono ?_
  rintro e u' w7 ⟨rfl, rfl, rfl⟩
  show Leaves _ _ _ _ [] (settle _) u6
  simp only [settle]
  exact ⟨_, results_cell_row rfl _ u6 (w.heap.size + 1 + 1) _ #[.slice V5 1 vc5, .slice A5 acts5.length ac5, .int .i64 st5, .bool false, .slice D5 m5 dc5] (0, 0) _ rfl m6 Try.underlying58 rfl vm_sz_out, ⟨_, rfl, HX.out⟩, hbl⟩
end Go.Proofs.Ytgdefhlcgmibcaa
