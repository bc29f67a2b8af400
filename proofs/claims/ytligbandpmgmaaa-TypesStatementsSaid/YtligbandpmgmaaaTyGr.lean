/-
  slices.Grow of no slice; a slice of strings of its own. No condition.
-/
import Derived.Test.YtligbandpmgmaaaTySq
import Derived.Lib.AppendZeros
namespace Go.Proofs.Ytligbandpmgmaaa
open Go Go.RowKit Go.Proofs Go.Shelf
attribute [local go_sem] Oper.semAt_some

theorem wpList_append_run {ops : Array Oper} {rest : List Oper} {o : Oper} {a : Act} {W : World} {Q : Exit → Act → World → Prop} (hgd : o.guard = none) (s x : Operand) (t tn : TypeId) (ho : o.op = .call { callee := .builtin .append, args := #[s, x], argTypes := #[t, tn] }) (vs vx : Value) (hs : a.eval s = vs) (hx : a.eval x = vx) (v' : Value) (w' : World) (hr : ∀ ty, (Builtin.append_ #[t, tn] ty #[vs, vx]).run Try.prog W = .ok v' w') (h : wpList Try.prog ops Q rest (a.put o.dst v') w') : wpList Try.prog ops Q (o :: rest) a W := by
  refine wpList_plain hgd fun _ hK => ?_
  unfold Oper.wp execOp
  simp only [ho, resolve, invoke, builtin, Sem.run_bind, Sem.run_pure, Result.andThen_ok, List.map_toArray, List.map_cons, List.map_nil, hs, hx, hr]
  exact hK _ _ h
set_option maxHeartbeats 2000000 in
theorem grow_any (n : Nat) (hn : n ≤ 100000) (W : World) : Calls Try.prog 31 #[.slice none 0 0, .int .i64 (n : Int)] W fun e w' => ∃ A c, e = .returned (.slice A 0 c) ∧ w'.ownsRow W.heap.size 9 1 (.slice A 0 c) 0 [] ∧ Below W.heap.size W w' := by
  by_cases h0 : n = 0
  · subst h0
    go_enter Try.func31, Try.ntmps31
    go_wp2_with fail
    go_ret
    exact ⟨_, _, rfl, World.ownsRow_nil _ _ _ _, Below.refl _ _⟩
  · obtain ⟨i0, hi, hz0, hz1, hz2⟩ := info_parts info_str
    have hap := fun ty => Lib.run_append_nil_zeros (P := Try.prog) W 33 3 ty 9 i0 (.string ⟨#[]⟩) .i64 .i64 Try.underlying33 Try.underlying3 hi hz0 n (by omega) (by rw [hz1]; decide) (by omega) (by rw [hz2]; omega)
    obtain ⟨cap, hcap⟩ : ∃ c, grownCap W n 0 9 = c := ⟨_, rfl⟩
    have hg1 : n ≤ cap := by rw [← hcap]; exact grownCap_ge W n 0 _
    have hg2 : cap ≤ maxLen := by rw [← hcap]; exact grownCap_le_maxLen W n 0 _ (by simp only [maxLen]; omega)
    rw [hcap] at hap
    obtain ⟨C, hC⟩ : ∃ C, Builtin.zeroCells (Value.string ⟨#[]⟩).cells n ++ Builtin.zeroCells (Value.string ⟨#[]⟩).cells (cap - n) = C := ⟨_, rfl⟩
    rw [hC] at hap
    have hCs : C.size = cap * 1 := by rw [← hC, Array.size_append, size_zeroCells, size_zeroCells]; simp [Value.cells]; omega
    have HO := Lib.hid (World.ownsRow_made (base := W.heap.size) (e := 9) (size := 1) W.drew C cap (Nat.le_refl _) hg2 hCs)
    have HB := Lib.hid (show Below W.heap.size W (W.drew.alloc (.cells C 9)) from (Below.refl _ _).drew.alloc (Nat.le_refl _) _)
    have hn0 : 0 < n := by omega
    have HAP := Lib.hid hap
    clear hC hCs hcap h0 hi hz0 hz1 hz2 hap
    go_enter Try.func31, Try.ntmps31
    go_wp2_with (at_builtin; refine wpList_append_run rfl _ _ 33 3 rfl _ _ rfl rfl _ _ HAP.out ?_)
    go_ret
    exact ⟨_, _, rfl, HO.out, HB.out⟩
end Go.Proofs.Ytligbandpmgmaaa
