/-
  What is written of an event; which events fit their layout. No condition.
-/
import Derived.Test.YtggallpnbbidfaaGreatDoorNmQ
namespace Go.Proofs.YtggallpnbbidfaaGreatDoor
open Go Go.RowKit Go.Proofs
attribute [local go_sem] Oper.semAt_some

theorem three_boxes (w : World) (A B C : Obj) : Below w.heap.size w (((w.alloc A).alloc B).alloc C) := (((Below.refl _ _).alloc (Nat.le_refl _) _).alloc (by simp) _).alloc (by simp; omega) _
set_option maxHeartbeats 2000000 in
set_option maxRecDepth 100000 in
theorem written_gen (x : ByteArray) (b1 b2 : Bool) (k n a c h t i p : Int) (w : World) : Calls Tryz.prog 53 #[.agg #[.string x, .bool b1, .bool b2], .agg #[.int .i64 k, .int .i64 n, .int .i64 a, .int .i64 c, .int .i64 h, .int .i64 t, .int .i64 i, .int .i64 p]] w fun e w' =>
    e = .returned (evV ⟨k, n, if b1 then a else 0, if b2 then ⟨c, h, t, i, p⟩ else NM.m0⟩) ∧ Below w.heap.size w w' := by
  cases b1 <;> cases b2
  · go_enter Tryz.func53, Tryz.ntmps53
    go_wp2
    exact bodyPost_ret (v := evV ⟨k, n, 0, NM.m0⟩) (by simp [results, Tryz.results53, go_sem, NM.m0]) rfl ⟨rfl, three_boxes _ _ _ _⟩
  · go_enter Tryz.func53, Tryz.ntmps53
    go_wp2
    exact bodyPost_ret (v := evV ⟨k, n, 0, ⟨c, _, t, i, p⟩⟩) (by simp [results, Tryz.results53, go_sem]) rfl ⟨rfl, three_boxes _ _ _ _⟩
  · go_enter Tryz.func53, Tryz.ntmps53
    go_wp2
    exact bodyPost_ret (v := evV ⟨k, n, a, NM.m0⟩) (by simp [results, Tryz.results53, go_sem, NM.m0]) rfl ⟨rfl, three_boxes _ _ _ _⟩
  · go_enter Tryz.func53, Tryz.ntmps53
    go_wp2
    exact bodyPost_ret (v := evV ⟨k, n, a, ⟨c, _, t, i, p⟩⟩) (by simp [results, Tryz.results53, go_sem]) rfl ⟨rfl, three_boxes _ _ _ _⟩
theorem written_any (k : Int) (e : NM.Ev) (w : World) : Calls Tryz.prog 53 #[laV k, evV e] w fun x w' => x = .returned (evV (NM.written k e)) ∧ Below w.heap.size w w' := by
  obtain ⟨k', n, a, c, h, t, i, p⟩ := e
  exact written_gen (NM.bs (NM.word k)) (NM.argK k) (NM.msgK k) k' n a c h t i p w
end Go.Proofs.YtggallpnbbidfaaGreatDoor
