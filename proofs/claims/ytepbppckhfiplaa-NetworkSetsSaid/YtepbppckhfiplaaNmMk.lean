/-
  The reference's key of a message.
-/
import Derived.Test.YtepbppckhfiplaaNmDa
namespace Go.Proofs.Ytepbppckhfiplaa
open Go Go.RowKit Go.Proofs
attribute [local go_sem] Oper.semAt_some

theorem msgKey_any (c h t i p : Int) (w : World) : Calls Try.prog 40 #[.agg #[.int .i64 c, .int .i64 h, .int .i64 t, .int .i64 i, .int .i64 p]] w fun e w' => (∃ g, e = .returned (.slice (some ⟨g, 0, none⟩) 5 5) ∧ w'.heap[g]? = some (.cells #[.int .i64 c, .int .i64 h, .int .i64 t, .int .i64 i, .int .i64 p] 3 (0, 0))) ∧ Below w.heap.size w w' := by
  obtain ⟨U, hU⟩ : ∃ U, w.alloc (.cells #[.int .i64 c, .int .i64 h, .int .i64 t, .int .i64 i, .int .i64 p] 26) = U := ⟨_, rfl⟩
  have hb : Below w.heap.size w U := hU ▸ one_box w _
  have k1 : U.heap[w.heap.size]? = some (.cells #[.int .i64 c, .int .i64 h, .int .i64 t, .int .i64 i, .int .i64 p] 26 (0, 0)) := by rw [← hU]; exact new_at rfl
  obtain ⟨a0, a1, a2, a3, a4⟩ := row5 k1
  have HB := Lib.hid hb
  clear k1 hb
  go_enter Try.func40, Try.ntmps40
  go_wp2_with fail
  go_ret
  exact ⟨⟨U.heap.size, rfl, new_at rfl⟩, HB.out.trans ((one_box U _).mono HB.out.size)⟩
end Go.Proofs.Ytepbppckhfiplaa
