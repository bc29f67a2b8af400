/-
  The walk of NamesEvents: CompareEvent and CompareQuestion order as the document's keys do. Condition: the listed tables and variables stand (TN).
-/
import Derived.Test.YtggallpnbbidfaaDoorNmEk
import Derived.Test.YtggallpnbbidfaaDoorNmL
import Derived.Test.YtggallpnbbidfaaDoorNmKc
import Derived.Test.YtggallpnbbidfaaDoorNmAe
namespace Go.Proofs.YtggallpnbbidfaaDoor.LawNamesEvents
open Go Go.RowKit Go.Proofs Go.Proofs.YtggallpnbbidfaaDoor
attribute [local go_sem] Oper.semAt_some

theorem four_boxes (w : World) (A B C D : Obj) : ∃ U, (((w.alloc A).alloc B).alloc C).alloc D = U ∧ Below w.heap.size w U ∧ U.heap[w.heap.size]? = some A ∧ U.heap[w.heap.size + 1]? = some B ∧ U.heap[w.heap.size + 1 + 1]? = some C ∧ U.heap[w.heap.size + 1 + 1 + 1]? = some D ∧ U.heap.size = w.heap.size + 4 := by
  refine ⟨_, rfl, ((((Below.refl _ _).alloc (Nat.le_refl _) _).alloc (by simp) _).alloc (by simp; omega) _).alloc (by simp; omega) _, ?_, ?_, ?_, new_at (by simp), by simp⟩
  · rw [Below.heap_alloc _ _ _ (by simp <;> omega), Below.heap_alloc _ _ _ (by simp <;> omega), Below.heap_alloc _ _ _ (by simp)]
    exact new_at rfl
  · rw [Below.heap_alloc _ _ _ (by simp <;> omega), Below.heap_alloc _ _ _ (by simp)]
    exact new_at (by simp)
  · rw [Below.heap_alloc _ _ _ (by simp)]
    exact new_at (by simp)
theorem queKey_row (c h t k i : Int) (w : World) : Calls Tryd.prog 8 #[.agg #[.int .i64 c, .int .i64 h, .int .i64 t, .int .i64 k, .int .i64 i]] w fun e w' => (∃ v, e = .returned v ∧ (RgX.Sp.row #[.int .i64 c, .int .i64 h, .int .i64 t, .int .i64 k, .int .i64 i] 3 5).p w' v) ∧ Below w.heap.size w w' :=
  (queKey_any c h t k i w).mono fun _ _ ⟨⟨g, he, hg⟩, hb⟩ => ⟨⟨_, he, g, rfl, hg⟩, hb⟩
set_option maxHeartbeats 4000000 in
set_option maxRecDepth 100000 in
theorem walk_0 (k n a c h t i p k2 n2 a2 c2 h2 t2 i2 p2 qc qh qt qk qi qc2 qh2 qt2 qk2 qi2 at_ R1 R2 S1 S2 : Int) (w : World)
    (HA : Hid (∀ V, Calls Tryd.prog 5 #[.int .i64 at_, .int .i64 4] V fun e w' => e = .returned (.int .i64 0) ∧ V = w'))
    (HC1 : Hid (∀ V, Calls Tryd.prog 6 #[.agg #[.int .i64 k, .int .i64 n, .int .i64 a, .int .i64 c, .int .i64 h, .int .i64 t, .int .i64 i, .int .i64 p], .agg #[.int .i64 k2, .int .i64 n2, .int .i64 a2, .int .i64 c2, .int .i64 h2, .int .i64 t2, .int .i64 i2, .int .i64 p2]] V fun e w' => e = .returned (.int .i64 R1) ∧ Below V.heap.size V w'))
    (HC2 : Hid (∀ V, Calls Tryd.prog 6 #[.agg #[.int .i64 k, .int .i64 n, .int .i64 a, .int .i64 c, .int .i64 h, .int .i64 t, .int .i64 i, .int .i64 p], .agg #[.int .i64 k2, .int .i64 n, .int .i64 a, .int .i64 c, .int .i64 h, .int .i64 t, .int .i64 i, .int .i64 p]] V fun e w' => e = .returned (.int .i64 R2) ∧ Below V.heap.size V w'))
    (HR1 : Hid (∀ V, Calls Tryd.prog 7 #[.agg #[.int .i64 k, .int .i64 n, .int .i64 a, .int .i64 c, .int .i64 h, .int .i64 t, .int .i64 i, .int .i64 p], .agg #[.int .i64 k2, .int .i64 n2, .int .i64 a2, .int .i64 c2, .int .i64 h2, .int .i64 t2, .int .i64 i2, .int .i64 p2]] V fun e w' => e = .returned (.int .i64 R1) ∧ Below V.heap.size V w'))
    (HR2 : Hid (∀ V, Calls Tryd.prog 7 #[.agg #[.int .i64 k, .int .i64 n, .int .i64 a, .int .i64 c, .int .i64 h, .int .i64 t, .int .i64 i, .int .i64 p], .agg #[.int .i64 k2, .int .i64 n, .int .i64 a, .int .i64 c, .int .i64 h, .int .i64 t, .int .i64 i, .int .i64 p]] V fun e w' => e = .returned (.int .i64 R2) ∧ Below V.heap.size V w'))
    (HQ1 : Hid (∀ V, Calls Tryd.prog 9 #[.agg #[.int .i64 qc, .int .i64 qh, .int .i64 qt, .int .i64 qk, .int .i64 qi], .agg #[.int .i64 qc2, .int .i64 qh2, .int .i64 qt2, .int .i64 qk2, .int .i64 qi2]] V fun e w' => e = .returned (.int .i64 S1) ∧ Below V.heap.size V w'))
    (HQ2 : Hid (∀ V, Calls Tryd.prog 9 #[.agg #[.int .i64 qc, .int .i64 qh, .int .i64 qt, .int .i64 qk, .int .i64 qi], .agg #[.int .i64 qc, .int .i64 qh, .int .i64 qt, .int .i64 qk2, .int .i64 qi]] V fun e w' => e = .returned (.int .i64 S2) ∧ Below V.heap.size V w'))
    (HL1 : Hid (∀ (V : World) (g1 g2 : Nat), V.heap[g1]? = some (.cells #[.int .i64 qc, .int .i64 qh, .int .i64 qt, .int .i64 qk, .int .i64 qi] 3 (0, 0)) → V.heap[g2]? = some (.cells #[.int .i64 qc2, .int .i64 qh2, .int .i64 qt2, .int .i64 qk2, .int .i64 qi2] 3 (0, 0)) → Calls Tryd.prog 10 #[.slice (some ⟨g1, 0, none⟩) 5 5, .slice (some ⟨g2, 0, none⟩) 5 5] V fun e w' => e = .returned (.int .i64 S1) ∧ Below V.heap.size V w'))
    (HL2 : Hid (∀ (V : World) (g1 g2 : Nat), V.heap[g1]? = some (.cells #[.int .i64 qc, .int .i64 qh, .int .i64 qt, .int .i64 qk, .int .i64 qi] 3 (0, 0)) → V.heap[g2]? = some (.cells #[.int .i64 qc, .int .i64 qh, .int .i64 qt, .int .i64 qk2, .int .i64 qi] 3 (0, 0)) → Calls Tryd.prog 10 #[.slice (some ⟨g1, 0, none⟩) 5 5, .slice (some ⟨g2, 0, none⟩) 5 5] V fun e w' => e = .returned (.int .i64 S2) ∧ Below V.heap.size V w'))
    (HL : Hid (∀ V, Below w.heap.size w V → Calls Tryd.prog 11 #[] V fun e w' => e = .returned (.bool true) ∧ Below V.heap.size V w')) :
    Calls Tryd.prog 3 #[.agg #[.int .i64 k, .int .i64 n, .int .i64 a, .int .i64 c, .int .i64 h, .int .i64 t, .int .i64 i, .int .i64 p], .agg #[.int .i64 k2, .int .i64 n2, .int .i64 a2, .int .i64 c2, .int .i64 h2, .int .i64 t2, .int .i64 i2, .int .i64 p2], .agg #[.int .i64 qc, .int .i64 qh, .int .i64 qt, .int .i64 qk, .int .i64 qi], .agg #[.int .i64 qc2, .int .i64 qh2, .int .i64 qt2, .int .i64 qk2, .int .i64 qi2], .int .i64 at_] w fun e w' => e = .returned (.bool true) ∧ Below w.heap.size w w' := by
  obtain ⟨U, hU, hb0, ka, kb, kp, kq, hz⟩ := four_boxes w (.cells #[.int .i64 k, .int .i64 n, .int .i64 a, .int .i64 c, .int .i64 h, .int .i64 t, .int .i64 i, .int .i64 p] 27) (.cells #[.int .i64 k2, .int .i64 n2, .int .i64 a2, .int .i64 c2, .int .i64 h2, .int .i64 t2, .int .i64 i2, .int .i64 p2] 27) (.cells #[.int .i64 qc, .int .i64 qh, .int .i64 qt, .int .i64 qk, .int .i64 qi] 29) (.cells #[.int .i64 qc2, .int .i64 qh2, .int .i64 qt2, .int .i64 qk2, .int .i64 qi2] 29)
  obtain ⟨U5, hU5⟩ : ∃ V, U.alloc (.cells #[.int .i64 k, .int .i64 n, .int .i64 a, .int .i64 c, .int .i64 h, .int .i64 t, .int .i64 i, .int .i64 p] 27) = V := ⟨_, rfl⟩
  obtain ⟨U6, hU6⟩ : ∃ V, U5.alloc (.cells #[.int .i64 qc, .int .i64 qh, .int .i64 qt, .int .i64 qk, .int .i64 qi] 29) = V := ⟨_, rfl⟩
  have hb5 : Below U.heap.size U U5 := hU5 ▸ one_box U _
  have hb6 : Below U5.heap.size U5 U6 := hU6 ▸ one_box U5 _
  have hz5 : U5.heap.size = U.heap.size + 1 := by rw [← hU5]; simp
  have hz6 : U6.heap.size = U.heap.size + 2 := by rw [← hU6]; simp; omega
  have kc5 : U5.heap[U.heap.size]? = some (.cells #[.int .i64 k, .int .i64 n, .int .i64 a, .int .i64 c, .int .i64 h, .int .i64 t, .int .i64 i, .int .i64 p] 27 (0, 0)) := by rw [← hU5]; exact new_at rfl
  have ka5 := (hb5.block (w.heap.size) (by omega)).trans ka
  have kb5 := (hb5.block (w.heap.size + 1) (by omega)).trans kb
  have kp5 := (hb5.block (w.heap.size + 1 + 1) (by omega)).trans kp
  have kq5 := (hb5.block (w.heap.size + 1 + 1 + 1) (by omega)).trans kq
  have ka6 := (hb6.block (w.heap.size) (by omega)).trans ka5
  have kb6 := (hb6.block (w.heap.size + 1) (by omega)).trans kb5
  have kp6 := (hb6.block (w.heap.size + 1 + 1) (by omega)).trans kp5
  have kq6 := (hb6.block (w.heap.size + 1 + 1 + 1) (by omega)).trans kq5
  have kc6 := (hb6.block (U.heap.size) (by omega)).trans kc5
  have kd6 : U6.heap[U5.heap.size]? = some (.cells #[.int .i64 qc, .int .i64 qh, .int .i64 qt, .int .i64 qk, .int .i64 qi] 29 (0, 0)) := by rw [← hU6]; exact new_at rfl
  have ka7 : (U6.setCell ⟨U.heap.size, 0, none⟩ (.int .i64 k2)).heap[w.heap.size]? = some (.cells #[.int .i64 k, .int .i64 n, .int .i64 a, .int .i64 c, .int .i64 h, .int .i64 t, .int .i64 i, .int .i64 p] 27 (0, 0)) := (other_set (by omega)).trans ka6
  have kb7 : (U6.setCell ⟨U.heap.size, 0, none⟩ (.int .i64 k2)).heap[w.heap.size + 1]? = some (.cells #[.int .i64 k2, .int .i64 n2, .int .i64 a2, .int .i64 c2, .int .i64 h2, .int .i64 t2, .int .i64 i2, .int .i64 p2] 27 (0, 0)) := (other_set (by omega)).trans kb6
  have kp7 : (U6.setCell ⟨U.heap.size, 0, none⟩ (.int .i64 k2)).heap[w.heap.size + 1 + 1]? = some (.cells #[.int .i64 qc, .int .i64 qh, .int .i64 qt, .int .i64 qk, .int .i64 qi] 29 (0, 0)) := (other_set (by omega)).trans kp6
  have kq7 : (U6.setCell ⟨U.heap.size, 0, none⟩ (.int .i64 k2)).heap[w.heap.size + 1 + 1 + 1]? = some (.cells #[.int .i64 qc2, .int .i64 qh2, .int .i64 qt2, .int .i64 qk2, .int .i64 qi2] 29 (0, 0)) := (other_set (by omega)).trans kq6
  have kc7 : (U6.setCell ⟨U.heap.size, 0, none⟩ (.int .i64 k2)).heap[U.heap.size]? = some (.cells #[.int .i64 k2, .int .i64 n, .int .i64 a, .int .i64 c, .int .i64 h, .int .i64 t, .int .i64 i, .int .i64 p] 27 (0, 0)) := cell_set kc6
  have kd7 : (U6.setCell ⟨U.heap.size, 0, none⟩ (.int .i64 k2)).heap[U5.heap.size]? = some (.cells #[.int .i64 qc, .int .i64 qh, .int .i64 qt, .int .i64 qk, .int .i64 qi] 29 (0, 0)) := (other_set (by omega)).trans kd6
  have hs7 : (U6.setCell ⟨U.heap.size, 0, none⟩ (.int .i64 k2)).heap.size = U.heap.size + 2 := by simp [World.setCell]; omega
  have ka8 : ((U6.setCell ⟨U.heap.size, 0, none⟩ (.int .i64 k2)).setCell ⟨U5.heap.size, 3, none⟩ (.int .i64 qk2)).heap[w.heap.size]? = some (.cells #[.int .i64 k, .int .i64 n, .int .i64 a, .int .i64 c, .int .i64 h, .int .i64 t, .int .i64 i, .int .i64 p] 27 (0, 0)) := (other_set (by omega)).trans ka7
  have kb8 : ((U6.setCell ⟨U.heap.size, 0, none⟩ (.int .i64 k2)).setCell ⟨U5.heap.size, 3, none⟩ (.int .i64 qk2)).heap[w.heap.size + 1]? = some (.cells #[.int .i64 k2, .int .i64 n2, .int .i64 a2, .int .i64 c2, .int .i64 h2, .int .i64 t2, .int .i64 i2, .int .i64 p2] 27 (0, 0)) := (other_set (by omega)).trans kb7
  have kp8 : ((U6.setCell ⟨U.heap.size, 0, none⟩ (.int .i64 k2)).setCell ⟨U5.heap.size, 3, none⟩ (.int .i64 qk2)).heap[w.heap.size + 1 + 1]? = some (.cells #[.int .i64 qc, .int .i64 qh, .int .i64 qt, .int .i64 qk, .int .i64 qi] 29 (0, 0)) := (other_set (by omega)).trans kp7
  have kq8 : ((U6.setCell ⟨U.heap.size, 0, none⟩ (.int .i64 k2)).setCell ⟨U5.heap.size, 3, none⟩ (.int .i64 qk2)).heap[w.heap.size + 1 + 1 + 1]? = some (.cells #[.int .i64 qc2, .int .i64 qh2, .int .i64 qt2, .int .i64 qk2, .int .i64 qi2] 29 (0, 0)) := (other_set (by omega)).trans kq7
  have kc8 : ((U6.setCell ⟨U.heap.size, 0, none⟩ (.int .i64 k2)).setCell ⟨U5.heap.size, 3, none⟩ (.int .i64 qk2)).heap[U.heap.size]? = some (.cells #[.int .i64 k2, .int .i64 n, .int .i64 a, .int .i64 c, .int .i64 h, .int .i64 t, .int .i64 i, .int .i64 p] 27 (0, 0)) := (other_set (by omega)).trans kc7
  have kd8 : ((U6.setCell ⟨U.heap.size, 0, none⟩ (.int .i64 k2)).setCell ⟨U5.heap.size, 3, none⟩ (.int .i64 qk2)).heap[U5.heap.size]? = some (.cells #[.int .i64 qc, .int .i64 qh, .int .i64 qt, .int .i64 qk2, .int .i64 qi] 29 (0, 0)) := cell_set kd7
  have hs8 : ((U6.setCell ⟨U.heap.size, 0, none⟩ (.int .i64 k2)).setCell ⟨U5.heap.size, 3, none⟩ (.int .i64 qk2)).heap.size = U.heap.size + 2 := by rw [← hs7]; simp [World.setCell]
  have hbF : Below w.heap.size w ((U6.setCell ⟨U.heap.size, 0, none⟩ (.int .i64 k2)).setCell ⟨U5.heap.size, 3, none⟩ (.int .i64 qk2)) := ((((hb0.trans (hb5.mono hb0.size)).trans (hb6.mono (by omega)))).setCell (by show w.heap.size ≤ U.heap.size; omega) _).setCell (by show w.heap.size ≤ U5.heap.size; omega) _
  have HF := Lib.hid (And.intro ka8 (And.intro kb8 (And.intro kp8 (And.intro kq8 (And.intro kc8 (And.intro kd8 (And.intro hs8 hbF)))))))
  have HZ := Lib.hid (And.intro hz hz5)
  obtain ⟨ua0, ua1, ua2, ua3, ua4, ua5, ua6, ua7⟩ := row8 ka
  obtain ⟨vp0, vp1, vp2, vp3, vp4⟩ := row5 kp5
  obtain ⟨xb0, xb1, xb2, xb3, xb4, xb5, xb6, xb7⟩ := row8 kb6
  obtain ⟨xc0, xc1, xc2, xc3, xc4, xc5, xc6, xc7⟩ := row8 kc6
  have fz6 := froz kc6 0
  have fz7 := froz kd7 3
  obtain ⟨yq0, yq1, yq2, yq3, yq4⟩ := row5 kq7
  obtain ⟨yd0, yd1, yd2, yd3, yd4⟩ := row5 kd7
  clear ka kb kp kq kc5 ka5 kb5 kp5 kq5 ka6 ka7 ka8 kb6 kb7 kb8 kp6 kp7 kp8 kq6 kq7 kq8 kc6 kc7 kc8 kd6 kd7 kd8 hs7 hs8 hb0 hb5 hb6 hbF hz hz5 hz6
  go_enter Tryd.func3, Tryd.ntmps3
  go_wp2_with (go_at_call 5; refine (HA.out _).mono ?_; rintro e w1 ⟨rfl, rfl⟩)
  clear hU hU5 hU6 ua0 ua1 ua2 ua3 ua4 ua5 ua6 ua7 vp0 vp1 vp2 vp3 vp4 xb0 xb1 xb2 xb3 xb4 xb5 xb6 xb7 xc0 xc1 xc2 xc3 xc4 xc5 xc6 xc7 fz6 fz7 yq0 yq1 yq2 yq3 yq4 yd0 yd1 yd2 yd3 yd4
  obtain ⟨ka, kb, kp, kq, kc, kd, hs, hbF⟩ := HF.out
  obtain ⟨hz, hz5⟩ := HZ.out
  obtain ⟨W8, hW8⟩ : ∃ V, ((U6.setCell ⟨U.heap.size, 0, none⟩ (.int .i64 k2)).setCell ⟨U5.heap.size, 3, none⟩ (.int .i64 qk2)) = V := ⟨_, rfl⟩
  clear HF HZ
  rw [hW8] at ka kb kp kq kc kd hs hbF ⊢
  clear hW8
  have HB := Lib.hid hbF
  have HK := Lib.hid (fun (V : World) (hV : Below W8.heap.size W8 V) => And.intro (row8 ((hV.block _ (by omega)).trans ka)) (And.intro (row8 ((hV.block _ (by omega)).trans kb)) (And.intro (row5 ((hV.block _ (by omega)).trans kp)) (And.intro (row5 ((hV.block _ (by omega)).trans kq)) (And.intro (row8 ((hV.block _ (by omega)).trans kc)) (row5 ((hV.block _ (by omega)).trans kd)))))))
  clear ka kb kp kq kc kd hbF hs hz hz5
  refine RgX.region 16 (fun i => ( 45 + i)) (fun ix_ => match ix_ with | 0 => .v (.agg #[.int .i64 k, .int .i64 n, .int .i64 a, .int .i64 c, .int .i64 h, .int .i64 t, .int .i64 i, .int .i64 p]) | 1 => .v (.agg #[.int .i64 k2, .int .i64 n2, .int .i64 a2, .int .i64 c2, .int .i64 h2, .int .i64 t2, .int .i64 i2, .int .i64 p2]) | 2 => .v (.int .i64 R1) | 3 => .v (.agg #[.int .i64 k, .int .i64 n, .int .i64 a, .int .i64 c, .int .i64 h, .int .i64 t, .int .i64 i, .int .i64 p]) | 4 => .v (.agg #[.int .i64 k2, .int .i64 n2, .int .i64 a2, .int .i64 c2, .int .i64 h2, .int .i64 t2, .int .i64 i2, .int .i64 p2]) | 5 => .v (.int .i64 R1) | 6 => .v (.bool false) | 7 => .v (.bool false) | 8 => .v (.agg #[.int .i64 k, .int .i64 n, .int .i64 a, .int .i64 c, .int .i64 h, .int .i64 t, .int .i64 i, .int .i64 p]) | 9 => .v (.agg #[.int .i64 k2, .int .i64 n, .int .i64 a, .int .i64 c, .int .i64 h, .int .i64 t, .int .i64 i, .int .i64 p]) | 10 => .v (.int .i64 R2) | 11 => .v (.agg #[.int .i64 k, .int .i64 n, .int .i64 a, .int .i64 c, .int .i64 h, .int .i64 t, .int .i64 i, .int .i64 p]) | 12 => .v (.agg #[.int .i64 k2, .int .i64 n, .int .i64 a, .int .i64 c, .int .i64 h, .int .i64 t, .int .i64 i, .int .i64 p]) | 13 => .v (.int .i64 R2) | 14 => .v (.bool false) | 15 => .v (.bool false) | _ => .any) (by kernel_rfl) rfl (by kernel_rfl)  (fun i hi => by show ( 45 + i) < 84; (repeat' split) <;> omega) (fun i j hi hj => by show ( 45 + i) = ( 45 + j) → i = j; (repeat' split) <;> omega) ?step ?fin
  case step =>
    intro L_ A_ w3 ix op_ hI ho hdep
    have hi : ix < 16 := (Array.getElem?_eq_some_iff.1 ho).1
    have hcase : ix = 0 ∨ ix = 1 ∨ ix = 2 ∨ ix = 3 ∨ ix = 4 ∨ ix = 5 ∨ ix = 6 ∨ ix = 7 ∨ ix = 8 ∨ ix = 9 ∨ ix = 10 ∨ ix = 11 ∨ ix = 12 ∨ ix = 13 ∨ ix = 14 ∨ ix = 15 := by omega
    have hh := hI.held
    clear hi
    rcases hcase with rfl | rfl | rfl | rfl | rfl | rfl | rfl | rfl | rfl | rfl | rfl | rfl | rfl | rfl | rfl | rfl
    · simp only [List.getElem?_toArray, List.getElem?_cons_zero, Option.some.injEq] at ho
      subst ho
      refine ⟨rfl, ?_⟩
      have e5 : A_.tmps[5]?.getD undef = .pointer (some ⟨w.heap.size, 0, none⟩) := by rw [hI.low 5 (by decide)]; rfl
      clear hI hdep
      obtain ⟨⟨fa0, fa1, fa2, fa3, fa4, fa5, fa6, fa7⟩, ⟨fb0, fb1, fb2, fb3, fb4, fb5, fb6, fb7⟩, ⟨fp0, fp1, fp2, fp3, fp4⟩, ⟨fq0, fq1, fq2, fq3, fq4⟩, ⟨fc0, fc1, fc2, fc3, fc4, fc5, fc6, fc7⟩, fd0, fd1, fd2, fd3, fd4⟩ := HK.out w3 hh
      exact .run rfl (.agg #[.int .i64 k, .int .i64 n, .int .i64 a, .int .i64 c, .int .i64 h, .int .i64 t, .int .i64 i, .int .i64 p]) w3 (by simp [execOp, go_sem, Act.eval, *]) (Below.refl _ _) rfl
    · simp only [List.getElem?_toArray, List.getElem?_cons_succ, List.getElem?_cons_zero, Option.some.injEq] at ho
      subst ho
      refine ⟨rfl, ?_⟩
      have e6 : A_.tmps[6]?.getD undef = .pointer (some ⟨w.heap.size + 1, 0, none⟩) := by rw [hI.low 6 (by decide)]; rfl
      clear hI hdep
      obtain ⟨⟨fa0, fa1, fa2, fa3, fa4, fa5, fa6, fa7⟩, ⟨fb0, fb1, fb2, fb3, fb4, fb5, fb6, fb7⟩, ⟨fp0, fp1, fp2, fp3, fp4⟩, ⟨fq0, fq1, fq2, fq3, fq4⟩, ⟨fc0, fc1, fc2, fc3, fc4, fc5, fc6, fc7⟩, fd0, fd1, fd2, fd3, fd4⟩ := HK.out w3 hh
      exact .run rfl (.agg #[.int .i64 k2, .int .i64 n2, .int .i64 a2, .int .i64 c2, .int .i64 h2, .int .i64 t2, .int .i64 i2, .int .i64 p2]) w3 (by simp [execOp, go_sem, Act.eval, *]) (Below.refl _ _) rfl
    · simp only [List.getElem?_toArray, List.getElem?_cons_succ, List.getElem?_cons_zero, Option.some.injEq] at ho
      subst ho
      refine ⟨rfl, ?_⟩
      have e45 : A_.tmps[45]?.getD undef = .agg #[.int .i64 k, .int .i64 n, .int .i64 a, .int .i64 c, .int .i64 h, .int .i64 t, .int .i64 i, .int .i64 p] := getD_of (hI.val_ (i := 0) rfl rfl (by decide) (hdep ⟨0, .data⟩ (by simp) rfl))
      have e46 : A_.tmps[46]?.getD undef = .agg #[.int .i64 k2, .int .i64 n2, .int .i64 a2, .int .i64 c2, .int .i64 h2, .int .i64 t2, .int .i64 i2, .int .i64 p2] := getD_of (hI.val_ (i := 1) rfl rfl (by decide) (hdep ⟨1, .data⟩ (by simp) rfl))
      clear hI hdep
      exact .call rfl 6 #[.agg #[.int .i64 k, .int .i64 n, .int .i64 a, .int .i64 c, .int .i64 h, .int .i64 t, .int .i64 i, .int .i64 p], .agg #[.int .i64 k2, .int .i64 n2, .int .i64 a2, .int .i64 c2, .int .i64 h2, .int .i64 t2, .int .i64 i2, .int .i64 p2]] (by simp [go_sem, Act.eval, e45, e46]) ((HC1.out w3).mono fun _ _ ⟨h1_, h2_⟩ => ⟨⟨_, h1_, rfl⟩, h2_⟩)
    · simp only [List.getElem?_toArray, List.getElem?_cons_succ, List.getElem?_cons_zero, Option.some.injEq] at ho
      subst ho
      refine ⟨rfl, ?_⟩
      have e5 : A_.tmps[5]?.getD undef = .pointer (some ⟨w.heap.size, 0, none⟩) := by rw [hI.low 5 (by decide)]; rfl
      clear hI hdep
      obtain ⟨⟨fa0, fa1, fa2, fa3, fa4, fa5, fa6, fa7⟩, ⟨fb0, fb1, fb2, fb3, fb4, fb5, fb6, fb7⟩, ⟨fp0, fp1, fp2, fp3, fp4⟩, ⟨fq0, fq1, fq2, fq3, fq4⟩, ⟨fc0, fc1, fc2, fc3, fc4, fc5, fc6, fc7⟩, fd0, fd1, fd2, fd3, fd4⟩ := HK.out w3 hh
      exact .run rfl (.agg #[.int .i64 k, .int .i64 n, .int .i64 a, .int .i64 c, .int .i64 h, .int .i64 t, .int .i64 i, .int .i64 p]) w3 (by simp [execOp, go_sem, Act.eval, *]) (Below.refl _ _) rfl
    · simp only [List.getElem?_toArray, List.getElem?_cons_succ, List.getElem?_cons_zero, Option.some.injEq] at ho
      subst ho
      refine ⟨rfl, ?_⟩
      have e6 : A_.tmps[6]?.getD undef = .pointer (some ⟨w.heap.size + 1, 0, none⟩) := by rw [hI.low 6 (by decide)]; rfl
      clear hI hdep
      obtain ⟨⟨fa0, fa1, fa2, fa3, fa4, fa5, fa6, fa7⟩, ⟨fb0, fb1, fb2, fb3, fb4, fb5, fb6, fb7⟩, ⟨fp0, fp1, fp2, fp3, fp4⟩, ⟨fq0, fq1, fq2, fq3, fq4⟩, ⟨fc0, fc1, fc2, fc3, fc4, fc5, fc6, fc7⟩, fd0, fd1, fd2, fd3, fd4⟩ := HK.out w3 hh
      exact .run rfl (.agg #[.int .i64 k2, .int .i64 n2, .int .i64 a2, .int .i64 c2, .int .i64 h2, .int .i64 t2, .int .i64 i2, .int .i64 p2]) w3 (by simp [execOp, go_sem, Act.eval, *]) (Below.refl _ _) rfl
    · simp only [List.getElem?_toArray, List.getElem?_cons_succ, List.getElem?_cons_zero, Option.some.injEq] at ho
      subst ho
      refine ⟨rfl, ?_⟩
      have e48 : A_.tmps[48]?.getD undef = .agg #[.int .i64 k, .int .i64 n, .int .i64 a, .int .i64 c, .int .i64 h, .int .i64 t, .int .i64 i, .int .i64 p] := getD_of (hI.val_ (i := 3) rfl rfl (by decide) (hdep ⟨3, .data⟩ (by simp) rfl))
      have e49 : A_.tmps[49]?.getD undef = .agg #[.int .i64 k2, .int .i64 n2, .int .i64 a2, .int .i64 c2, .int .i64 h2, .int .i64 t2, .int .i64 i2, .int .i64 p2] := getD_of (hI.val_ (i := 4) rfl rfl (by decide) (hdep ⟨4, .data⟩ (by simp) rfl))
      clear hI hdep
      exact .call rfl 7 #[.agg #[.int .i64 k, .int .i64 n, .int .i64 a, .int .i64 c, .int .i64 h, .int .i64 t, .int .i64 i, .int .i64 p], .agg #[.int .i64 k2, .int .i64 n2, .int .i64 a2, .int .i64 c2, .int .i64 h2, .int .i64 t2, .int .i64 i2, .int .i64 p2]] (by simp [go_sem, Act.eval, e48, e49]) ((HR1.out w3).mono fun _ _ ⟨h1_, h2_⟩ => ⟨⟨_, h1_, rfl⟩, h2_⟩)
    · simp only [List.getElem?_toArray, List.getElem?_cons_succ, List.getElem?_cons_zero, Option.some.injEq] at ho
      subst ho
      refine ⟨rfl, ?_⟩
      have e47 : A_.tmps[47]?.getD undef = .int .i64 R1 := getD_of (hI.val_ (i := 2) rfl rfl (by decide) (hdep ⟨2, .data⟩ (by simp) rfl))
      have e50 : A_.tmps[50]?.getD undef = .int .i64 R1 := getD_of (hI.val_ (i := 5) rfl rfl (by decide) (hdep ⟨5, .data⟩ (by simp) rfl))
      clear hI hdep
      exact .run rfl (.bool false) w3 (by simp [execOp, go_sem, Act.eval, *]) (Below.refl _ _) rfl
    · simp only [List.getElem?_toArray, List.getElem?_cons_succ, List.getElem?_cons_zero, Option.some.injEq] at ho
      subst ho
      refine ⟨rfl, ?_⟩
      have e51 : A_.tmps[51]?.getD undef = .bool false := getD_of (hI.val_ (i := 6) rfl rfl (by decide) (hdep ⟨6, .data⟩ (by simp) rfl))
      clear hI hdep
      exact .run rfl (.bool false) w3 (by simp [execOp, go_sem, Act.eval, e51]) (Below.refl _ _) rfl
    · simp only [List.getElem?_toArray, List.getElem?_cons_succ, List.getElem?_cons_zero, Option.some.injEq] at ho
      subst ho
      refine ⟨rfl, ?_⟩
      have q52 : A_.tmps[52]? = some (.bool false) := hI.val_ (i := 7) rfl rfl (by decide) (hdep ⟨7, .guard⟩ (by simp) rfl)
      have e5 : A_.tmps[5]?.getD undef = .pointer (some ⟨w.heap.size, 0, none⟩) := by rw [hI.low 5 (by decide)]; rfl
      clear hI hdep
      obtain ⟨⟨fa0, fa1, fa2, fa3, fa4, fa5, fa6, fa7⟩, ⟨fb0, fb1, fb2, fb3, fb4, fb5, fb6, fb7⟩, ⟨fp0, fp1, fp2, fp3, fp4⟩, ⟨fq0, fq1, fq2, fq3, fq4⟩, ⟨fc0, fc1, fc2, fc3, fc4, fc5, fc6, fc7⟩, fd0, fd1, fd2, fd3, fd4⟩ := HK.out w3 hh
      exact .run ((wanted_some rfl rfl q52).trans rfl) (.agg #[.int .i64 k, .int .i64 n, .int .i64 a, .int .i64 c, .int .i64 h, .int .i64 t, .int .i64 i, .int .i64 p]) w3 (by simp [execOp, go_sem, Act.eval, *]) (Below.refl _ _) rfl
    · simp only [List.getElem?_toArray, List.getElem?_cons_succ, List.getElem?_cons_zero, Option.some.injEq] at ho
      subst ho
      refine ⟨rfl, ?_⟩
      have q52 : A_.tmps[52]? = some (.bool false) := hI.val_ (i := 7) rfl rfl (by decide) (hdep ⟨7, .guard⟩ (by simp) rfl)
      have e11 : A_.tmps[11]?.getD undef = .pointer (some ⟨U.heap.size, 0, none⟩) := by rw [hI.low 11 (by decide)]; rfl
      clear hI hdep
      obtain ⟨⟨fa0, fa1, fa2, fa3, fa4, fa5, fa6, fa7⟩, ⟨fb0, fb1, fb2, fb3, fb4, fb5, fb6, fb7⟩, ⟨fp0, fp1, fp2, fp3, fp4⟩, ⟨fq0, fq1, fq2, fq3, fq4⟩, ⟨fc0, fc1, fc2, fc3, fc4, fc5, fc6, fc7⟩, fd0, fd1, fd2, fd3, fd4⟩ := HK.out w3 hh
      exact .run ((wanted_some rfl rfl q52).trans rfl) (.agg #[.int .i64 k2, .int .i64 n, .int .i64 a, .int .i64 c, .int .i64 h, .int .i64 t, .int .i64 i, .int .i64 p]) w3 (by simp [execOp, go_sem, Act.eval, *]) (Below.refl _ _) rfl
    · simp only [List.getElem?_toArray, List.getElem?_cons_succ, List.getElem?_cons_zero, Option.some.injEq] at ho
      subst ho
      refine ⟨rfl, ?_⟩
      have q52 : A_.tmps[52]? = some (.bool false) := hI.val_ (i := 7) rfl rfl (by decide) (hdep ⟨7, .guard⟩ (by simp) rfl)
      have e53 : A_.tmps[53]?.getD undef = .agg #[.int .i64 k, .int .i64 n, .int .i64 a, .int .i64 c, .int .i64 h, .int .i64 t, .int .i64 i, .int .i64 p] := getD_of (hI.val_ (i := 8) rfl rfl (by decide) (hdep ⟨8, .data⟩ (by simp) rfl))
      have e54 : A_.tmps[54]?.getD undef = .agg #[.int .i64 k2, .int .i64 n, .int .i64 a, .int .i64 c, .int .i64 h, .int .i64 t, .int .i64 i, .int .i64 p] := getD_of (hI.val_ (i := 9) rfl rfl (by decide) (hdep ⟨9, .data⟩ (by simp) rfl))
      clear hI hdep
      exact .call ((wanted_some rfl rfl q52).trans rfl) 6 #[.agg #[.int .i64 k, .int .i64 n, .int .i64 a, .int .i64 c, .int .i64 h, .int .i64 t, .int .i64 i, .int .i64 p], .agg #[.int .i64 k2, .int .i64 n, .int .i64 a, .int .i64 c, .int .i64 h, .int .i64 t, .int .i64 i, .int .i64 p]] (by simp [go_sem, Act.eval, e53, e54]) ((HC2.out w3).mono fun _ _ ⟨h1_, h2_⟩ => ⟨⟨_, h1_, rfl⟩, h2_⟩)
    · simp only [List.getElem?_toArray, List.getElem?_cons_succ, List.getElem?_cons_zero, Option.some.injEq] at ho
      subst ho
      refine ⟨rfl, ?_⟩
      have q52 : A_.tmps[52]? = some (.bool false) := hI.val_ (i := 7) rfl rfl (by decide) (hdep ⟨7, .guard⟩ (by simp) rfl)
      have e5 : A_.tmps[5]?.getD undef = .pointer (some ⟨w.heap.size, 0, none⟩) := by rw [hI.low 5 (by decide)]; rfl
      clear hI hdep
      obtain ⟨⟨fa0, fa1, fa2, fa3, fa4, fa5, fa6, fa7⟩, ⟨fb0, fb1, fb2, fb3, fb4, fb5, fb6, fb7⟩, ⟨fp0, fp1, fp2, fp3, fp4⟩, ⟨fq0, fq1, fq2, fq3, fq4⟩, ⟨fc0, fc1, fc2, fc3, fc4, fc5, fc6, fc7⟩, fd0, fd1, fd2, fd3, fd4⟩ := HK.out w3 hh
      exact .run ((wanted_some rfl rfl q52).trans rfl) (.agg #[.int .i64 k, .int .i64 n, .int .i64 a, .int .i64 c, .int .i64 h, .int .i64 t, .int .i64 i, .int .i64 p]) w3 (by simp [execOp, go_sem, Act.eval, *]) (Below.refl _ _) rfl
    · simp only [List.getElem?_toArray, List.getElem?_cons_succ, List.getElem?_cons_zero, Option.some.injEq] at ho
      subst ho
      refine ⟨rfl, ?_⟩
      have q52 : A_.tmps[52]? = some (.bool false) := hI.val_ (i := 7) rfl rfl (by decide) (hdep ⟨7, .guard⟩ (by simp) rfl)
      have e11 : A_.tmps[11]?.getD undef = .pointer (some ⟨U.heap.size, 0, none⟩) := by rw [hI.low 11 (by decide)]; rfl
      clear hI hdep
      obtain ⟨⟨fa0, fa1, fa2, fa3, fa4, fa5, fa6, fa7⟩, ⟨fb0, fb1, fb2, fb3, fb4, fb5, fb6, fb7⟩, ⟨fp0, fp1, fp2, fp3, fp4⟩, ⟨fq0, fq1, fq2, fq3, fq4⟩, ⟨fc0, fc1, fc2, fc3, fc4, fc5, fc6, fc7⟩, fd0, fd1, fd2, fd3, fd4⟩ := HK.out w3 hh
      exact .run ((wanted_some rfl rfl q52).trans rfl) (.agg #[.int .i64 k2, .int .i64 n, .int .i64 a, .int .i64 c, .int .i64 h, .int .i64 t, .int .i64 i, .int .i64 p]) w3 (by simp [execOp, go_sem, Act.eval, *]) (Below.refl _ _) rfl
    · simp only [List.getElem?_toArray, List.getElem?_cons_succ, List.getElem?_cons_zero, Option.some.injEq] at ho
      subst ho
      refine ⟨rfl, ?_⟩
      have q52 : A_.tmps[52]? = some (.bool false) := hI.val_ (i := 7) rfl rfl (by decide) (hdep ⟨7, .guard⟩ (by simp) rfl)
      have e56 : A_.tmps[56]?.getD undef = .agg #[.int .i64 k, .int .i64 n, .int .i64 a, .int .i64 c, .int .i64 h, .int .i64 t, .int .i64 i, .int .i64 p] := getD_of (hI.val_ (i := 11) rfl rfl (by decide) (hdep ⟨11, .data⟩ (by simp) rfl))
      have e57 : A_.tmps[57]?.getD undef = .agg #[.int .i64 k2, .int .i64 n, .int .i64 a, .int .i64 c, .int .i64 h, .int .i64 t, .int .i64 i, .int .i64 p] := getD_of (hI.val_ (i := 12) rfl rfl (by decide) (hdep ⟨12, .data⟩ (by simp) rfl))
      clear hI hdep
      exact .call ((wanted_some rfl rfl q52).trans rfl) 7 #[.agg #[.int .i64 k, .int .i64 n, .int .i64 a, .int .i64 c, .int .i64 h, .int .i64 t, .int .i64 i, .int .i64 p], .agg #[.int .i64 k2, .int .i64 n, .int .i64 a, .int .i64 c, .int .i64 h, .int .i64 t, .int .i64 i, .int .i64 p]] (by simp [go_sem, Act.eval, e56, e57]) ((HR2.out w3).mono fun _ _ ⟨h1_, h2_⟩ => ⟨⟨_, h1_, rfl⟩, h2_⟩)
    · simp only [List.getElem?_toArray, List.getElem?_cons_succ, List.getElem?_cons_zero, Option.some.injEq] at ho
      subst ho
      refine ⟨rfl, ?_⟩
      have q52 : A_.tmps[52]? = some (.bool false) := hI.val_ (i := 7) rfl rfl (by decide) (hdep ⟨7, .guard⟩ (by simp) rfl)
      have e55 : A_.tmps[55]?.getD undef = .int .i64 R2 := getD_of (hI.val_ (i := 10) rfl rfl (by decide) (hdep ⟨10, .data⟩ (by simp) rfl))
      have e58 : A_.tmps[58]?.getD undef = .int .i64 R2 := getD_of (hI.val_ (i := 13) rfl rfl (by decide) (hdep ⟨13, .data⟩ (by simp) rfl))
      clear hI hdep
      exact .run ((wanted_some rfl rfl q52).trans rfl) (.bool false) w3 (by simp [execOp, go_sem, Act.eval, *]) (Below.refl _ _) rfl
    · simp only [List.getElem?_toArray, List.getElem?_cons_succ, List.getElem?_cons_zero, Option.some.injEq] at ho
      subst ho
      refine ⟨rfl, ?_⟩
      have e52 : A_.tmps[52]?.getD undef = .bool false := getD_of (hI.val_ (i := 7) rfl rfl (by decide) (hdep ⟨7, .data⟩ (by simp) rfl))
      have e59 : A_.tmps[59]?.getD undef = .bool false := getD_of (hI.val_ (i := 14) rfl rfl (by decide) (hdep ⟨14, .data⟩ (by simp) rfl))
      clear hI hdep
      exact .run rfl (.bool false) w3 (by simp [execOp, go_sem, Act.eval, e52, e59]) (Below.refl _ _) rfl
  case fin =>
  intro A_ w3 hs hd hlow hS hok
  obtain rfl : A_ = ⟨#[.agg #[.int .i64 k, .int .i64 n, .int .i64 a, .int .i64 c, .int .i64 h, .int .i64 t, .int .i64 i, .int .i64 p], .agg #[.int .i64 k2, .int .i64 n2, .int .i64 a2, .int .i64 c2, .int .i64 h2, .int .i64 t2, .int .i64 i2, .int .i64 p2], .agg #[.int .i64 qc, .int .i64 qh, .int .i64 qt, .int .i64 qk, .int .i64 qi], .agg #[.int .i64 qc2, .int .i64 qh2, .int .i64 qt2, .int .i64 qk2, .int .i64 qi2], .int .i64 at_, .pointer (some ⟨w.heap.size, 0, none⟩), .pointer (some ⟨w.heap.size + 1, 0, none⟩), .pointer (some ⟨w.heap.size + 1 + 1, 0, none⟩), .pointer (some ⟨w.heap.size + 1 + 1 + 1, 0, none⟩), undef, .bool false, .pointer (some ⟨U.heap.size, 0, none⟩), .pointer (some ⟨U5.heap.size, 0, none⟩), undef, .agg #[.int .i64 k, .int .i64 n, .int .i64 a, .int .i64 c, .int .i64 h, .int .i64 t, .int .i64 i, .int .i64 p], .agg #[.int .i64 qc, .int .i64 qh, .int .i64 qt, .int .i64 qk, .int .i64 qi], .int .i64 at_, .int .i64 0, undef, undef, undef, .bool true, .bool true, .pointer (some ⟨w.heap.size + 1, 0, none⟩), .int .i64 k2, .pointer (some ⟨U.heap.size, 0, none⟩), .pointer (some ⟨w.heap.size + 1 + 1 + 1, 3, none⟩), .int .i64 qk2, .pointer (some ⟨U5.heap.size, 3, none⟩), undef, undef, undef, undef, undef, undef, undef, undef, undef, undef, undef, undef, undef, undef, undef, undef, .agg #[.int .i64 k, .int .i64 n, .int .i64 a, .int .i64 c, .int .i64 h, .int .i64 t, .int .i64 i, .int .i64 p], .agg #[.int .i64 k2, .int .i64 n2, .int .i64 a2, .int .i64 c2, .int .i64 h2, .int .i64 t2, .int .i64 i2, .int .i64 p2], .int .i64 R1, .agg #[.int .i64 k, .int .i64 n, .int .i64 a, .int .i64 c, .int .i64 h, .int .i64 t, .int .i64 i, .int .i64 p], .agg #[.int .i64 k2, .int .i64 n2, .int .i64 a2, .int .i64 c2, .int .i64 h2, .int .i64 t2, .int .i64 i2, .int .i64 p2], .int .i64 R1, .bool false, .bool false, .agg #[.int .i64 k, .int .i64 n, .int .i64 a, .int .i64 c, .int .i64 h, .int .i64 t, .int .i64 i, .int .i64 p], .agg #[.int .i64 k2, .int .i64 n, .int .i64 a, .int .i64 c, .int .i64 h, .int .i64 t, .int .i64 i, .int .i64 p], .int .i64 R2, .agg #[.int .i64 k, .int .i64 n, .int .i64 a, .int .i64 c, .int .i64 h, .int .i64 t, .int .i64 i, .int .i64 p], .agg #[.int .i64 k2, .int .i64 n, .int .i64 a, .int .i64 c, .int .i64 h, .int .i64 t, .int .i64 i, .int .i64 p], .int .i64 R2, .bool false, .bool false, undef, undef, undef, undef, undef, undef, undef, undef, undef, undef, undef, undef, undef, undef, undef, undef, undef, undef, undef, undef, undef, undef, undef], []⟩ := act_ext hd hs (fun j hj => match j, hj with | 0, _ => (hlow 0 (by decide)).trans rfl | 1, _ => (hlow 1 (by decide)).trans rfl | 2, _ => (hlow 2 (by decide)).trans rfl | 3, _ => (hlow 3 (by decide)).trans rfl | 4, _ => (hlow 4 (by decide)).trans rfl | 5, _ => (hlow 5 (by decide)).trans rfl | 6, _ => (hlow 6 (by decide)).trans rfl | 7, _ => (hlow 7 (by decide)).trans rfl | 8, _ => (hlow 8 (by decide)).trans rfl | 9, _ => (hlow 9 (by decide)).trans rfl | 10, _ => (hlow 10 (by decide)).trans rfl | 11, _ => (hlow 11 (by decide)).trans rfl | 12, _ => (hlow 12 (by decide)).trans rfl | 13, _ => (hlow 13 (by decide)).trans rfl | 14, _ => (hlow 14 (by decide)).trans rfl | 15, _ => (hlow 15 (by decide)).trans rfl | 16, _ => (hlow 16 (by decide)).trans rfl | 17, _ => (hlow 17 (by decide)).trans rfl | 18, _ => (hlow 18 (by decide)).trans rfl | 19, _ => (hlow 19 (by decide)).trans rfl | 20, _ => (hlow 20 (by decide)).trans rfl | 21, _ => (hlow 21 (by decide)).trans rfl | 22, _ => (hlow 22 (by decide)).trans rfl | 23, _ => (hlow 23 (by decide)).trans rfl | 24, _ => (hlow 24 (by decide)).trans rfl | 25, _ => (hlow 25 (by decide)).trans rfl | 26, _ => (hlow 26 (by decide)).trans rfl | 27, _ => (hlow 27 (by decide)).trans rfl | 28, _ => (hlow 28 (by decide)).trans rfl | 29, _ => (hlow 29 (by decide)).trans rfl | 30, _ => (hlow 30 (by decide)).trans rfl | 31, _ => (hlow 31 (by decide)).trans rfl | 32, _ => (hlow 32 (by decide)).trans rfl | 33, _ => (hlow 33 (by decide)).trans rfl | 34, _ => (hlow 34 (by decide)).trans rfl | 35, _ => (hlow 35 (by decide)).trans rfl | 36, _ => (hlow 36 (by decide)).trans rfl | 37, _ => (hlow 37 (by decide)).trans rfl | 38, _ => (hlow 38 (by decide)).trans rfl | 39, _ => (hlow 39 (by decide)).trans rfl | 40, _ => (hlow 40 (by decide)).trans rfl | 41, _ => (hlow 41 (by decide)).trans rfl | 42, _ => (hlow 42 (by decide)).trans rfl | 43, _ => (hlow 43 (by decide)).trans rfl | 44, _ => (hlow 44 (by decide)).trans rfl | 45, _ => RgX.val_at (hok 0 45 _ (by decide) rfl rfl) | 46, _ => RgX.val_at (hok 1 46 _ (by decide) rfl rfl) | 47, _ => RgX.val_at (hok 2 47 _ (by decide) rfl rfl) | 48, _ => RgX.val_at (hok 3 48 _ (by decide) rfl rfl) | 49, _ => RgX.val_at (hok 4 49 _ (by decide) rfl rfl) | 50, _ => RgX.val_at (hok 5 50 _ (by decide) rfl rfl) | 51, _ => RgX.val_at (hok 6 51 _ (by decide) rfl rfl) | 52, _ => RgX.val_at (hok 7 52 _ (by decide) rfl rfl) | 53, _ => RgX.val_at (hok 8 53 _ (by decide) rfl rfl) | 54, _ => RgX.val_at (hok 9 54 _ (by decide) rfl rfl) | 55, _ => RgX.val_at (hok 10 55 _ (by decide) rfl rfl) | 56, _ => RgX.val_at (hok 11 56 _ (by decide) rfl rfl) | 57, _ => RgX.val_at (hok 12 57 _ (by decide) rfl rfl) | 58, _ => RgX.val_at (hok 13 58 _ (by decide) rfl rfl) | 59, _ => RgX.val_at (hok 14 59 _ (by decide) rfl rfl) | 60, _ => RgX.val_at (hok 15 60 _ (by decide) rfl rfl) | 61, _ => (hlow 61 (by decide)).trans rfl | 62, _ => (hlow 62 (by decide)).trans rfl | 63, _ => (hlow 63 (by decide)).trans rfl | 64, _ => (hlow 64 (by decide)).trans rfl | 65, _ => (hlow 65 (by decide)).trans rfl | 66, _ => (hlow 66 (by decide)).trans rfl | 67, _ => (hlow 67 (by decide)).trans rfl | 68, _ => (hlow 68 (by decide)).trans rfl | 69, _ => (hlow 69 (by decide)).trans rfl | 70, _ => (hlow 70 (by decide)).trans rfl | 71, _ => (hlow 71 (by decide)).trans rfl | 72, _ => (hlow 72 (by decide)).trans rfl | 73, _ => (hlow 73 (by decide)).trans rfl | 74, _ => (hlow 74 (by decide)).trans rfl | 75, _ => (hlow 75 (by decide)).trans rfl | 76, _ => (hlow 76 (by decide)).trans rfl | 77, _ => (hlow 77 (by decide)).trans rfl | 78, _ => (hlow 78 (by decide)).trans rfl | 79, _ => (hlow 79 (by decide)).trans rfl | 80, _ => (hlow 80 (by decide)).trans rfl | 81, _ => (hlow 81 (by decide)).trans rfl | 82, _ => (hlow 82 (by decide)).trans rfl | 83, _ => (hlow 83 (by decide)).trans rfl | n + 84, h => absurd h (by show ¬ n + 84 < 84; omega))
  clear hs hd hlow hok 
  obtain ⟨⟨fa0, fa1, fa2, fa3, fa4, fa5, fa6, fa7⟩, ⟨fb0, fb1, fb2, fb3, fb4, fb5, fb6, fb7⟩, ⟨fp0, fp1, fp2, fp3, fp4⟩, ⟨fq0, fq1, fq2, fq3, fq4⟩, ⟨fc0, fc1, fc2, fc3, fc4, fc5, fc6, fc7⟩, fd0, fd1, fd2, fd3, fd4⟩ := HK.out w3 hS
  have HB2 := Lib.hid (HB.out.trans (hS.mono HB.out.size))
  have HS := Lib.hid hS
  go_wp2_with fail
  refine (queKey_any _ _ _ _ _ _).mono ?_
  rintro e w9 ⟨⟨g13, rfl, k13⟩, hb9⟩
  have HB3 := Lib.hid (HB2.out.trans (hb9.mono HB2.out.size))
  have HK2 := Lib.hid (fun (V : World) (hV : Below w9.heap.size w9 V) => HK.out V ((HS.out.trans (hb9.mono HS.out.size)).trans (hV.mono (Nat.le_trans HS.out.size hb9.size))))
  have H13 := Lib.hid (fun (V : World) (hV : Below w9.heap.size w9 V) => (hV.block _ (heap_lt k13)).trans k13)
  clear fa0 fa1 fa2 fa3 fa4 fa5 fa6 fa7 fb0 fb1 fb2 fb3 fb4 fb5 fb6 fb7 fp0 fp1 fp2 fp3 fp4 fq0 fq1 fq2 fq3 fq4 fc0 fc1 fc2 fc3 fc4 fc5 fc6 fc7 fd0 fd1 fd2 fd3 fd4 k13 hb9 hS
  go_wp2_with fail
  refine RgX.region 22 (fun i => (if i = 21 then 10 else 63 + i)) (fun ix_ => match ix_ with | 0 => .v (.agg #[.int .i64 qc, .int .i64 qh, .int .i64 qt, .int .i64 qk, .int .i64 qi]) | 1 => .v (.agg #[.int .i64 qc2, .int .i64 qh2, .int .i64 qt2, .int .i64 qk2, .int .i64 qi2]) | 2 => .v (.int .i64 S1) | 3 => .v (.slice (some ⟨g13, 0, none⟩) 5 5) | 4 => .v (.agg #[.int .i64 qc2, .int .i64 qh2, .int .i64 qt2, .int .i64 qk2, .int .i64 qi2]) | 5 => .row #[.int .i64 qc2, .int .i64 qh2, .int .i64 qt2, .int .i64 qk2, .int .i64 qi2] 3 5 | 6 => .v (.int .i64 S1) | 7 => .v (.bool true) | 8 => .v (.bool true) | 9 => .v (.agg #[.int .i64 qc, .int .i64 qh, .int .i64 qt, .int .i64 qk, .int .i64 qi]) | 10 => .v (.agg #[.int .i64 qc, .int .i64 qh, .int .i64 qt, .int .i64 qk2, .int .i64 qi]) | 11 => .v (.int .i64 S2) | 12 => .v (.slice (some ⟨g13, 0, none⟩) 5 5) | 13 => .v (.agg #[.int .i64 qc, .int .i64 qh, .int .i64 qt, .int .i64 qk2, .int .i64 qi]) | 14 => .row #[.int .i64 qc, .int .i64 qh, .int .i64 qt, .int .i64 qk2, .int .i64 qi] 3 5 | 15 => .v (.int .i64 S2) | 16 => .v (.bool true) | 17 => .v (.bool true) | 18 => .v (.bool true) | 19 => .v (.bool true) | 20 => .v (.bool true) | 21 => .v (.bool true) | _ => .any) (by kernel_rfl) rfl (by kernel_rfl)  (fun i hi => by show (if i = 21 then 10 else 63 + i) < 84; (repeat' split) <;> omega) (fun i j hi hj => by show (if i = 21 then 10 else 63 + i) = (if j = 21 then 10 else 63 + j) → i = j; (repeat' split) <;> omega) ?step ?fin
  case step =>
    intro L_ A_ w3 ix op_ hI ho hdep
    have hi : ix < 22 := (Array.getElem?_eq_some_iff.1 ho).1
    have hcase : ix = 0 ∨ ix = 1 ∨ ix = 2 ∨ ix = 3 ∨ ix = 4 ∨ ix = 5 ∨ ix = 6 ∨ ix = 7 ∨ ix = 8 ∨ ix = 9 ∨ ix = 10 ∨ ix = 11 ∨ ix = 12 ∨ ix = 13 ∨ ix = 14 ∨ ix = 15 ∨ ix = 16 ∨ ix = 17 ∨ ix = 18 ∨ ix = 19 ∨ ix = 20 ∨ ix = 21 := by omega
    have hh := hI.held
    clear hi
    rcases hcase with rfl | rfl | rfl | rfl | rfl | rfl | rfl | rfl | rfl | rfl | rfl | rfl | rfl | rfl | rfl | rfl | rfl | rfl | rfl | rfl | rfl | rfl
    · simp only [List.getElem?_toArray, List.getElem?_cons_zero, Option.some.injEq] at ho
      subst ho
      refine ⟨rfl, ?_⟩
      have e7 : A_.tmps[7]?.getD undef = .pointer (some ⟨w.heap.size + 1 + 1, 0, none⟩) := by rw [hI.low 7 (by decide)]; rfl
      clear hI hdep
      obtain ⟨⟨fa0, fa1, fa2, fa3, fa4, fa5, fa6, fa7⟩, ⟨fb0, fb1, fb2, fb3, fb4, fb5, fb6, fb7⟩, ⟨fp0, fp1, fp2, fp3, fp4⟩, ⟨fq0, fq1, fq2, fq3, fq4⟩, ⟨fc0, fc1, fc2, fc3, fc4, fc5, fc6, fc7⟩, fd0, fd1, fd2, fd3, fd4⟩ := HK2.out w3 hh
      exact .run rfl (.agg #[.int .i64 qc, .int .i64 qh, .int .i64 qt, .int .i64 qk, .int .i64 qi]) w3 (by simp [execOp, go_sem, Act.eval, *]) (Below.refl _ _) rfl
    · simp only [List.getElem?_toArray, List.getElem?_cons_succ, List.getElem?_cons_zero, Option.some.injEq] at ho
      subst ho
      refine ⟨rfl, ?_⟩
      have e8 : A_.tmps[8]?.getD undef = .pointer (some ⟨w.heap.size + 1 + 1 + 1, 0, none⟩) := by rw [hI.low 8 (by decide)]; rfl
      clear hI hdep
      obtain ⟨⟨fa0, fa1, fa2, fa3, fa4, fa5, fa6, fa7⟩, ⟨fb0, fb1, fb2, fb3, fb4, fb5, fb6, fb7⟩, ⟨fp0, fp1, fp2, fp3, fp4⟩, ⟨fq0, fq1, fq2, fq3, fq4⟩, ⟨fc0, fc1, fc2, fc3, fc4, fc5, fc6, fc7⟩, fd0, fd1, fd2, fd3, fd4⟩ := HK2.out w3 hh
      exact .run rfl (.agg #[.int .i64 qc2, .int .i64 qh2, .int .i64 qt2, .int .i64 qk2, .int .i64 qi2]) w3 (by simp [execOp, go_sem, Act.eval, *]) (Below.refl _ _) rfl
    · simp only [List.getElem?_toArray, List.getElem?_cons_succ, List.getElem?_cons_zero, Option.some.injEq] at ho
      subst ho
      refine ⟨rfl, ?_⟩
      have e63 : A_.tmps[63]?.getD undef = .agg #[.int .i64 qc, .int .i64 qh, .int .i64 qt, .int .i64 qk, .int .i64 qi] := getD_of (hI.val_ (i := 0) rfl rfl (by decide) (hdep ⟨0, .data⟩ (by simp) rfl))
      have e64 : A_.tmps[64]?.getD undef = .agg #[.int .i64 qc2, .int .i64 qh2, .int .i64 qt2, .int .i64 qk2, .int .i64 qi2] := getD_of (hI.val_ (i := 1) rfl rfl (by decide) (hdep ⟨1, .data⟩ (by simp) rfl))
      clear hI hdep
      exact .call rfl 9 #[.agg #[.int .i64 qc, .int .i64 qh, .int .i64 qt, .int .i64 qk, .int .i64 qi], .agg #[.int .i64 qc2, .int .i64 qh2, .int .i64 qt2, .int .i64 qk2, .int .i64 qi2]] (by simp [go_sem, Act.eval, e63, e64]) ((HQ1.out w3).mono fun _ _ ⟨h1_, h2_⟩ => ⟨⟨_, h1_, rfl⟩, h2_⟩)
    · simp only [List.getElem?_toArray, List.getElem?_cons_succ, List.getElem?_cons_zero, Option.some.injEq] at ho
      subst ho
      refine ⟨rfl, ?_⟩
      have e13 : A_.tmps[13]?.getD undef = .slice (some ⟨g13, 0, none⟩) 5 5 := by rw [hI.low 13 (by decide)]; rfl
      clear hI hdep
      exact .run rfl (.slice (some ⟨g13, 0, none⟩) 5 5) w3 (by simp [execOp, go_sem, Act.eval, e13]) (Below.refl _ _) rfl
    · simp only [List.getElem?_toArray, List.getElem?_cons_succ, List.getElem?_cons_zero, Option.some.injEq] at ho
      subst ho
      refine ⟨rfl, ?_⟩
      have e8 : A_.tmps[8]?.getD undef = .pointer (some ⟨w.heap.size + 1 + 1 + 1, 0, none⟩) := by rw [hI.low 8 (by decide)]; rfl
      clear hI hdep
      obtain ⟨⟨fa0, fa1, fa2, fa3, fa4, fa5, fa6, fa7⟩, ⟨fb0, fb1, fb2, fb3, fb4, fb5, fb6, fb7⟩, ⟨fp0, fp1, fp2, fp3, fp4⟩, ⟨fq0, fq1, fq2, fq3, fq4⟩, ⟨fc0, fc1, fc2, fc3, fc4, fc5, fc6, fc7⟩, fd0, fd1, fd2, fd3, fd4⟩ := HK2.out w3 hh
      exact .run rfl (.agg #[.int .i64 qc2, .int .i64 qh2, .int .i64 qt2, .int .i64 qk2, .int .i64 qi2]) w3 (by simp [execOp, go_sem, Act.eval, *]) (Below.refl _ _) rfl
    · simp only [List.getElem?_toArray, List.getElem?_cons_succ, List.getElem?_cons_zero, Option.some.injEq] at ho
      subst ho
      refine ⟨rfl, ?_⟩
      have e67 : A_.tmps[67]?.getD undef = .agg #[.int .i64 qc2, .int .i64 qh2, .int .i64 qt2, .int .i64 qk2, .int .i64 qi2] := getD_of (hI.val_ (i := 4) rfl rfl (by decide) (hdep ⟨4, .data⟩ (by simp) rfl))
      clear hI hdep
      exact .call rfl 8 #[.agg #[.int .i64 qc2, .int .i64 qh2, .int .i64 qt2, .int .i64 qk2, .int .i64 qi2]] (by simp [go_sem, Act.eval, e67]) (queKey_row _ _ _ _ _ w3)
    · simp only [List.getElem?_toArray, List.getElem?_cons_succ, List.getElem?_cons_zero, Option.some.injEq] at ho
      subst ho
      refine ⟨rfl, ?_⟩
      have e66 : A_.tmps[66]?.getD undef = .slice (some ⟨g13, 0, none⟩) 5 5 := getD_of (hI.val_ (i := 3) rfl rfl (by decide) (hdep ⟨3, .data⟩ (by simp) rfl))
      obtain ⟨_, e68, g68, rfl, r68⟩ := hI.get_ (i := 5) (j := 68) rfl rfl (by decide) (hdep ⟨5, .data⟩ (by simp) rfl)
      clear hI hdep
      exact .call rfl 10 #[.slice (some ⟨g13, 0, none⟩) 5 5, .slice (some ⟨g68, 0, none⟩) 5 5] (by simp [go_sem, Act.eval, e66, e68]) ((HL1.out w3 g13 g68 (H13.out w3 hh) r68).mono fun _ _ ⟨h1_, h2_⟩ => ⟨⟨_, h1_, rfl⟩, h2_⟩)
    · simp only [List.getElem?_toArray, List.getElem?_cons_succ, List.getElem?_cons_zero, Option.some.injEq] at ho
      subst ho
      refine ⟨rfl, ?_⟩
      have e65 : A_.tmps[65]?.getD undef = .int .i64 S1 := getD_of (hI.val_ (i := 2) rfl rfl (by decide) (hdep ⟨2, .data⟩ (by simp) rfl))
      have e69 : A_.tmps[69]?.getD undef = .int .i64 S1 := getD_of (hI.val_ (i := 6) rfl rfl (by decide) (hdep ⟨6, .data⟩ (by simp) rfl))
      clear hI hdep
      exact .run rfl (.bool true) w3 (by simp [execOp, go_sem, Act.eval, *]) (Below.refl _ _) rfl
    · simp only [List.getElem?_toArray, List.getElem?_cons_succ, List.getElem?_cons_zero, Option.some.injEq] at ho
      subst ho
      refine ⟨rfl, ?_⟩
      have e70 : A_.tmps[70]?.getD undef = .bool true := getD_of (hI.val_ (i := 7) rfl rfl (by decide) (hdep ⟨7, .data⟩ (by simp) rfl))
      clear hI hdep
      exact .run rfl (.bool true) w3 (by simp [execOp, go_sem, Act.eval, e70]) (Below.refl _ _) rfl
    · simp only [List.getElem?_toArray, List.getElem?_cons_succ, List.getElem?_cons_zero, Option.some.injEq] at ho
      subst ho
      refine ⟨rfl, ?_⟩
      have q71 : A_.tmps[71]? = some (.bool true) := hI.val_ (i := 8) rfl rfl (by decide) (hdep ⟨8, .guard⟩ (by simp) rfl)
      have e7 : A_.tmps[7]?.getD undef = .pointer (some ⟨w.heap.size + 1 + 1, 0, none⟩) := by rw [hI.low 7 (by decide)]; rfl
      clear hI hdep
      obtain ⟨⟨fa0, fa1, fa2, fa3, fa4, fa5, fa6, fa7⟩, ⟨fb0, fb1, fb2, fb3, fb4, fb5, fb6, fb7⟩, ⟨fp0, fp1, fp2, fp3, fp4⟩, ⟨fq0, fq1, fq2, fq3, fq4⟩, ⟨fc0, fc1, fc2, fc3, fc4, fc5, fc6, fc7⟩, fd0, fd1, fd2, fd3, fd4⟩ := HK2.out w3 hh
      exact .run ((wanted_some rfl rfl q71).trans rfl) (.agg #[.int .i64 qc, .int .i64 qh, .int .i64 qt, .int .i64 qk, .int .i64 qi]) w3 (by simp [execOp, go_sem, Act.eval, *]) (Below.refl _ _) rfl
    · simp only [List.getElem?_toArray, List.getElem?_cons_succ, List.getElem?_cons_zero, Option.some.injEq] at ho
      subst ho
      refine ⟨rfl, ?_⟩
      have q71 : A_.tmps[71]? = some (.bool true) := hI.val_ (i := 8) rfl rfl (by decide) (hdep ⟨8, .guard⟩ (by simp) rfl)
      have e12 : A_.tmps[12]?.getD undef = .pointer (some ⟨U5.heap.size, 0, none⟩) := by rw [hI.low 12 (by decide)]; rfl
      clear hI hdep
      obtain ⟨⟨fa0, fa1, fa2, fa3, fa4, fa5, fa6, fa7⟩, ⟨fb0, fb1, fb2, fb3, fb4, fb5, fb6, fb7⟩, ⟨fp0, fp1, fp2, fp3, fp4⟩, ⟨fq0, fq1, fq2, fq3, fq4⟩, ⟨fc0, fc1, fc2, fc3, fc4, fc5, fc6, fc7⟩, fd0, fd1, fd2, fd3, fd4⟩ := HK2.out w3 hh
      exact .run ((wanted_some rfl rfl q71).trans rfl) (.agg #[.int .i64 qc, .int .i64 qh, .int .i64 qt, .int .i64 qk2, .int .i64 qi]) w3 (by simp [execOp, go_sem, Act.eval, *]) (Below.refl _ _) rfl
    · simp only [List.getElem?_toArray, List.getElem?_cons_succ, List.getElem?_cons_zero, Option.some.injEq] at ho
      subst ho
      refine ⟨rfl, ?_⟩
      have q71 : A_.tmps[71]? = some (.bool true) := hI.val_ (i := 8) rfl rfl (by decide) (hdep ⟨8, .guard⟩ (by simp) rfl)
      have e72 : A_.tmps[72]?.getD undef = .agg #[.int .i64 qc, .int .i64 qh, .int .i64 qt, .int .i64 qk, .int .i64 qi] := getD_of (hI.val_ (i := 9) rfl rfl (by decide) (hdep ⟨9, .data⟩ (by simp) rfl))
      have e73 : A_.tmps[73]?.getD undef = .agg #[.int .i64 qc, .int .i64 qh, .int .i64 qt, .int .i64 qk2, .int .i64 qi] := getD_of (hI.val_ (i := 10) rfl rfl (by decide) (hdep ⟨10, .data⟩ (by simp) rfl))
      clear hI hdep
      exact .call ((wanted_some rfl rfl q71).trans rfl) 9 #[.agg #[.int .i64 qc, .int .i64 qh, .int .i64 qt, .int .i64 qk, .int .i64 qi], .agg #[.int .i64 qc, .int .i64 qh, .int .i64 qt, .int .i64 qk2, .int .i64 qi]] (by simp [go_sem, Act.eval, e72, e73]) ((HQ2.out w3).mono fun _ _ ⟨h1_, h2_⟩ => ⟨⟨_, h1_, rfl⟩, h2_⟩)
    · simp only [List.getElem?_toArray, List.getElem?_cons_succ, List.getElem?_cons_zero, Option.some.injEq] at ho
      subst ho
      refine ⟨rfl, ?_⟩
      have q71 : A_.tmps[71]? = some (.bool true) := hI.val_ (i := 8) rfl rfl (by decide) (hdep ⟨8, .guard⟩ (by simp) rfl)
      have e13 : A_.tmps[13]?.getD undef = .slice (some ⟨g13, 0, none⟩) 5 5 := by rw [hI.low 13 (by decide)]; rfl
      clear hI hdep
      exact .run ((wanted_some rfl rfl q71).trans rfl) (.slice (some ⟨g13, 0, none⟩) 5 5) w3 (by simp [execOp, go_sem, Act.eval, e13]) (Below.refl _ _) rfl
    · simp only [List.getElem?_toArray, List.getElem?_cons_succ, List.getElem?_cons_zero, Option.some.injEq] at ho
      subst ho
      refine ⟨rfl, ?_⟩
      have q71 : A_.tmps[71]? = some (.bool true) := hI.val_ (i := 8) rfl rfl (by decide) (hdep ⟨8, .guard⟩ (by simp) rfl)
      have e12 : A_.tmps[12]?.getD undef = .pointer (some ⟨U5.heap.size, 0, none⟩) := by rw [hI.low 12 (by decide)]; rfl
      clear hI hdep
      obtain ⟨⟨fa0, fa1, fa2, fa3, fa4, fa5, fa6, fa7⟩, ⟨fb0, fb1, fb2, fb3, fb4, fb5, fb6, fb7⟩, ⟨fp0, fp1, fp2, fp3, fp4⟩, ⟨fq0, fq1, fq2, fq3, fq4⟩, ⟨fc0, fc1, fc2, fc3, fc4, fc5, fc6, fc7⟩, fd0, fd1, fd2, fd3, fd4⟩ := HK2.out w3 hh
      exact .run ((wanted_some rfl rfl q71).trans rfl) (.agg #[.int .i64 qc, .int .i64 qh, .int .i64 qt, .int .i64 qk2, .int .i64 qi]) w3 (by simp [execOp, go_sem, Act.eval, *]) (Below.refl _ _) rfl
    · simp only [List.getElem?_toArray, List.getElem?_cons_succ, List.getElem?_cons_zero, Option.some.injEq] at ho
      subst ho
      refine ⟨rfl, ?_⟩
      have q71 : A_.tmps[71]? = some (.bool true) := hI.val_ (i := 8) rfl rfl (by decide) (hdep ⟨8, .guard⟩ (by simp) rfl)
      have e76 : A_.tmps[76]?.getD undef = .agg #[.int .i64 qc, .int .i64 qh, .int .i64 qt, .int .i64 qk2, .int .i64 qi] := getD_of (hI.val_ (i := 13) rfl rfl (by decide) (hdep ⟨13, .data⟩ (by simp) rfl))
      clear hI hdep
      exact .call ((wanted_some rfl rfl q71).trans rfl) 8 #[.agg #[.int .i64 qc, .int .i64 qh, .int .i64 qt, .int .i64 qk2, .int .i64 qi]] (by simp [go_sem, Act.eval, e76]) (queKey_row _ _ _ _ _ w3)
    · simp only [List.getElem?_toArray, List.getElem?_cons_succ, List.getElem?_cons_zero, Option.some.injEq] at ho
      subst ho
      refine ⟨rfl, ?_⟩
      have q71 : A_.tmps[71]? = some (.bool true) := hI.val_ (i := 8) rfl rfl (by decide) (hdep ⟨8, .guard⟩ (by simp) rfl)
      have e75 : A_.tmps[75]?.getD undef = .slice (some ⟨g13, 0, none⟩) 5 5 := getD_of (hI.val_ (i := 12) rfl rfl (by decide) (hdep ⟨12, .data⟩ (by simp) rfl))
      obtain ⟨_, e77, g77, rfl, r77⟩ := hI.get_ (i := 14) (j := 77) rfl rfl (by decide) (hdep ⟨14, .data⟩ (by simp) rfl)
      clear hI hdep
      exact .call ((wanted_some rfl rfl q71).trans rfl) 10 #[.slice (some ⟨g13, 0, none⟩) 5 5, .slice (some ⟨g77, 0, none⟩) 5 5] (by simp [go_sem, Act.eval, e75, e77]) ((HL2.out w3 g13 g77 (H13.out w3 hh) r77).mono fun _ _ ⟨h1_, h2_⟩ => ⟨⟨_, h1_, rfl⟩, h2_⟩)
    · simp only [List.getElem?_toArray, List.getElem?_cons_succ, List.getElem?_cons_zero, Option.some.injEq] at ho
      subst ho
      refine ⟨rfl, ?_⟩
      have q71 : A_.tmps[71]? = some (.bool true) := hI.val_ (i := 8) rfl rfl (by decide) (hdep ⟨8, .guard⟩ (by simp) rfl)
      have e74 : A_.tmps[74]?.getD undef = .int .i64 S2 := getD_of (hI.val_ (i := 11) rfl rfl (by decide) (hdep ⟨11, .data⟩ (by simp) rfl))
      have e78 : A_.tmps[78]?.getD undef = .int .i64 S2 := getD_of (hI.val_ (i := 15) rfl rfl (by decide) (hdep ⟨15, .data⟩ (by simp) rfl))
      clear hI hdep
      exact .run ((wanted_some rfl rfl q71).trans rfl) (.bool true) w3 (by simp [execOp, go_sem, Act.eval, *]) (Below.refl _ _) rfl
    · simp only [List.getElem?_toArray, List.getElem?_cons_succ, List.getElem?_cons_zero, Option.some.injEq] at ho
      subst ho
      refine ⟨rfl, ?_⟩
      have e71 : A_.tmps[71]?.getD undef = .bool true := getD_of (hI.val_ (i := 8) rfl rfl (by decide) (hdep ⟨8, .data⟩ (by simp) rfl))
      have e79 : A_.tmps[79]?.getD undef = .bool true := getD_of (hI.val_ (i := 16) rfl rfl (by decide) (hdep ⟨16, .data⟩ (by simp) rfl))
      clear hI hdep
      exact .run rfl (.bool true) w3 (by simp [execOp, go_sem, Act.eval, e71, e79]) (Below.refl _ _) rfl
    · simp only [List.getElem?_toArray, List.getElem?_cons_succ, List.getElem?_cons_zero, Option.some.injEq] at ho
      subst ho
      refine ⟨rfl, ?_⟩
      have e80 : A_.tmps[80]?.getD undef = .bool true := getD_of (hI.val_ (i := 17) rfl rfl (by decide) (hdep ⟨17, .data⟩ (by simp) rfl))
      clear hI hdep
      exact .run rfl (.bool true) w3 (by simp [execOp, go_sem, Act.eval, e80]) (Below.refl _ _) rfl
    · simp only [List.getElem?_toArray, List.getElem?_cons_succ, List.getElem?_cons_zero, Option.some.injEq] at ho
      subst ho
      refine ⟨rfl, ?_⟩
      have q81 : A_.tmps[81]? = some (.bool true) := hI.val_ (i := 18) rfl rfl (by decide) (hdep ⟨18, .guard⟩ (by simp) rfl)
      clear hI hdep
      exact .call ((wanted_some rfl rfl q81).trans rfl) 11 #[] (by simp [go_sem]) ((HL.out w3 (HB3.out.trans (hh.mono HB3.out.size))).mono fun _ _ ⟨h1_, h2_⟩ => ⟨⟨_, h1_, rfl⟩, h2_⟩)
    · simp only [List.getElem?_toArray, List.getElem?_cons_succ, List.getElem?_cons_zero, Option.some.injEq] at ho
      subst ho
      refine ⟨rfl, ?_⟩
      have e81 : A_.tmps[81]?.getD undef = .bool true := getD_of (hI.val_ (i := 18) rfl rfl (by decide) (hdep ⟨18, .data⟩ (by simp) rfl))
      have e82 : A_.tmps[82]?.getD undef = .bool true := getD_of (hI.val_ (i := 19) rfl rfl (by decide) (hdep ⟨19, .data⟩ (by simp) rfl))
      clear hI hdep
      exact .run rfl (.bool true) w3 (by simp [execOp, go_sem, Act.eval, e81, e82]) (Below.refl _ _) rfl
    · simp only [List.getElem?_toArray, List.getElem?_cons_succ, List.getElem?_cons_zero, Option.some.injEq] at ho
      subst ho
      refine ⟨rfl, ?_⟩
      have e83 : A_.tmps[83]?.getD undef = .bool true := getD_of (hI.val_ (i := 20) rfl rfl (by decide) (hdep ⟨20, .data⟩ (by simp) rfl))
      clear hI hdep
      exact .run rfl (.bool true) w3 (by simp [execOp, go_sem, Act.eval, e83]) (Below.refl _ _) rfl
  case fin =>
  intro A_ w3 hs hd hlow hS hok
  obtain ⟨_, hy68, g68, rfl, r68⟩ := hok 5 68 _ (by decide) rfl rfl
  obtain ⟨_, hy77, g77, rfl, r77⟩ := hok 14 77 _ (by decide) rfl rfl
  obtain rfl : A_ = ⟨#[.agg #[.int .i64 k, .int .i64 n, .int .i64 a, .int .i64 c, .int .i64 h, .int .i64 t, .int .i64 i, .int .i64 p], .agg #[.int .i64 k2, .int .i64 n2, .int .i64 a2, .int .i64 c2, .int .i64 h2, .int .i64 t2, .int .i64 i2, .int .i64 p2], .agg #[.int .i64 qc, .int .i64 qh, .int .i64 qt, .int .i64 qk, .int .i64 qi], .agg #[.int .i64 qc2, .int .i64 qh2, .int .i64 qt2, .int .i64 qk2, .int .i64 qi2], .int .i64 at_, .pointer (some ⟨w.heap.size, 0, none⟩), .pointer (some ⟨w.heap.size + 1, 0, none⟩), .pointer (some ⟨w.heap.size + 1 + 1, 0, none⟩), .pointer (some ⟨w.heap.size + 1 + 1 + 1, 0, none⟩), undef, .bool true, .pointer (some ⟨U.heap.size, 0, none⟩), .pointer (some ⟨U5.heap.size, 0, none⟩), .slice (some ⟨g13, 0, none⟩) 5 5, .agg #[.int .i64 k, .int .i64 n, .int .i64 a, .int .i64 c, .int .i64 h, .int .i64 t, .int .i64 i, .int .i64 p], .agg #[.int .i64 qc, .int .i64 qh, .int .i64 qt, .int .i64 qk, .int .i64 qi], .int .i64 at_, .int .i64 0, undef, undef, undef, .bool true, .bool true, .pointer (some ⟨w.heap.size + 1, 0, none⟩), .int .i64 k2, .pointer (some ⟨U.heap.size, 0, none⟩), .pointer (some ⟨w.heap.size + 1 + 1 + 1, 3, none⟩), .int .i64 qk2, .pointer (some ⟨U5.heap.size, 3, none⟩), undef, undef, undef, undef, undef, undef, undef, undef, undef, undef, undef, undef, undef, undef, undef, undef, .agg #[.int .i64 k, .int .i64 n, .int .i64 a, .int .i64 c, .int .i64 h, .int .i64 t, .int .i64 i, .int .i64 p], .agg #[.int .i64 k2, .int .i64 n2, .int .i64 a2, .int .i64 c2, .int .i64 h2, .int .i64 t2, .int .i64 i2, .int .i64 p2], .int .i64 R1, .agg #[.int .i64 k, .int .i64 n, .int .i64 a, .int .i64 c, .int .i64 h, .int .i64 t, .int .i64 i, .int .i64 p], .agg #[.int .i64 k2, .int .i64 n2, .int .i64 a2, .int .i64 c2, .int .i64 h2, .int .i64 t2, .int .i64 i2, .int .i64 p2], .int .i64 R1, .bool false, .bool false, .agg #[.int .i64 k, .int .i64 n, .int .i64 a, .int .i64 c, .int .i64 h, .int .i64 t, .int .i64 i, .int .i64 p], .agg #[.int .i64 k2, .int .i64 n, .int .i64 a, .int .i64 c, .int .i64 h, .int .i64 t, .int .i64 i, .int .i64 p], .int .i64 R2, .agg #[.int .i64 k, .int .i64 n, .int .i64 a, .int .i64 c, .int .i64 h, .int .i64 t, .int .i64 i, .int .i64 p], .agg #[.int .i64 k2, .int .i64 n, .int .i64 a, .int .i64 c, .int .i64 h, .int .i64 t, .int .i64 i, .int .i64 p], .int .i64 R2, .bool false, .bool false, .agg #[.int .i64 qc, .int .i64 qh, .int .i64 qt, .int .i64 qk, .int .i64 qi], .slice (some ⟨g13, 0, none⟩) 5 5, .agg #[.int .i64 qc, .int .i64 qh, .int .i64 qt, .int .i64 qk, .int .i64 qi], .agg #[.int .i64 qc2, .int .i64 qh2, .int .i64 qt2, .int .i64 qk2, .int .i64 qi2], .int .i64 S1, .slice (some ⟨g13, 0, none⟩) 5 5, .agg #[.int .i64 qc2, .int .i64 qh2, .int .i64 qt2, .int .i64 qk2, .int .i64 qi2], .slice (some ⟨g68, 0, none⟩) 5 5, .int .i64 S1, .bool true, .bool true, .agg #[.int .i64 qc, .int .i64 qh, .int .i64 qt, .int .i64 qk, .int .i64 qi], .agg #[.int .i64 qc, .int .i64 qh, .int .i64 qt, .int .i64 qk2, .int .i64 qi], .int .i64 S2, .slice (some ⟨g13, 0, none⟩) 5 5, .agg #[.int .i64 qc, .int .i64 qh, .int .i64 qt, .int .i64 qk2, .int .i64 qi], .slice (some ⟨g77, 0, none⟩) 5 5, .int .i64 S2, .bool true, .bool true, .bool true, .bool true, .bool true], []⟩ := act_ext hd hs (fun j hj => match j, hj with | 0, _ => (hlow 0 (by decide)).trans rfl | 1, _ => (hlow 1 (by decide)).trans rfl | 2, _ => (hlow 2 (by decide)).trans rfl | 3, _ => (hlow 3 (by decide)).trans rfl | 4, _ => (hlow 4 (by decide)).trans rfl | 5, _ => (hlow 5 (by decide)).trans rfl | 6, _ => (hlow 6 (by decide)).trans rfl | 7, _ => (hlow 7 (by decide)).trans rfl | 8, _ => (hlow 8 (by decide)).trans rfl | 9, _ => (hlow 9 (by decide)).trans rfl | 10, _ => RgX.val_at (hok 21 10 _ (by decide) rfl rfl) | 11, _ => (hlow 11 (by decide)).trans rfl | 12, _ => (hlow 12 (by decide)).trans rfl | 13, _ => (hlow 13 (by decide)).trans rfl | 14, _ => (hlow 14 (by decide)).trans rfl | 15, _ => (hlow 15 (by decide)).trans rfl | 16, _ => (hlow 16 (by decide)).trans rfl | 17, _ => (hlow 17 (by decide)).trans rfl | 18, _ => (hlow 18 (by decide)).trans rfl | 19, _ => (hlow 19 (by decide)).trans rfl | 20, _ => (hlow 20 (by decide)).trans rfl | 21, _ => (hlow 21 (by decide)).trans rfl | 22, _ => (hlow 22 (by decide)).trans rfl | 23, _ => (hlow 23 (by decide)).trans rfl | 24, _ => (hlow 24 (by decide)).trans rfl | 25, _ => (hlow 25 (by decide)).trans rfl | 26, _ => (hlow 26 (by decide)).trans rfl | 27, _ => (hlow 27 (by decide)).trans rfl | 28, _ => (hlow 28 (by decide)).trans rfl | 29, _ => (hlow 29 (by decide)).trans rfl | 30, _ => (hlow 30 (by decide)).trans rfl | 31, _ => (hlow 31 (by decide)).trans rfl | 32, _ => (hlow 32 (by decide)).trans rfl | 33, _ => (hlow 33 (by decide)).trans rfl | 34, _ => (hlow 34 (by decide)).trans rfl | 35, _ => (hlow 35 (by decide)).trans rfl | 36, _ => (hlow 36 (by decide)).trans rfl | 37, _ => (hlow 37 (by decide)).trans rfl | 38, _ => (hlow 38 (by decide)).trans rfl | 39, _ => (hlow 39 (by decide)).trans rfl | 40, _ => (hlow 40 (by decide)).trans rfl | 41, _ => (hlow 41 (by decide)).trans rfl | 42, _ => (hlow 42 (by decide)).trans rfl | 43, _ => (hlow 43 (by decide)).trans rfl | 44, _ => (hlow 44 (by decide)).trans rfl | 45, _ => (hlow 45 (by decide)).trans rfl | 46, _ => (hlow 46 (by decide)).trans rfl | 47, _ => (hlow 47 (by decide)).trans rfl | 48, _ => (hlow 48 (by decide)).trans rfl | 49, _ => (hlow 49 (by decide)).trans rfl | 50, _ => (hlow 50 (by decide)).trans rfl | 51, _ => (hlow 51 (by decide)).trans rfl | 52, _ => (hlow 52 (by decide)).trans rfl | 53, _ => (hlow 53 (by decide)).trans rfl | 54, _ => (hlow 54 (by decide)).trans rfl | 55, _ => (hlow 55 (by decide)).trans rfl | 56, _ => (hlow 56 (by decide)).trans rfl | 57, _ => (hlow 57 (by decide)).trans rfl | 58, _ => (hlow 58 (by decide)).trans rfl | 59, _ => (hlow 59 (by decide)).trans rfl | 60, _ => (hlow 60 (by decide)).trans rfl | 61, _ => (hlow 61 (by decide)).trans rfl | 62, _ => (hlow 62 (by decide)).trans rfl | 63, _ => RgX.val_at (hok 0 63 _ (by decide) rfl rfl) | 64, _ => RgX.val_at (hok 1 64 _ (by decide) rfl rfl) | 65, _ => RgX.val_at (hok 2 65 _ (by decide) rfl rfl) | 66, _ => RgX.val_at (hok 3 66 _ (by decide) rfl rfl) | 67, _ => RgX.val_at (hok 4 67 _ (by decide) rfl rfl) | 68, _ => hy68 | 69, _ => RgX.val_at (hok 6 69 _ (by decide) rfl rfl) | 70, _ => RgX.val_at (hok 7 70 _ (by decide) rfl rfl) | 71, _ => RgX.val_at (hok 8 71 _ (by decide) rfl rfl) | 72, _ => RgX.val_at (hok 9 72 _ (by decide) rfl rfl) | 73, _ => RgX.val_at (hok 10 73 _ (by decide) rfl rfl) | 74, _ => RgX.val_at (hok 11 74 _ (by decide) rfl rfl) | 75, _ => RgX.val_at (hok 12 75 _ (by decide) rfl rfl) | 76, _ => RgX.val_at (hok 13 76 _ (by decide) rfl rfl) | 77, _ => hy77 | 78, _ => RgX.val_at (hok 15 78 _ (by decide) rfl rfl) | 79, _ => RgX.val_at (hok 16 79 _ (by decide) rfl rfl) | 80, _ => RgX.val_at (hok 17 80 _ (by decide) rfl rfl) | 81, _ => RgX.val_at (hok 18 81 _ (by decide) rfl rfl) | 82, _ => RgX.val_at (hok 19 82 _ (by decide) rfl rfl) | 83, _ => RgX.val_at (hok 20 83 _ (by decide) rfl rfl) | n + 84, h => absurd h (by show ¬ n + 84 < 84; omega))
  clear hs hd hlow hok hy68 hy77
  go_wp2_with fail
  go_ret
  exact ⟨rfl, HB3.out.trans (hS.mono HB3.out.size)⟩
set_option maxHeartbeats 4000000 in
set_option maxRecDepth 100000 in
theorem walk_1 (k n a c h t i p k2 n2 a2 c2 h2 t2 i2 p2 qc qh qt qk qi qc2 qh2 qt2 qk2 qi2 at_ R1 R2 S1 S2 : Int) (w : World)
    (HA : Hid (∀ V, Calls Tryd.prog 5 #[.int .i64 at_, .int .i64 4] V fun e w' => e = .returned (.int .i64 1) ∧ V = w'))
    (HC1 : Hid (∀ V, Calls Tryd.prog 6 #[.agg #[.int .i64 k, .int .i64 n, .int .i64 a, .int .i64 c, .int .i64 h, .int .i64 t, .int .i64 i, .int .i64 p], .agg #[.int .i64 k2, .int .i64 n2, .int .i64 a2, .int .i64 c2, .int .i64 h2, .int .i64 t2, .int .i64 i2, .int .i64 p2]] V fun e w' => e = .returned (.int .i64 R1) ∧ Below V.heap.size V w'))
    (HC2 : Hid (∀ V, Calls Tryd.prog 6 #[.agg #[.int .i64 k, .int .i64 n, .int .i64 a, .int .i64 c, .int .i64 h, .int .i64 t, .int .i64 i, .int .i64 p], .agg #[.int .i64 k, .int .i64 n2, .int .i64 a, .int .i64 c, .int .i64 h, .int .i64 t, .int .i64 i, .int .i64 p]] V fun e w' => e = .returned (.int .i64 R2) ∧ Below V.heap.size V w'))
    (HR1 : Hid (∀ V, Calls Tryd.prog 7 #[.agg #[.int .i64 k, .int .i64 n, .int .i64 a, .int .i64 c, .int .i64 h, .int .i64 t, .int .i64 i, .int .i64 p], .agg #[.int .i64 k2, .int .i64 n2, .int .i64 a2, .int .i64 c2, .int .i64 h2, .int .i64 t2, .int .i64 i2, .int .i64 p2]] V fun e w' => e = .returned (.int .i64 R1) ∧ Below V.heap.size V w'))
    (HR2 : Hid (∀ V, Calls Tryd.prog 7 #[.agg #[.int .i64 k, .int .i64 n, .int .i64 a, .int .i64 c, .int .i64 h, .int .i64 t, .int .i64 i, .int .i64 p], .agg #[.int .i64 k, .int .i64 n2, .int .i64 a, .int .i64 c, .int .i64 h, .int .i64 t, .int .i64 i, .int .i64 p]] V fun e w' => e = .returned (.int .i64 R2) ∧ Below V.heap.size V w'))
    (HQ1 : Hid (∀ V, Calls Tryd.prog 9 #[.agg #[.int .i64 qc, .int .i64 qh, .int .i64 qt, .int .i64 qk, .int .i64 qi], .agg #[.int .i64 qc2, .int .i64 qh2, .int .i64 qt2, .int .i64 qk2, .int .i64 qi2]] V fun e w' => e = .returned (.int .i64 S1) ∧ Below V.heap.size V w'))
    (HQ2 : Hid (∀ V, Calls Tryd.prog 9 #[.agg #[.int .i64 qc, .int .i64 qh, .int .i64 qt, .int .i64 qk, .int .i64 qi], .agg #[.int .i64 qc, .int .i64 qh, .int .i64 qt, .int .i64 qk, .int .i64 qi2]] V fun e w' => e = .returned (.int .i64 S2) ∧ Below V.heap.size V w'))
    (HL1 : Hid (∀ (V : World) (g1 g2 : Nat), V.heap[g1]? = some (.cells #[.int .i64 qc, .int .i64 qh, .int .i64 qt, .int .i64 qk, .int .i64 qi] 3 (0, 0)) → V.heap[g2]? = some (.cells #[.int .i64 qc2, .int .i64 qh2, .int .i64 qt2, .int .i64 qk2, .int .i64 qi2] 3 (0, 0)) → Calls Tryd.prog 10 #[.slice (some ⟨g1, 0, none⟩) 5 5, .slice (some ⟨g2, 0, none⟩) 5 5] V fun e w' => e = .returned (.int .i64 S1) ∧ Below V.heap.size V w'))
    (HL2 : Hid (∀ (V : World) (g1 g2 : Nat), V.heap[g1]? = some (.cells #[.int .i64 qc, .int .i64 qh, .int .i64 qt, .int .i64 qk, .int .i64 qi] 3 (0, 0)) → V.heap[g2]? = some (.cells #[.int .i64 qc, .int .i64 qh, .int .i64 qt, .int .i64 qk, .int .i64 qi2] 3 (0, 0)) → Calls Tryd.prog 10 #[.slice (some ⟨g1, 0, none⟩) 5 5, .slice (some ⟨g2, 0, none⟩) 5 5] V fun e w' => e = .returned (.int .i64 S2) ∧ Below V.heap.size V w'))
    (HL : Hid (∀ V, Below w.heap.size w V → Calls Tryd.prog 11 #[] V fun e w' => e = .returned (.bool true) ∧ Below V.heap.size V w')) :
    Calls Tryd.prog 3 #[.agg #[.int .i64 k, .int .i64 n, .int .i64 a, .int .i64 c, .int .i64 h, .int .i64 t, .int .i64 i, .int .i64 p], .agg #[.int .i64 k2, .int .i64 n2, .int .i64 a2, .int .i64 c2, .int .i64 h2, .int .i64 t2, .int .i64 i2, .int .i64 p2], .agg #[.int .i64 qc, .int .i64 qh, .int .i64 qt, .int .i64 qk, .int .i64 qi], .agg #[.int .i64 qc2, .int .i64 qh2, .int .i64 qt2, .int .i64 qk2, .int .i64 qi2], .int .i64 at_] w fun e w' => e = .returned (.bool true) ∧ Below w.heap.size w w' := by
  obtain ⟨U, hU, hb0, ka, kb, kp, kq, hz⟩ := four_boxes w (.cells #[.int .i64 k, .int .i64 n, .int .i64 a, .int .i64 c, .int .i64 h, .int .i64 t, .int .i64 i, .int .i64 p] 27) (.cells #[.int .i64 k2, .int .i64 n2, .int .i64 a2, .int .i64 c2, .int .i64 h2, .int .i64 t2, .int .i64 i2, .int .i64 p2] 27) (.cells #[.int .i64 qc, .int .i64 qh, .int .i64 qt, .int .i64 qk, .int .i64 qi] 29) (.cells #[.int .i64 qc2, .int .i64 qh2, .int .i64 qt2, .int .i64 qk2, .int .i64 qi2] 29)
  obtain ⟨U5, hU5⟩ : ∃ V, U.alloc (.cells #[.int .i64 k, .int .i64 n, .int .i64 a, .int .i64 c, .int .i64 h, .int .i64 t, .int .i64 i, .int .i64 p] 27) = V := ⟨_, rfl⟩
  obtain ⟨U6, hU6⟩ : ∃ V, U5.alloc (.cells #[.int .i64 qc, .int .i64 qh, .int .i64 qt, .int .i64 qk, .int .i64 qi] 29) = V := ⟨_, rfl⟩
  have hb5 : Below U.heap.size U U5 := hU5 ▸ one_box U _
  have hb6 : Below U5.heap.size U5 U6 := hU6 ▸ one_box U5 _
  have hz5 : U5.heap.size = U.heap.size + 1 := by rw [← hU5]; simp
  have hz6 : U6.heap.size = U.heap.size + 2 := by rw [← hU6]; simp; omega
  have kc5 : U5.heap[U.heap.size]? = some (.cells #[.int .i64 k, .int .i64 n, .int .i64 a, .int .i64 c, .int .i64 h, .int .i64 t, .int .i64 i, .int .i64 p] 27 (0, 0)) := by rw [← hU5]; exact new_at rfl
  have ka5 := (hb5.block (w.heap.size) (by omega)).trans ka
  have kb5 := (hb5.block (w.heap.size + 1) (by omega)).trans kb
  have kp5 := (hb5.block (w.heap.size + 1 + 1) (by omega)).trans kp
  have kq5 := (hb5.block (w.heap.size + 1 + 1 + 1) (by omega)).trans kq
  have ka6 := (hb6.block (w.heap.size) (by omega)).trans ka5
  have kb6 := (hb6.block (w.heap.size + 1) (by omega)).trans kb5
  have kp6 := (hb6.block (w.heap.size + 1 + 1) (by omega)).trans kp5
  have kq6 := (hb6.block (w.heap.size + 1 + 1 + 1) (by omega)).trans kq5
  have kc6 := (hb6.block (U.heap.size) (by omega)).trans kc5
  have kd6 : U6.heap[U5.heap.size]? = some (.cells #[.int .i64 qc, .int .i64 qh, .int .i64 qt, .int .i64 qk, .int .i64 qi] 29 (0, 0)) := by rw [← hU6]; exact new_at rfl
  have ka7 : (U6.setCell ⟨U.heap.size, 1, none⟩ (.int .i64 n2)).heap[w.heap.size]? = some (.cells #[.int .i64 k, .int .i64 n, .int .i64 a, .int .i64 c, .int .i64 h, .int .i64 t, .int .i64 i, .int .i64 p] 27 (0, 0)) := (other_set (by omega)).trans ka6
  have kb7 : (U6.setCell ⟨U.heap.size, 1, none⟩ (.int .i64 n2)).heap[w.heap.size + 1]? = some (.cells #[.int .i64 k2, .int .i64 n2, .int .i64 a2, .int .i64 c2, .int .i64 h2, .int .i64 t2, .int .i64 i2, .int .i64 p2] 27 (0, 0)) := (other_set (by omega)).trans kb6
  have kp7 : (U6.setCell ⟨U.heap.size, 1, none⟩ (.int .i64 n2)).heap[w.heap.size + 1 + 1]? = some (.cells #[.int .i64 qc, .int .i64 qh, .int .i64 qt, .int .i64 qk, .int .i64 qi] 29 (0, 0)) := (other_set (by omega)).trans kp6
  have kq7 : (U6.setCell ⟨U.heap.size, 1, none⟩ (.int .i64 n2)).heap[w.heap.size + 1 + 1 + 1]? = some (.cells #[.int .i64 qc2, .int .i64 qh2, .int .i64 qt2, .int .i64 qk2, .int .i64 qi2] 29 (0, 0)) := (other_set (by omega)).trans kq6
  have kc7 : (U6.setCell ⟨U.heap.size, 1, none⟩ (.int .i64 n2)).heap[U.heap.size]? = some (.cells #[.int .i64 k, .int .i64 n2, .int .i64 a, .int .i64 c, .int .i64 h, .int .i64 t, .int .i64 i, .int .i64 p] 27 (0, 0)) := cell_set kc6
  have kd7 : (U6.setCell ⟨U.heap.size, 1, none⟩ (.int .i64 n2)).heap[U5.heap.size]? = some (.cells #[.int .i64 qc, .int .i64 qh, .int .i64 qt, .int .i64 qk, .int .i64 qi] 29 (0, 0)) := (other_set (by omega)).trans kd6
  have hs7 : (U6.setCell ⟨U.heap.size, 1, none⟩ (.int .i64 n2)).heap.size = U.heap.size + 2 := by simp [World.setCell]; omega
  have ka8 : ((U6.setCell ⟨U.heap.size, 1, none⟩ (.int .i64 n2)).setCell ⟨U5.heap.size, 4, none⟩ (.int .i64 qi2)).heap[w.heap.size]? = some (.cells #[.int .i64 k, .int .i64 n, .int .i64 a, .int .i64 c, .int .i64 h, .int .i64 t, .int .i64 i, .int .i64 p] 27 (0, 0)) := (other_set (by omega)).trans ka7
  have kb8 : ((U6.setCell ⟨U.heap.size, 1, none⟩ (.int .i64 n2)).setCell ⟨U5.heap.size, 4, none⟩ (.int .i64 qi2)).heap[w.heap.size + 1]? = some (.cells #[.int .i64 k2, .int .i64 n2, .int .i64 a2, .int .i64 c2, .int .i64 h2, .int .i64 t2, .int .i64 i2, .int .i64 p2] 27 (0, 0)) := (other_set (by omega)).trans kb7
  have kp8 : ((U6.setCell ⟨U.heap.size, 1, none⟩ (.int .i64 n2)).setCell ⟨U5.heap.size, 4, none⟩ (.int .i64 qi2)).heap[w.heap.size + 1 + 1]? = some (.cells #[.int .i64 qc, .int .i64 qh, .int .i64 qt, .int .i64 qk, .int .i64 qi] 29 (0, 0)) := (other_set (by omega)).trans kp7
  have kq8 : ((U6.setCell ⟨U.heap.size, 1, none⟩ (.int .i64 n2)).setCell ⟨U5.heap.size, 4, none⟩ (.int .i64 qi2)).heap[w.heap.size + 1 + 1 + 1]? = some (.cells #[.int .i64 qc2, .int .i64 qh2, .int .i64 qt2, .int .i64 qk2, .int .i64 qi2] 29 (0, 0)) := (other_set (by omega)).trans kq7
  have kc8 : ((U6.setCell ⟨U.heap.size, 1, none⟩ (.int .i64 n2)).setCell ⟨U5.heap.size, 4, none⟩ (.int .i64 qi2)).heap[U.heap.size]? = some (.cells #[.int .i64 k, .int .i64 n2, .int .i64 a, .int .i64 c, .int .i64 h, .int .i64 t, .int .i64 i, .int .i64 p] 27 (0, 0)) := (other_set (by omega)).trans kc7
  have kd8 : ((U6.setCell ⟨U.heap.size, 1, none⟩ (.int .i64 n2)).setCell ⟨U5.heap.size, 4, none⟩ (.int .i64 qi2)).heap[U5.heap.size]? = some (.cells #[.int .i64 qc, .int .i64 qh, .int .i64 qt, .int .i64 qk, .int .i64 qi2] 29 (0, 0)) := cell_set kd7
  have hs8 : ((U6.setCell ⟨U.heap.size, 1, none⟩ (.int .i64 n2)).setCell ⟨U5.heap.size, 4, none⟩ (.int .i64 qi2)).heap.size = U.heap.size + 2 := by rw [← hs7]; simp [World.setCell]
  have hbF : Below w.heap.size w ((U6.setCell ⟨U.heap.size, 1, none⟩ (.int .i64 n2)).setCell ⟨U5.heap.size, 4, none⟩ (.int .i64 qi2)) := ((((hb0.trans (hb5.mono hb0.size)).trans (hb6.mono (by omega)))).setCell (by show w.heap.size ≤ U.heap.size; omega) _).setCell (by show w.heap.size ≤ U5.heap.size; omega) _
  have HF := Lib.hid (And.intro ka8 (And.intro kb8 (And.intro kp8 (And.intro kq8 (And.intro kc8 (And.intro kd8 (And.intro hs8 hbF)))))))
  have HZ := Lib.hid (And.intro hz hz5)
  obtain ⟨ua0, ua1, ua2, ua3, ua4, ua5, ua6, ua7⟩ := row8 ka
  obtain ⟨vp0, vp1, vp2, vp3, vp4⟩ := row5 kp5
  obtain ⟨xb0, xb1, xb2, xb3, xb4, xb5, xb6, xb7⟩ := row8 kb6
  obtain ⟨xc0, xc1, xc2, xc3, xc4, xc5, xc6, xc7⟩ := row8 kc6
  have fz6 := froz kc6 1
  have fz7 := froz kd7 4
  obtain ⟨yq0, yq1, yq2, yq3, yq4⟩ := row5 kq7
  obtain ⟨yd0, yd1, yd2, yd3, yd4⟩ := row5 kd7
  clear ka kb kp kq kc5 ka5 kb5 kp5 kq5 ka6 ka7 ka8 kb6 kb7 kb8 kp6 kp7 kp8 kq6 kq7 kq8 kc6 kc7 kc8 kd6 kd7 kd8 hs7 hs8 hb0 hb5 hb6 hbF hz hz5 hz6
  go_enter Tryd.func3, Tryd.ntmps3
  go_wp2_with (go_at_call 5; refine (HA.out _).mono ?_; rintro e w1 ⟨rfl, rfl⟩)
  clear hU hU5 hU6 ua0 ua1 ua2 ua3 ua4 ua5 ua6 ua7 vp0 vp1 vp2 vp3 vp4 xb0 xb1 xb2 xb3 xb4 xb5 xb6 xb7 xc0 xc1 xc2 xc3 xc4 xc5 xc6 xc7 fz6 fz7 yq0 yq1 yq2 yq3 yq4 yd0 yd1 yd2 yd3 yd4
  obtain ⟨ka, kb, kp, kq, kc, kd, hs, hbF⟩ := HF.out
  obtain ⟨hz, hz5⟩ := HZ.out
  obtain ⟨W8, hW8⟩ : ∃ V, ((U6.setCell ⟨U.heap.size, 1, none⟩ (.int .i64 n2)).setCell ⟨U5.heap.size, 4, none⟩ (.int .i64 qi2)) = V := ⟨_, rfl⟩
  clear HF HZ
  rw [hW8] at ka kb kp kq kc kd hs hbF ⊢
  clear hW8
  have HB := Lib.hid hbF
  have HK := Lib.hid (fun (V : World) (hV : Below W8.heap.size W8 V) => And.intro (row8 ((hV.block _ (by omega)).trans ka)) (And.intro (row8 ((hV.block _ (by omega)).trans kb)) (And.intro (row5 ((hV.block _ (by omega)).trans kp)) (And.intro (row5 ((hV.block _ (by omega)).trans kq)) (And.intro (row8 ((hV.block _ (by omega)).trans kc)) (row5 ((hV.block _ (by omega)).trans kd)))))))
  clear ka kb kp kq kc kd hbF hs hz hz5
  refine RgX.region 16 (fun i => ( 45 + i)) (fun ix_ => match ix_ with | 0 => .v (.agg #[.int .i64 k, .int .i64 n, .int .i64 a, .int .i64 c, .int .i64 h, .int .i64 t, .int .i64 i, .int .i64 p]) | 1 => .v (.agg #[.int .i64 k2, .int .i64 n2, .int .i64 a2, .int .i64 c2, .int .i64 h2, .int .i64 t2, .int .i64 i2, .int .i64 p2]) | 2 => .v (.int .i64 R1) | 3 => .v (.agg #[.int .i64 k, .int .i64 n, .int .i64 a, .int .i64 c, .int .i64 h, .int .i64 t, .int .i64 i, .int .i64 p]) | 4 => .v (.agg #[.int .i64 k2, .int .i64 n2, .int .i64 a2, .int .i64 c2, .int .i64 h2, .int .i64 t2, .int .i64 i2, .int .i64 p2]) | 5 => .v (.int .i64 R1) | 6 => .v (.bool false) | 7 => .v (.bool false) | 8 => .v (.agg #[.int .i64 k, .int .i64 n, .int .i64 a, .int .i64 c, .int .i64 h, .int .i64 t, .int .i64 i, .int .i64 p]) | 9 => .v (.agg #[.int .i64 k, .int .i64 n2, .int .i64 a, .int .i64 c, .int .i64 h, .int .i64 t, .int .i64 i, .int .i64 p]) | 10 => .v (.int .i64 R2) | 11 => .v (.agg #[.int .i64 k, .int .i64 n, .int .i64 a, .int .i64 c, .int .i64 h, .int .i64 t, .int .i64 i, .int .i64 p]) | 12 => .v (.agg #[.int .i64 k, .int .i64 n2, .int .i64 a, .int .i64 c, .int .i64 h, .int .i64 t, .int .i64 i, .int .i64 p]) | 13 => .v (.int .i64 R2) | 14 => .v (.bool false) | 15 => .v (.bool false) | _ => .any) (by kernel_rfl) rfl (by kernel_rfl)  (fun i hi => by show ( 45 + i) < 84; (repeat' split) <;> omega) (fun i j hi hj => by show ( 45 + i) = ( 45 + j) → i = j; (repeat' split) <;> omega) ?step ?fin
  case step =>
    intro L_ A_ w3 ix op_ hI ho hdep
    have hi : ix < 16 := (Array.getElem?_eq_some_iff.1 ho).1
    have hcase : ix = 0 ∨ ix = 1 ∨ ix = 2 ∨ ix = 3 ∨ ix = 4 ∨ ix = 5 ∨ ix = 6 ∨ ix = 7 ∨ ix = 8 ∨ ix = 9 ∨ ix = 10 ∨ ix = 11 ∨ ix = 12 ∨ ix = 13 ∨ ix = 14 ∨ ix = 15 := by omega
    have hh := hI.held
    clear hi
    rcases hcase with rfl | rfl | rfl | rfl | rfl | rfl | rfl | rfl | rfl | rfl | rfl | rfl | rfl | rfl | rfl | rfl
    · simp only [List.getElem?_toArray, List.getElem?_cons_zero, Option.some.injEq] at ho
      subst ho
      refine ⟨rfl, ?_⟩
      have e5 : A_.tmps[5]?.getD undef = .pointer (some ⟨w.heap.size, 0, none⟩) := by rw [hI.low 5 (by decide)]; rfl
      clear hI hdep
      obtain ⟨⟨fa0, fa1, fa2, fa3, fa4, fa5, fa6, fa7⟩, ⟨fb0, fb1, fb2, fb3, fb4, fb5, fb6, fb7⟩, ⟨fp0, fp1, fp2, fp3, fp4⟩, ⟨fq0, fq1, fq2, fq3, fq4⟩, ⟨fc0, fc1, fc2, fc3, fc4, fc5, fc6, fc7⟩, fd0, fd1, fd2, fd3, fd4⟩ := HK.out w3 hh
      exact .run rfl (.agg #[.int .i64 k, .int .i64 n, .int .i64 a, .int .i64 c, .int .i64 h, .int .i64 t, .int .i64 i, .int .i64 p]) w3 (by simp [execOp, go_sem, Act.eval, *]) (Below.refl _ _) rfl
    · simp only [List.getElem?_toArray, List.getElem?_cons_succ, List.getElem?_cons_zero, Option.some.injEq] at ho
      subst ho
      refine ⟨rfl, ?_⟩
      have e6 : A_.tmps[6]?.getD undef = .pointer (some ⟨w.heap.size + 1, 0, none⟩) := by rw [hI.low 6 (by decide)]; rfl
      clear hI hdep
      obtain ⟨⟨fa0, fa1, fa2, fa3, fa4, fa5, fa6, fa7⟩, ⟨fb0, fb1, fb2, fb3, fb4, fb5, fb6, fb7⟩, ⟨fp0, fp1, fp2, fp3, fp4⟩, ⟨fq0, fq1, fq2, fq3, fq4⟩, ⟨fc0, fc1, fc2, fc3, fc4, fc5, fc6, fc7⟩, fd0, fd1, fd2, fd3, fd4⟩ := HK.out w3 hh
      exact .run rfl (.agg #[.int .i64 k2, .int .i64 n2, .int .i64 a2, .int .i64 c2, .int .i64 h2, .int .i64 t2, .int .i64 i2, .int .i64 p2]) w3 (by simp [execOp, go_sem, Act.eval, *]) (Below.refl _ _) rfl
    · simp only [List.getElem?_toArray, List.getElem?_cons_succ, List.getElem?_cons_zero, Option.some.injEq] at ho
      subst ho
      refine ⟨rfl, ?_⟩
      have e45 : A_.tmps[45]?.getD undef = .agg #[.int .i64 k, .int .i64 n, .int .i64 a, .int .i64 c, .int .i64 h, .int .i64 t, .int .i64 i, .int .i64 p] := getD_of (hI.val_ (i := 0) rfl rfl (by decide) (hdep ⟨0, .data⟩ (by simp) rfl))
      have e46 : A_.tmps[46]?.getD undef = .agg #[.int .i64 k2, .int .i64 n2, .int .i64 a2, .int .i64 c2, .int .i64 h2, .int .i64 t2, .int .i64 i2, .int .i64 p2] := getD_of (hI.val_ (i := 1) rfl rfl (by decide) (hdep ⟨1, .data⟩ (by simp) rfl))
      clear hI hdep
      exact .call rfl 6 #[.agg #[.int .i64 k, .int .i64 n, .int .i64 a, .int .i64 c, .int .i64 h, .int .i64 t, .int .i64 i, .int .i64 p], .agg #[.int .i64 k2, .int .i64 n2, .int .i64 a2, .int .i64 c2, .int .i64 h2, .int .i64 t2, .int .i64 i2, .int .i64 p2]] (by simp [go_sem, Act.eval, e45, e46]) ((HC1.out w3).mono fun _ _ ⟨h1_, h2_⟩ => ⟨⟨_, h1_, rfl⟩, h2_⟩)
    · simp only [List.getElem?_toArray, List.getElem?_cons_succ, List.getElem?_cons_zero, Option.some.injEq] at ho
      subst ho
      refine ⟨rfl, ?_⟩
      have e5 : A_.tmps[5]?.getD undef = .pointer (some ⟨w.heap.size, 0, none⟩) := by rw [hI.low 5 (by decide)]; rfl
      clear hI hdep
      obtain ⟨⟨fa0, fa1, fa2, fa3, fa4, fa5, fa6, fa7⟩, ⟨fb0, fb1, fb2, fb3, fb4, fb5, fb6, fb7⟩, ⟨fp0, fp1, fp2, fp3, fp4⟩, ⟨fq0, fq1, fq2, fq3, fq4⟩, ⟨fc0, fc1, fc2, fc3, fc4, fc5, fc6, fc7⟩, fd0, fd1, fd2, fd3, fd4⟩ := HK.out w3 hh
      exact .run rfl (.agg #[.int .i64 k, .int .i64 n, .int .i64 a, .int .i64 c, .int .i64 h, .int .i64 t, .int .i64 i, .int .i64 p]) w3 (by simp [execOp, go_sem, Act.eval, *]) (Below.refl _ _) rfl
    · simp only [List.getElem?_toArray, List.getElem?_cons_succ, List.getElem?_cons_zero, Option.some.injEq] at ho
      subst ho
      refine ⟨rfl, ?_⟩
      have e6 : A_.tmps[6]?.getD undef = .pointer (some ⟨w.heap.size + 1, 0, none⟩) := by rw [hI.low 6 (by decide)]; rfl
      clear hI hdep
      obtain ⟨⟨fa0, fa1, fa2, fa3, fa4, fa5, fa6, fa7⟩, ⟨fb0, fb1, fb2, fb3, fb4, fb5, fb6, fb7⟩, ⟨fp0, fp1, fp2, fp3, fp4⟩, ⟨fq0, fq1, fq2, fq3, fq4⟩, ⟨fc0, fc1, fc2, fc3, fc4, fc5, fc6, fc7⟩, fd0, fd1, fd2, fd3, fd4⟩ := HK.out w3 hh
      exact .run rfl (.agg #[.int .i64 k2, .int .i64 n2, .int .i64 a2, .int .i64 c2, .int .i64 h2, .int .i64 t2, .int .i64 i2, .int .i64 p2]) w3 (by simp [execOp, go_sem, Act.eval, *]) (Below.refl _ _) rfl
    · simp only [List.getElem?_toArray, List.getElem?_cons_succ, List.getElem?_cons_zero, Option.some.injEq] at ho
      subst ho
      refine ⟨rfl, ?_⟩
      have e48 : A_.tmps[48]?.getD undef = .agg #[.int .i64 k, .int .i64 n, .int .i64 a, .int .i64 c, .int .i64 h, .int .i64 t, .int .i64 i, .int .i64 p] := getD_of (hI.val_ (i := 3) rfl rfl (by decide) (hdep ⟨3, .data⟩ (by simp) rfl))
      have e49 : A_.tmps[49]?.getD undef = .agg #[.int .i64 k2, .int .i64 n2, .int .i64 a2, .int .i64 c2, .int .i64 h2, .int .i64 t2, .int .i64 i2, .int .i64 p2] := getD_of (hI.val_ (i := 4) rfl rfl (by decide) (hdep ⟨4, .data⟩ (by simp) rfl))
      clear hI hdep
      exact .call rfl 7 #[.agg #[.int .i64 k, .int .i64 n, .int .i64 a, .int .i64 c, .int .i64 h, .int .i64 t, .int .i64 i, .int .i64 p], .agg #[.int .i64 k2, .int .i64 n2, .int .i64 a2, .int .i64 c2, .int .i64 h2, .int .i64 t2, .int .i64 i2, .int .i64 p2]] (by simp [go_sem, Act.eval, e48, e49]) ((HR1.out w3).mono fun _ _ ⟨h1_, h2_⟩ => ⟨⟨_, h1_, rfl⟩, h2_⟩)
    · simp only [List.getElem?_toArray, List.getElem?_cons_succ, List.getElem?_cons_zero, Option.some.injEq] at ho
      subst ho
      refine ⟨rfl, ?_⟩
      have e47 : A_.tmps[47]?.getD undef = .int .i64 R1 := getD_of (hI.val_ (i := 2) rfl rfl (by decide) (hdep ⟨2, .data⟩ (by simp) rfl))
      have e50 : A_.tmps[50]?.getD undef = .int .i64 R1 := getD_of (hI.val_ (i := 5) rfl rfl (by decide) (hdep ⟨5, .data⟩ (by simp) rfl))
      clear hI hdep
      exact .run rfl (.bool false) w3 (by simp [execOp, go_sem, Act.eval, *]) (Below.refl _ _) rfl
    · simp only [List.getElem?_toArray, List.getElem?_cons_succ, List.getElem?_cons_zero, Option.some.injEq] at ho
      subst ho
      refine ⟨rfl, ?_⟩
      have e51 : A_.tmps[51]?.getD undef = .bool false := getD_of (hI.val_ (i := 6) rfl rfl (by decide) (hdep ⟨6, .data⟩ (by simp) rfl))
      clear hI hdep
      exact .run rfl (.bool false) w3 (by simp [execOp, go_sem, Act.eval, e51]) (Below.refl _ _) rfl
    · simp only [List.getElem?_toArray, List.getElem?_cons_succ, List.getElem?_cons_zero, Option.some.injEq] at ho
      subst ho
      refine ⟨rfl, ?_⟩
      have q52 : A_.tmps[52]? = some (.bool false) := hI.val_ (i := 7) rfl rfl (by decide) (hdep ⟨7, .guard⟩ (by simp) rfl)
      have e5 : A_.tmps[5]?.getD undef = .pointer (some ⟨w.heap.size, 0, none⟩) := by rw [hI.low 5 (by decide)]; rfl
      clear hI hdep
      obtain ⟨⟨fa0, fa1, fa2, fa3, fa4, fa5, fa6, fa7⟩, ⟨fb0, fb1, fb2, fb3, fb4, fb5, fb6, fb7⟩, ⟨fp0, fp1, fp2, fp3, fp4⟩, ⟨fq0, fq1, fq2, fq3, fq4⟩, ⟨fc0, fc1, fc2, fc3, fc4, fc5, fc6, fc7⟩, fd0, fd1, fd2, fd3, fd4⟩ := HK.out w3 hh
      exact .run ((wanted_some rfl rfl q52).trans rfl) (.agg #[.int .i64 k, .int .i64 n, .int .i64 a, .int .i64 c, .int .i64 h, .int .i64 t, .int .i64 i, .int .i64 p]) w3 (by simp [execOp, go_sem, Act.eval, *]) (Below.refl _ _) rfl
    · simp only [List.getElem?_toArray, List.getElem?_cons_succ, List.getElem?_cons_zero, Option.some.injEq] at ho
      subst ho
      refine ⟨rfl, ?_⟩
      have q52 : A_.tmps[52]? = some (.bool false) := hI.val_ (i := 7) rfl rfl (by decide) (hdep ⟨7, .guard⟩ (by simp) rfl)
      have e11 : A_.tmps[11]?.getD undef = .pointer (some ⟨U.heap.size, 0, none⟩) := by rw [hI.low 11 (by decide)]; rfl
      clear hI hdep
      obtain ⟨⟨fa0, fa1, fa2, fa3, fa4, fa5, fa6, fa7⟩, ⟨fb0, fb1, fb2, fb3, fb4, fb5, fb6, fb7⟩, ⟨fp0, fp1, fp2, fp3, fp4⟩, ⟨fq0, fq1, fq2, fq3, fq4⟩, ⟨fc0, fc1, fc2, fc3, fc4, fc5, fc6, fc7⟩, fd0, fd1, fd2, fd3, fd4⟩ := HK.out w3 hh
      exact .run ((wanted_some rfl rfl q52).trans rfl) (.agg #[.int .i64 k, .int .i64 n2, .int .i64 a, .int .i64 c, .int .i64 h, .int .i64 t, .int .i64 i, .int .i64 p]) w3 (by simp [execOp, go_sem, Act.eval, *]) (Below.refl _ _) rfl
    · simp only [List.getElem?_toArray, List.getElem?_cons_succ, List.getElem?_cons_zero, Option.some.injEq] at ho
      subst ho
      refine ⟨rfl, ?_⟩
      have q52 : A_.tmps[52]? = some (.bool false) := hI.val_ (i := 7) rfl rfl (by decide) (hdep ⟨7, .guard⟩ (by simp) rfl)
      have e53 : A_.tmps[53]?.getD undef = .agg #[.int .i64 k, .int .i64 n, .int .i64 a, .int .i64 c, .int .i64 h, .int .i64 t, .int .i64 i, .int .i64 p] := getD_of (hI.val_ (i := 8) rfl rfl (by decide) (hdep ⟨8, .data⟩ (by simp) rfl))
      have e54 : A_.tmps[54]?.getD undef = .agg #[.int .i64 k, .int .i64 n2, .int .i64 a, .int .i64 c, .int .i64 h, .int .i64 t, .int .i64 i, .int .i64 p] := getD_of (hI.val_ (i := 9) rfl rfl (by decide) (hdep ⟨9, .data⟩ (by simp) rfl))
      clear hI hdep
      exact .call ((wanted_some rfl rfl q52).trans rfl) 6 #[.agg #[.int .i64 k, .int .i64 n, .int .i64 a, .int .i64 c, .int .i64 h, .int .i64 t, .int .i64 i, .int .i64 p], .agg #[.int .i64 k, .int .i64 n2, .int .i64 a, .int .i64 c, .int .i64 h, .int .i64 t, .int .i64 i, .int .i64 p]] (by simp [go_sem, Act.eval, e53, e54]) ((HC2.out w3).mono fun _ _ ⟨h1_, h2_⟩ => ⟨⟨_, h1_, rfl⟩, h2_⟩)
    · simp only [List.getElem?_toArray, List.getElem?_cons_succ, List.getElem?_cons_zero, Option.some.injEq] at ho
      subst ho
      refine ⟨rfl, ?_⟩
      have q52 : A_.tmps[52]? = some (.bool false) := hI.val_ (i := 7) rfl rfl (by decide) (hdep ⟨7, .guard⟩ (by simp) rfl)
      have e5 : A_.tmps[5]?.getD undef = .pointer (some ⟨w.heap.size, 0, none⟩) := by rw [hI.low 5 (by decide)]; rfl
      clear hI hdep
      obtain ⟨⟨fa0, fa1, fa2, fa3, fa4, fa5, fa6, fa7⟩, ⟨fb0, fb1, fb2, fb3, fb4, fb5, fb6, fb7⟩, ⟨fp0, fp1, fp2, fp3, fp4⟩, ⟨fq0, fq1, fq2, fq3, fq4⟩, ⟨fc0, fc1, fc2, fc3, fc4, fc5, fc6, fc7⟩, fd0, fd1, fd2, fd3, fd4⟩ := HK.out w3 hh
      exact .run ((wanted_some rfl rfl q52).trans rfl) (.agg #[.int .i64 k, .int .i64 n, .int .i64 a, .int .i64 c, .int .i64 h, .int .i64 t, .int .i64 i, .int .i64 p]) w3 (by simp [execOp, go_sem, Act.eval, *]) (Below.refl _ _) rfl
    · simp only [List.getElem?_toArray, List.getElem?_cons_succ, List.getElem?_cons_zero, Option.some.injEq] at ho
      subst ho
      refine ⟨rfl, ?_⟩
      have q52 : A_.tmps[52]? = some (.bool false) := hI.val_ (i := 7) rfl rfl (by decide) (hdep ⟨7, .guard⟩ (by simp) rfl)
      have e11 : A_.tmps[11]?.getD undef = .pointer (some ⟨U.heap.size, 0, none⟩) := by rw [hI.low 11 (by decide)]; rfl
      clear hI hdep
      obtain ⟨⟨fa0, fa1, fa2, fa3, fa4, fa5, fa6, fa7⟩, ⟨fb0, fb1, fb2, fb3, fb4, fb5, fb6, fb7⟩, ⟨fp0, fp1, fp2, fp3, fp4⟩, ⟨fq0, fq1, fq2, fq3, fq4⟩, ⟨fc0, fc1, fc2, fc3, fc4, fc5, fc6, fc7⟩, fd0, fd1, fd2, fd3, fd4⟩ := HK.out w3 hh
      exact .run ((wanted_some rfl rfl q52).trans rfl) (.agg #[.int .i64 k, .int .i64 n2, .int .i64 a, .int .i64 c, .int .i64 h, .int .i64 t, .int .i64 i, .int .i64 p]) w3 (by simp [execOp, go_sem, Act.eval, *]) (Below.refl _ _) rfl
    · simp only [List.getElem?_toArray, List.getElem?_cons_succ, List.getElem?_cons_zero, Option.some.injEq] at ho
      subst ho
      refine ⟨rfl, ?_⟩
      have q52 : A_.tmps[52]? = some (.bool false) := hI.val_ (i := 7) rfl rfl (by decide) (hdep ⟨7, .guard⟩ (by simp) rfl)
      have e56 : A_.tmps[56]?.getD undef = .agg #[.int .i64 k, .int .i64 n, .int .i64 a, .int .i64 c, .int .i64 h, .int .i64 t, .int .i64 i, .int .i64 p] := getD_of (hI.val_ (i := 11) rfl rfl (by decide) (hdep ⟨11, .data⟩ (by simp) rfl))
      have e57 : A_.tmps[57]?.getD undef = .agg #[.int .i64 k, .int .i64 n2, .int .i64 a, .int .i64 c, .int .i64 h, .int .i64 t, .int .i64 i, .int .i64 p] := getD_of (hI.val_ (i := 12) rfl rfl (by decide) (hdep ⟨12, .data⟩ (by simp) rfl))
      clear hI hdep
      exact .call ((wanted_some rfl rfl q52).trans rfl) 7 #[.agg #[.int .i64 k, .int .i64 n, .int .i64 a, .int .i64 c, .int .i64 h, .int .i64 t, .int .i64 i, .int .i64 p], .agg #[.int .i64 k, .int .i64 n2, .int .i64 a, .int .i64 c, .int .i64 h, .int .i64 t, .int .i64 i, .int .i64 p]] (by simp [go_sem, Act.eval, e56, e57]) ((HR2.out w3).mono fun _ _ ⟨h1_, h2_⟩ => ⟨⟨_, h1_, rfl⟩, h2_⟩)
    · simp only [List.getElem?_toArray, List.getElem?_cons_succ, List.getElem?_cons_zero, Option.some.injEq] at ho
      subst ho
      refine ⟨rfl, ?_⟩
      have q52 : A_.tmps[52]? = some (.bool false) := hI.val_ (i := 7) rfl rfl (by decide) (hdep ⟨7, .guard⟩ (by simp) rfl)
      have e55 : A_.tmps[55]?.getD undef = .int .i64 R2 := getD_of (hI.val_ (i := 10) rfl rfl (by decide) (hdep ⟨10, .data⟩ (by simp) rfl))
      have e58 : A_.tmps[58]?.getD undef = .int .i64 R2 := getD_of (hI.val_ (i := 13) rfl rfl (by decide) (hdep ⟨13, .data⟩ (by simp) rfl))
      clear hI hdep
      exact .run ((wanted_some rfl rfl q52).trans rfl) (.bool false) w3 (by simp [execOp, go_sem, Act.eval, *]) (Below.refl _ _) rfl
    · simp only [List.getElem?_toArray, List.getElem?_cons_succ, List.getElem?_cons_zero, Option.some.injEq] at ho
      subst ho
      refine ⟨rfl, ?_⟩
      have e52 : A_.tmps[52]?.getD undef = .bool false := getD_of (hI.val_ (i := 7) rfl rfl (by decide) (hdep ⟨7, .data⟩ (by simp) rfl))
      have e59 : A_.tmps[59]?.getD undef = .bool false := getD_of (hI.val_ (i := 14) rfl rfl (by decide) (hdep ⟨14, .data⟩ (by simp) rfl))
      clear hI hdep
      exact .run rfl (.bool false) w3 (by simp [execOp, go_sem, Act.eval, e52, e59]) (Below.refl _ _) rfl
  case fin =>
  intro A_ w3 hs hd hlow hS hok
  obtain rfl : A_ = ⟨#[.agg #[.int .i64 k, .int .i64 n, .int .i64 a, .int .i64 c, .int .i64 h, .int .i64 t, .int .i64 i, .int .i64 p], .agg #[.int .i64 k2, .int .i64 n2, .int .i64 a2, .int .i64 c2, .int .i64 h2, .int .i64 t2, .int .i64 i2, .int .i64 p2], .agg #[.int .i64 qc, .int .i64 qh, .int .i64 qt, .int .i64 qk, .int .i64 qi], .agg #[.int .i64 qc2, .int .i64 qh2, .int .i64 qt2, .int .i64 qk2, .int .i64 qi2], .int .i64 at_, .pointer (some ⟨w.heap.size, 0, none⟩), .pointer (some ⟨w.heap.size + 1, 0, none⟩), .pointer (some ⟨w.heap.size + 1 + 1, 0, none⟩), .pointer (some ⟨w.heap.size + 1 + 1 + 1, 0, none⟩), undef, .bool false, .pointer (some ⟨U.heap.size, 0, none⟩), .pointer (some ⟨U5.heap.size, 0, none⟩), undef, .agg #[.int .i64 k, .int .i64 n, .int .i64 a, .int .i64 c, .int .i64 h, .int .i64 t, .int .i64 i, .int .i64 p], .agg #[.int .i64 qc, .int .i64 qh, .int .i64 qt, .int .i64 qk, .int .i64 qi], .int .i64 at_, .int .i64 1, undef, undef, undef, .bool false, .bool false, undef, undef, undef, undef, undef, undef, .bool true, .bool true, .pointer (some ⟨w.heap.size + 1, 1, none⟩), .int .i64 n2, .pointer (some ⟨U.heap.size, 1, none⟩), .pointer (some ⟨w.heap.size + 1 + 1 + 1, 4, none⟩), .int .i64 qi2, .pointer (some ⟨U5.heap.size, 4, none⟩), undef, undef, undef, undef, undef, undef, undef, undef, .agg #[.int .i64 k, .int .i64 n, .int .i64 a, .int .i64 c, .int .i64 h, .int .i64 t, .int .i64 i, .int .i64 p], .agg #[.int .i64 k2, .int .i64 n2, .int .i64 a2, .int .i64 c2, .int .i64 h2, .int .i64 t2, .int .i64 i2, .int .i64 p2], .int .i64 R1, .agg #[.int .i64 k, .int .i64 n, .int .i64 a, .int .i64 c, .int .i64 h, .int .i64 t, .int .i64 i, .int .i64 p], .agg #[.int .i64 k2, .int .i64 n2, .int .i64 a2, .int .i64 c2, .int .i64 h2, .int .i64 t2, .int .i64 i2, .int .i64 p2], .int .i64 R1, .bool false, .bool false, .agg #[.int .i64 k, .int .i64 n, .int .i64 a, .int .i64 c, .int .i64 h, .int .i64 t, .int .i64 i, .int .i64 p], .agg #[.int .i64 k, .int .i64 n2, .int .i64 a, .int .i64 c, .int .i64 h, .int .i64 t, .int .i64 i, .int .i64 p], .int .i64 R2, .agg #[.int .i64 k, .int .i64 n, .int .i64 a, .int .i64 c, .int .i64 h, .int .i64 t, .int .i64 i, .int .i64 p], .agg #[.int .i64 k, .int .i64 n2, .int .i64 a, .int .i64 c, .int .i64 h, .int .i64 t, .int .i64 i, .int .i64 p], .int .i64 R2, .bool false, .bool false, undef, undef, undef, undef, undef, undef, undef, undef, undef, undef, undef, undef, undef, undef, undef, undef, undef, undef, undef, undef, undef, undef, undef], []⟩ := act_ext hd hs (fun j hj => match j, hj with | 0, _ => (hlow 0 (by decide)).trans rfl | 1, _ => (hlow 1 (by decide)).trans rfl | 2, _ => (hlow 2 (by decide)).trans rfl | 3, _ => (hlow 3 (by decide)).trans rfl | 4, _ => (hlow 4 (by decide)).trans rfl | 5, _ => (hlow 5 (by decide)).trans rfl | 6, _ => (hlow 6 (by decide)).trans rfl | 7, _ => (hlow 7 (by decide)).trans rfl | 8, _ => (hlow 8 (by decide)).trans rfl | 9, _ => (hlow 9 (by decide)).trans rfl | 10, _ => (hlow 10 (by decide)).trans rfl | 11, _ => (hlow 11 (by decide)).trans rfl | 12, _ => (hlow 12 (by decide)).trans rfl | 13, _ => (hlow 13 (by decide)).trans rfl | 14, _ => (hlow 14 (by decide)).trans rfl | 15, _ => (hlow 15 (by decide)).trans rfl | 16, _ => (hlow 16 (by decide)).trans rfl | 17, _ => (hlow 17 (by decide)).trans rfl | 18, _ => (hlow 18 (by decide)).trans rfl | 19, _ => (hlow 19 (by decide)).trans rfl | 20, _ => (hlow 20 (by decide)).trans rfl | 21, _ => (hlow 21 (by decide)).trans rfl | 22, _ => (hlow 22 (by decide)).trans rfl | 23, _ => (hlow 23 (by decide)).trans rfl | 24, _ => (hlow 24 (by decide)).trans rfl | 25, _ => (hlow 25 (by decide)).trans rfl | 26, _ => (hlow 26 (by decide)).trans rfl | 27, _ => (hlow 27 (by decide)).trans rfl | 28, _ => (hlow 28 (by decide)).trans rfl | 29, _ => (hlow 29 (by decide)).trans rfl | 30, _ => (hlow 30 (by decide)).trans rfl | 31, _ => (hlow 31 (by decide)).trans rfl | 32, _ => (hlow 32 (by decide)).trans rfl | 33, _ => (hlow 33 (by decide)).trans rfl | 34, _ => (hlow 34 (by decide)).trans rfl | 35, _ => (hlow 35 (by decide)).trans rfl | 36, _ => (hlow 36 (by decide)).trans rfl | 37, _ => (hlow 37 (by decide)).trans rfl | 38, _ => (hlow 38 (by decide)).trans rfl | 39, _ => (hlow 39 (by decide)).trans rfl | 40, _ => (hlow 40 (by decide)).trans rfl | 41, _ => (hlow 41 (by decide)).trans rfl | 42, _ => (hlow 42 (by decide)).trans rfl | 43, _ => (hlow 43 (by decide)).trans rfl | 44, _ => (hlow 44 (by decide)).trans rfl | 45, _ => RgX.val_at (hok 0 45 _ (by decide) rfl rfl) | 46, _ => RgX.val_at (hok 1 46 _ (by decide) rfl rfl) | 47, _ => RgX.val_at (hok 2 47 _ (by decide) rfl rfl) | 48, _ => RgX.val_at (hok 3 48 _ (by decide) rfl rfl) | 49, _ => RgX.val_at (hok 4 49 _ (by decide) rfl rfl) | 50, _ => RgX.val_at (hok 5 50 _ (by decide) rfl rfl) | 51, _ => RgX.val_at (hok 6 51 _ (by decide) rfl rfl) | 52, _ => RgX.val_at (hok 7 52 _ (by decide) rfl rfl) | 53, _ => RgX.val_at (hok 8 53 _ (by decide) rfl rfl) | 54, _ => RgX.val_at (hok 9 54 _ (by decide) rfl rfl) | 55, _ => RgX.val_at (hok 10 55 _ (by decide) rfl rfl) | 56, _ => RgX.val_at (hok 11 56 _ (by decide) rfl rfl) | 57, _ => RgX.val_at (hok 12 57 _ (by decide) rfl rfl) | 58, _ => RgX.val_at (hok 13 58 _ (by decide) rfl rfl) | 59, _ => RgX.val_at (hok 14 59 _ (by decide) rfl rfl) | 60, _ => RgX.val_at (hok 15 60 _ (by decide) rfl rfl) | 61, _ => (hlow 61 (by decide)).trans rfl | 62, _ => (hlow 62 (by decide)).trans rfl | 63, _ => (hlow 63 (by decide)).trans rfl | 64, _ => (hlow 64 (by decide)).trans rfl | 65, _ => (hlow 65 (by decide)).trans rfl | 66, _ => (hlow 66 (by decide)).trans rfl | 67, _ => (hlow 67 (by decide)).trans rfl | 68, _ => (hlow 68 (by decide)).trans rfl | 69, _ => (hlow 69 (by decide)).trans rfl | 70, _ => (hlow 70 (by decide)).trans rfl | 71, _ => (hlow 71 (by decide)).trans rfl | 72, _ => (hlow 72 (by decide)).trans rfl | 73, _ => (hlow 73 (by decide)).trans rfl | 74, _ => (hlow 74 (by decide)).trans rfl | 75, _ => (hlow 75 (by decide)).trans rfl | 76, _ => (hlow 76 (by decide)).trans rfl | 77, _ => (hlow 77 (by decide)).trans rfl | 78, _ => (hlow 78 (by decide)).trans rfl | 79, _ => (hlow 79 (by decide)).trans rfl | 80, _ => (hlow 80 (by decide)).trans rfl | 81, _ => (hlow 81 (by decide)).trans rfl | 82, _ => (hlow 82 (by decide)).trans rfl | 83, _ => (hlow 83 (by decide)).trans rfl | n + 84, h => absurd h (by show ¬ n + 84 < 84; omega))
  clear hs hd hlow hok 
  obtain ⟨⟨fa0, fa1, fa2, fa3, fa4, fa5, fa6, fa7⟩, ⟨fb0, fb1, fb2, fb3, fb4, fb5, fb6, fb7⟩, ⟨fp0, fp1, fp2, fp3, fp4⟩, ⟨fq0, fq1, fq2, fq3, fq4⟩, ⟨fc0, fc1, fc2, fc3, fc4, fc5, fc6, fc7⟩, fd0, fd1, fd2, fd3, fd4⟩ := HK.out w3 hS
  have HB2 := Lib.hid (HB.out.trans (hS.mono HB.out.size))
  have HS := Lib.hid hS
  go_wp2_with fail
  refine (queKey_any _ _ _ _ _ _).mono ?_
  rintro e w9 ⟨⟨g13, rfl, k13⟩, hb9⟩
  have HB3 := Lib.hid (HB2.out.trans (hb9.mono HB2.out.size))
  have HK2 := Lib.hid (fun (V : World) (hV : Below w9.heap.size w9 V) => HK.out V ((HS.out.trans (hb9.mono HS.out.size)).trans (hV.mono (Nat.le_trans HS.out.size hb9.size))))
  have H13 := Lib.hid (fun (V : World) (hV : Below w9.heap.size w9 V) => (hV.block _ (heap_lt k13)).trans k13)
  clear fa0 fa1 fa2 fa3 fa4 fa5 fa6 fa7 fb0 fb1 fb2 fb3 fb4 fb5 fb6 fb7 fp0 fp1 fp2 fp3 fp4 fq0 fq1 fq2 fq3 fq4 fc0 fc1 fc2 fc3 fc4 fc5 fc6 fc7 fd0 fd1 fd2 fd3 fd4 k13 hb9 hS
  go_wp2_with fail
  refine RgX.region 22 (fun i => (if i = 21 then 10 else 63 + i)) (fun ix_ => match ix_ with | 0 => .v (.agg #[.int .i64 qc, .int .i64 qh, .int .i64 qt, .int .i64 qk, .int .i64 qi]) | 1 => .v (.agg #[.int .i64 qc2, .int .i64 qh2, .int .i64 qt2, .int .i64 qk2, .int .i64 qi2]) | 2 => .v (.int .i64 S1) | 3 => .v (.slice (some ⟨g13, 0, none⟩) 5 5) | 4 => .v (.agg #[.int .i64 qc2, .int .i64 qh2, .int .i64 qt2, .int .i64 qk2, .int .i64 qi2]) | 5 => .row #[.int .i64 qc2, .int .i64 qh2, .int .i64 qt2, .int .i64 qk2, .int .i64 qi2] 3 5 | 6 => .v (.int .i64 S1) | 7 => .v (.bool true) | 8 => .v (.bool true) | 9 => .v (.agg #[.int .i64 qc, .int .i64 qh, .int .i64 qt, .int .i64 qk, .int .i64 qi]) | 10 => .v (.agg #[.int .i64 qc, .int .i64 qh, .int .i64 qt, .int .i64 qk, .int .i64 qi2]) | 11 => .v (.int .i64 S2) | 12 => .v (.slice (some ⟨g13, 0, none⟩) 5 5) | 13 => .v (.agg #[.int .i64 qc, .int .i64 qh, .int .i64 qt, .int .i64 qk, .int .i64 qi2]) | 14 => .row #[.int .i64 qc, .int .i64 qh, .int .i64 qt, .int .i64 qk, .int .i64 qi2] 3 5 | 15 => .v (.int .i64 S2) | 16 => .v (.bool true) | 17 => .v (.bool true) | 18 => .v (.bool true) | 19 => .v (.bool true) | 20 => .v (.bool true) | 21 => .v (.bool true) | _ => .any) (by kernel_rfl) rfl (by kernel_rfl)  (fun i hi => by show (if i = 21 then 10 else 63 + i) < 84; (repeat' split) <;> omega) (fun i j hi hj => by show (if i = 21 then 10 else 63 + i) = (if j = 21 then 10 else 63 + j) → i = j; (repeat' split) <;> omega) ?step ?fin
  case step =>
    intro L_ A_ w3 ix op_ hI ho hdep
    have hi : ix < 22 := (Array.getElem?_eq_some_iff.1 ho).1
    have hcase : ix = 0 ∨ ix = 1 ∨ ix = 2 ∨ ix = 3 ∨ ix = 4 ∨ ix = 5 ∨ ix = 6 ∨ ix = 7 ∨ ix = 8 ∨ ix = 9 ∨ ix = 10 ∨ ix = 11 ∨ ix = 12 ∨ ix = 13 ∨ ix = 14 ∨ ix = 15 ∨ ix = 16 ∨ ix = 17 ∨ ix = 18 ∨ ix = 19 ∨ ix = 20 ∨ ix = 21 := by omega
    have hh := hI.held
    clear hi
    rcases hcase with rfl | rfl | rfl | rfl | rfl | rfl | rfl | rfl | rfl | rfl | rfl | rfl | rfl | rfl | rfl | rfl | rfl | rfl | rfl | rfl | rfl | rfl
    · simp only [List.getElem?_toArray, List.getElem?_cons_zero, Option.some.injEq] at ho
      subst ho
      refine ⟨rfl, ?_⟩
      have e7 : A_.tmps[7]?.getD undef = .pointer (some ⟨w.heap.size + 1 + 1, 0, none⟩) := by rw [hI.low 7 (by decide)]; rfl
      clear hI hdep
      obtain ⟨⟨fa0, fa1, fa2, fa3, fa4, fa5, fa6, fa7⟩, ⟨fb0, fb1, fb2, fb3, fb4, fb5, fb6, fb7⟩, ⟨fp0, fp1, fp2, fp3, fp4⟩, ⟨fq0, fq1, fq2, fq3, fq4⟩, ⟨fc0, fc1, fc2, fc3, fc4, fc5, fc6, fc7⟩, fd0, fd1, fd2, fd3, fd4⟩ := HK2.out w3 hh
      exact .run rfl (.agg #[.int .i64 qc, .int .i64 qh, .int .i64 qt, .int .i64 qk, .int .i64 qi]) w3 (by simp [execOp, go_sem, Act.eval, *]) (Below.refl _ _) rfl
    · simp only [List.getElem?_toArray, List.getElem?_cons_succ, List.getElem?_cons_zero, Option.some.injEq] at ho
      subst ho
      refine ⟨rfl, ?_⟩
      have e8 : A_.tmps[8]?.getD undef = .pointer (some ⟨w.heap.size + 1 + 1 + 1, 0, none⟩) := by rw [hI.low 8 (by decide)]; rfl
      clear hI hdep
      obtain ⟨⟨fa0, fa1, fa2, fa3, fa4, fa5, fa6, fa7⟩, ⟨fb0, fb1, fb2, fb3, fb4, fb5, fb6, fb7⟩, ⟨fp0, fp1, fp2, fp3, fp4⟩, ⟨fq0, fq1, fq2, fq3, fq4⟩, ⟨fc0, fc1, fc2, fc3, fc4, fc5, fc6, fc7⟩, fd0, fd1, fd2, fd3, fd4⟩ := HK2.out w3 hh
      exact .run rfl (.agg #[.int .i64 qc2, .int .i64 qh2, .int .i64 qt2, .int .i64 qk2, .int .i64 qi2]) w3 (by simp [execOp, go_sem, Act.eval, *]) (Below.refl _ _) rfl
    · simp only [List.getElem?_toArray, List.getElem?_cons_succ, List.getElem?_cons_zero, Option.some.injEq] at ho
      subst ho
      refine ⟨rfl, ?_⟩
      have e63 : A_.tmps[63]?.getD undef = .agg #[.int .i64 qc, .int .i64 qh, .int .i64 qt, .int .i64 qk, .int .i64 qi] := getD_of (hI.val_ (i := 0) rfl rfl (by decide) (hdep ⟨0, .data⟩ (by simp) rfl))
      have e64 : A_.tmps[64]?.getD undef = .agg #[.int .i64 qc2, .int .i64 qh2, .int .i64 qt2, .int .i64 qk2, .int .i64 qi2] := getD_of (hI.val_ (i := 1) rfl rfl (by decide) (hdep ⟨1, .data⟩ (by simp) rfl))
      clear hI hdep
      exact .call rfl 9 #[.agg #[.int .i64 qc, .int .i64 qh, .int .i64 qt, .int .i64 qk, .int .i64 qi], .agg #[.int .i64 qc2, .int .i64 qh2, .int .i64 qt2, .int .i64 qk2, .int .i64 qi2]] (by simp [go_sem, Act.eval, e63, e64]) ((HQ1.out w3).mono fun _ _ ⟨h1_, h2_⟩ => ⟨⟨_, h1_, rfl⟩, h2_⟩)
    · simp only [List.getElem?_toArray, List.getElem?_cons_succ, List.getElem?_cons_zero, Option.some.injEq] at ho
      subst ho
      refine ⟨rfl, ?_⟩
      have e13 : A_.tmps[13]?.getD undef = .slice (some ⟨g13, 0, none⟩) 5 5 := by rw [hI.low 13 (by decide)]; rfl
      clear hI hdep
      exact .run rfl (.slice (some ⟨g13, 0, none⟩) 5 5) w3 (by simp [execOp, go_sem, Act.eval, e13]) (Below.refl _ _) rfl
    · simp only [List.getElem?_toArray, List.getElem?_cons_succ, List.getElem?_cons_zero, Option.some.injEq] at ho
      subst ho
      refine ⟨rfl, ?_⟩
      have e8 : A_.tmps[8]?.getD undef = .pointer (some ⟨w.heap.size + 1 + 1 + 1, 0, none⟩) := by rw [hI.low 8 (by decide)]; rfl
      clear hI hdep
      obtain ⟨⟨fa0, fa1, fa2, fa3, fa4, fa5, fa6, fa7⟩, ⟨fb0, fb1, fb2, fb3, fb4, fb5, fb6, fb7⟩, ⟨fp0, fp1, fp2, fp3, fp4⟩, ⟨fq0, fq1, fq2, fq3, fq4⟩, ⟨fc0, fc1, fc2, fc3, fc4, fc5, fc6, fc7⟩, fd0, fd1, fd2, fd3, fd4⟩ := HK2.out w3 hh
      exact .run rfl (.agg #[.int .i64 qc2, .int .i64 qh2, .int .i64 qt2, .int .i64 qk2, .int .i64 qi2]) w3 (by simp [execOp, go_sem, Act.eval, *]) (Below.refl _ _) rfl
    · simp only [List.getElem?_toArray, List.getElem?_cons_succ, List.getElem?_cons_zero, Option.some.injEq] at ho
      subst ho
      refine ⟨rfl, ?_⟩
      have e67 : A_.tmps[67]?.getD undef = .agg #[.int .i64 qc2, .int .i64 qh2, .int .i64 qt2, .int .i64 qk2, .int .i64 qi2] := getD_of (hI.val_ (i := 4) rfl rfl (by decide) (hdep ⟨4, .data⟩ (by simp) rfl))
      clear hI hdep
      exact .call rfl 8 #[.agg #[.int .i64 qc2, .int .i64 qh2, .int .i64 qt2, .int .i64 qk2, .int .i64 qi2]] (by simp [go_sem, Act.eval, e67]) (queKey_row _ _ _ _ _ w3)
    · simp only [List.getElem?_toArray, List.getElem?_cons_succ, List.getElem?_cons_zero, Option.some.injEq] at ho
      subst ho
      refine ⟨rfl, ?_⟩
      have e66 : A_.tmps[66]?.getD undef = .slice (some ⟨g13, 0, none⟩) 5 5 := getD_of (hI.val_ (i := 3) rfl rfl (by decide) (hdep ⟨3, .data⟩ (by simp) rfl))
      obtain ⟨_, e68, g68, rfl, r68⟩ := hI.get_ (i := 5) (j := 68) rfl rfl (by decide) (hdep ⟨5, .data⟩ (by simp) rfl)
      clear hI hdep
      exact .call rfl 10 #[.slice (some ⟨g13, 0, none⟩) 5 5, .slice (some ⟨g68, 0, none⟩) 5 5] (by simp [go_sem, Act.eval, e66, e68]) ((HL1.out w3 g13 g68 (H13.out w3 hh) r68).mono fun _ _ ⟨h1_, h2_⟩ => ⟨⟨_, h1_, rfl⟩, h2_⟩)
    · simp only [List.getElem?_toArray, List.getElem?_cons_succ, List.getElem?_cons_zero, Option.some.injEq] at ho
      subst ho
      refine ⟨rfl, ?_⟩
      have e65 : A_.tmps[65]?.getD undef = .int .i64 S1 := getD_of (hI.val_ (i := 2) rfl rfl (by decide) (hdep ⟨2, .data⟩ (by simp) rfl))
      have e69 : A_.tmps[69]?.getD undef = .int .i64 S1 := getD_of (hI.val_ (i := 6) rfl rfl (by decide) (hdep ⟨6, .data⟩ (by simp) rfl))
      clear hI hdep
      exact .run rfl (.bool true) w3 (by simp [execOp, go_sem, Act.eval, *]) (Below.refl _ _) rfl
    · simp only [List.getElem?_toArray, List.getElem?_cons_succ, List.getElem?_cons_zero, Option.some.injEq] at ho
      subst ho
      refine ⟨rfl, ?_⟩
      have e70 : A_.tmps[70]?.getD undef = .bool true := getD_of (hI.val_ (i := 7) rfl rfl (by decide) (hdep ⟨7, .data⟩ (by simp) rfl))
      clear hI hdep
      exact .run rfl (.bool true) w3 (by simp [execOp, go_sem, Act.eval, e70]) (Below.refl _ _) rfl
    · simp only [List.getElem?_toArray, List.getElem?_cons_succ, List.getElem?_cons_zero, Option.some.injEq] at ho
      subst ho
      refine ⟨rfl, ?_⟩
      have q71 : A_.tmps[71]? = some (.bool true) := hI.val_ (i := 8) rfl rfl (by decide) (hdep ⟨8, .guard⟩ (by simp) rfl)
      have e7 : A_.tmps[7]?.getD undef = .pointer (some ⟨w.heap.size + 1 + 1, 0, none⟩) := by rw [hI.low 7 (by decide)]; rfl
      clear hI hdep
      obtain ⟨⟨fa0, fa1, fa2, fa3, fa4, fa5, fa6, fa7⟩, ⟨fb0, fb1, fb2, fb3, fb4, fb5, fb6, fb7⟩, ⟨fp0, fp1, fp2, fp3, fp4⟩, ⟨fq0, fq1, fq2, fq3, fq4⟩, ⟨fc0, fc1, fc2, fc3, fc4, fc5, fc6, fc7⟩, fd0, fd1, fd2, fd3, fd4⟩ := HK2.out w3 hh
      exact .run ((wanted_some rfl rfl q71).trans rfl) (.agg #[.int .i64 qc, .int .i64 qh, .int .i64 qt, .int .i64 qk, .int .i64 qi]) w3 (by simp [execOp, go_sem, Act.eval, *]) (Below.refl _ _) rfl
    · simp only [List.getElem?_toArray, List.getElem?_cons_succ, List.getElem?_cons_zero, Option.some.injEq] at ho
      subst ho
      refine ⟨rfl, ?_⟩
      have q71 : A_.tmps[71]? = some (.bool true) := hI.val_ (i := 8) rfl rfl (by decide) (hdep ⟨8, .guard⟩ (by simp) rfl)
      have e12 : A_.tmps[12]?.getD undef = .pointer (some ⟨U5.heap.size, 0, none⟩) := by rw [hI.low 12 (by decide)]; rfl
      clear hI hdep
      obtain ⟨⟨fa0, fa1, fa2, fa3, fa4, fa5, fa6, fa7⟩, ⟨fb0, fb1, fb2, fb3, fb4, fb5, fb6, fb7⟩, ⟨fp0, fp1, fp2, fp3, fp4⟩, ⟨fq0, fq1, fq2, fq3, fq4⟩, ⟨fc0, fc1, fc2, fc3, fc4, fc5, fc6, fc7⟩, fd0, fd1, fd2, fd3, fd4⟩ := HK2.out w3 hh
      exact .run ((wanted_some rfl rfl q71).trans rfl) (.agg #[.int .i64 qc, .int .i64 qh, .int .i64 qt, .int .i64 qk, .int .i64 qi2]) w3 (by simp [execOp, go_sem, Act.eval, *]) (Below.refl _ _) rfl
    · simp only [List.getElem?_toArray, List.getElem?_cons_succ, List.getElem?_cons_zero, Option.some.injEq] at ho
      subst ho
      refine ⟨rfl, ?_⟩
      have q71 : A_.tmps[71]? = some (.bool true) := hI.val_ (i := 8) rfl rfl (by decide) (hdep ⟨8, .guard⟩ (by simp) rfl)
      have e72 : A_.tmps[72]?.getD undef = .agg #[.int .i64 qc, .int .i64 qh, .int .i64 qt, .int .i64 qk, .int .i64 qi] := getD_of (hI.val_ (i := 9) rfl rfl (by decide) (hdep ⟨9, .data⟩ (by simp) rfl))
      have e73 : A_.tmps[73]?.getD undef = .agg #[.int .i64 qc, .int .i64 qh, .int .i64 qt, .int .i64 qk, .int .i64 qi2] := getD_of (hI.val_ (i := 10) rfl rfl (by decide) (hdep ⟨10, .data⟩ (by simp) rfl))
      clear hI hdep
      exact .call ((wanted_some rfl rfl q71).trans rfl) 9 #[.agg #[.int .i64 qc, .int .i64 qh, .int .i64 qt, .int .i64 qk, .int .i64 qi], .agg #[.int .i64 qc, .int .i64 qh, .int .i64 qt, .int .i64 qk, .int .i64 qi2]] (by simp [go_sem, Act.eval, e72, e73]) ((HQ2.out w3).mono fun _ _ ⟨h1_, h2_⟩ => ⟨⟨_, h1_, rfl⟩, h2_⟩)
    · simp only [List.getElem?_toArray, List.getElem?_cons_succ, List.getElem?_cons_zero, Option.some.injEq] at ho
      subst ho
      refine ⟨rfl, ?_⟩
      have q71 : A_.tmps[71]? = some (.bool true) := hI.val_ (i := 8) rfl rfl (by decide) (hdep ⟨8, .guard⟩ (by simp) rfl)
      have e13 : A_.tmps[13]?.getD undef = .slice (some ⟨g13, 0, none⟩) 5 5 := by rw [hI.low 13 (by decide)]; rfl
      clear hI hdep
      exact .run ((wanted_some rfl rfl q71).trans rfl) (.slice (some ⟨g13, 0, none⟩) 5 5) w3 (by simp [execOp, go_sem, Act.eval, e13]) (Below.refl _ _) rfl
    · simp only [List.getElem?_toArray, List.getElem?_cons_succ, List.getElem?_cons_zero, Option.some.injEq] at ho
      subst ho
      refine ⟨rfl, ?_⟩
      have q71 : A_.tmps[71]? = some (.bool true) := hI.val_ (i := 8) rfl rfl (by decide) (hdep ⟨8, .guard⟩ (by simp) rfl)
      have e12 : A_.tmps[12]?.getD undef = .pointer (some ⟨U5.heap.size, 0, none⟩) := by rw [hI.low 12 (by decide)]; rfl
      clear hI hdep
      obtain ⟨⟨fa0, fa1, fa2, fa3, fa4, fa5, fa6, fa7⟩, ⟨fb0, fb1, fb2, fb3, fb4, fb5, fb6, fb7⟩, ⟨fp0, fp1, fp2, fp3, fp4⟩, ⟨fq0, fq1, fq2, fq3, fq4⟩, ⟨fc0, fc1, fc2, fc3, fc4, fc5, fc6, fc7⟩, fd0, fd1, fd2, fd3, fd4⟩ := HK2.out w3 hh
      exact .run ((wanted_some rfl rfl q71).trans rfl) (.agg #[.int .i64 qc, .int .i64 qh, .int .i64 qt, .int .i64 qk, .int .i64 qi2]) w3 (by simp [execOp, go_sem, Act.eval, *]) (Below.refl _ _) rfl
    · simp only [List.getElem?_toArray, List.getElem?_cons_succ, List.getElem?_cons_zero, Option.some.injEq] at ho
      subst ho
      refine ⟨rfl, ?_⟩
      have q71 : A_.tmps[71]? = some (.bool true) := hI.val_ (i := 8) rfl rfl (by decide) (hdep ⟨8, .guard⟩ (by simp) rfl)
      have e76 : A_.tmps[76]?.getD undef = .agg #[.int .i64 qc, .int .i64 qh, .int .i64 qt, .int .i64 qk, .int .i64 qi2] := getD_of (hI.val_ (i := 13) rfl rfl (by decide) (hdep ⟨13, .data⟩ (by simp) rfl))
      clear hI hdep
      exact .call ((wanted_some rfl rfl q71).trans rfl) 8 #[.agg #[.int .i64 qc, .int .i64 qh, .int .i64 qt, .int .i64 qk, .int .i64 qi2]] (by simp [go_sem, Act.eval, e76]) (queKey_row _ _ _ _ _ w3)
    · simp only [List.getElem?_toArray, List.getElem?_cons_succ, List.getElem?_cons_zero, Option.some.injEq] at ho
      subst ho
      refine ⟨rfl, ?_⟩
      have q71 : A_.tmps[71]? = some (.bool true) := hI.val_ (i := 8) rfl rfl (by decide) (hdep ⟨8, .guard⟩ (by simp) rfl)
      have e75 : A_.tmps[75]?.getD undef = .slice (some ⟨g13, 0, none⟩) 5 5 := getD_of (hI.val_ (i := 12) rfl rfl (by decide) (hdep ⟨12, .data⟩ (by simp) rfl))
      obtain ⟨_, e77, g77, rfl, r77⟩ := hI.get_ (i := 14) (j := 77) rfl rfl (by decide) (hdep ⟨14, .data⟩ (by simp) rfl)
      clear hI hdep
      exact .call ((wanted_some rfl rfl q71).trans rfl) 10 #[.slice (some ⟨g13, 0, none⟩) 5 5, .slice (some ⟨g77, 0, none⟩) 5 5] (by simp [go_sem, Act.eval, e75, e77]) ((HL2.out w3 g13 g77 (H13.out w3 hh) r77).mono fun _ _ ⟨h1_, h2_⟩ => ⟨⟨_, h1_, rfl⟩, h2_⟩)
    · simp only [List.getElem?_toArray, List.getElem?_cons_succ, List.getElem?_cons_zero, Option.some.injEq] at ho
      subst ho
      refine ⟨rfl, ?_⟩
      have q71 : A_.tmps[71]? = some (.bool true) := hI.val_ (i := 8) rfl rfl (by decide) (hdep ⟨8, .guard⟩ (by simp) rfl)
      have e74 : A_.tmps[74]?.getD undef = .int .i64 S2 := getD_of (hI.val_ (i := 11) rfl rfl (by decide) (hdep ⟨11, .data⟩ (by simp) rfl))
      have e78 : A_.tmps[78]?.getD undef = .int .i64 S2 := getD_of (hI.val_ (i := 15) rfl rfl (by decide) (hdep ⟨15, .data⟩ (by simp) rfl))
      clear hI hdep
      exact .run ((wanted_some rfl rfl q71).trans rfl) (.bool true) w3 (by simp [execOp, go_sem, Act.eval, *]) (Below.refl _ _) rfl
    · simp only [List.getElem?_toArray, List.getElem?_cons_succ, List.getElem?_cons_zero, Option.some.injEq] at ho
      subst ho
      refine ⟨rfl, ?_⟩
      have e71 : A_.tmps[71]?.getD undef = .bool true := getD_of (hI.val_ (i := 8) rfl rfl (by decide) (hdep ⟨8, .data⟩ (by simp) rfl))
      have e79 : A_.tmps[79]?.getD undef = .bool true := getD_of (hI.val_ (i := 16) rfl rfl (by decide) (hdep ⟨16, .data⟩ (by simp) rfl))
      clear hI hdep
      exact .run rfl (.bool true) w3 (by simp [execOp, go_sem, Act.eval, e71, e79]) (Below.refl _ _) rfl
    · simp only [List.getElem?_toArray, List.getElem?_cons_succ, List.getElem?_cons_zero, Option.some.injEq] at ho
      subst ho
      refine ⟨rfl, ?_⟩
      have e80 : A_.tmps[80]?.getD undef = .bool true := getD_of (hI.val_ (i := 17) rfl rfl (by decide) (hdep ⟨17, .data⟩ (by simp) rfl))
      clear hI hdep
      exact .run rfl (.bool true) w3 (by simp [execOp, go_sem, Act.eval, e80]) (Below.refl _ _) rfl
    · simp only [List.getElem?_toArray, List.getElem?_cons_succ, List.getElem?_cons_zero, Option.some.injEq] at ho
      subst ho
      refine ⟨rfl, ?_⟩
      have q81 : A_.tmps[81]? = some (.bool true) := hI.val_ (i := 18) rfl rfl (by decide) (hdep ⟨18, .guard⟩ (by simp) rfl)
      clear hI hdep
      exact .call ((wanted_some rfl rfl q81).trans rfl) 11 #[] (by simp [go_sem]) ((HL.out w3 (HB3.out.trans (hh.mono HB3.out.size))).mono fun _ _ ⟨h1_, h2_⟩ => ⟨⟨_, h1_, rfl⟩, h2_⟩)
    · simp only [List.getElem?_toArray, List.getElem?_cons_succ, List.getElem?_cons_zero, Option.some.injEq] at ho
      subst ho
      refine ⟨rfl, ?_⟩
      have e81 : A_.tmps[81]?.getD undef = .bool true := getD_of (hI.val_ (i := 18) rfl rfl (by decide) (hdep ⟨18, .data⟩ (by simp) rfl))
      have e82 : A_.tmps[82]?.getD undef = .bool true := getD_of (hI.val_ (i := 19) rfl rfl (by decide) (hdep ⟨19, .data⟩ (by simp) rfl))
      clear hI hdep
      exact .run rfl (.bool true) w3 (by simp [execOp, go_sem, Act.eval, e81, e82]) (Below.refl _ _) rfl
    · simp only [List.getElem?_toArray, List.getElem?_cons_succ, List.getElem?_cons_zero, Option.some.injEq] at ho
      subst ho
      refine ⟨rfl, ?_⟩
      have e83 : A_.tmps[83]?.getD undef = .bool true := getD_of (hI.val_ (i := 20) rfl rfl (by decide) (hdep ⟨20, .data⟩ (by simp) rfl))
      clear hI hdep
      exact .run rfl (.bool true) w3 (by simp [execOp, go_sem, Act.eval, e83]) (Below.refl _ _) rfl
  case fin =>
  intro A_ w3 hs hd hlow hS hok
  obtain ⟨_, hy68, g68, rfl, r68⟩ := hok 5 68 _ (by decide) rfl rfl
  obtain ⟨_, hy77, g77, rfl, r77⟩ := hok 14 77 _ (by decide) rfl rfl
  obtain rfl : A_ = ⟨#[.agg #[.int .i64 k, .int .i64 n, .int .i64 a, .int .i64 c, .int .i64 h, .int .i64 t, .int .i64 i, .int .i64 p], .agg #[.int .i64 k2, .int .i64 n2, .int .i64 a2, .int .i64 c2, .int .i64 h2, .int .i64 t2, .int .i64 i2, .int .i64 p2], .agg #[.int .i64 qc, .int .i64 qh, .int .i64 qt, .int .i64 qk, .int .i64 qi], .agg #[.int .i64 qc2, .int .i64 qh2, .int .i64 qt2, .int .i64 qk2, .int .i64 qi2], .int .i64 at_, .pointer (some ⟨w.heap.size, 0, none⟩), .pointer (some ⟨w.heap.size + 1, 0, none⟩), .pointer (some ⟨w.heap.size + 1 + 1, 0, none⟩), .pointer (some ⟨w.heap.size + 1 + 1 + 1, 0, none⟩), undef, .bool true, .pointer (some ⟨U.heap.size, 0, none⟩), .pointer (some ⟨U5.heap.size, 0, none⟩), .slice (some ⟨g13, 0, none⟩) 5 5, .agg #[.int .i64 k, .int .i64 n, .int .i64 a, .int .i64 c, .int .i64 h, .int .i64 t, .int .i64 i, .int .i64 p], .agg #[.int .i64 qc, .int .i64 qh, .int .i64 qt, .int .i64 qk, .int .i64 qi], .int .i64 at_, .int .i64 1, undef, undef, undef, .bool false, .bool false, undef, undef, undef, undef, undef, undef, .bool true, .bool true, .pointer (some ⟨w.heap.size + 1, 1, none⟩), .int .i64 n2, .pointer (some ⟨U.heap.size, 1, none⟩), .pointer (some ⟨w.heap.size + 1 + 1 + 1, 4, none⟩), .int .i64 qi2, .pointer (some ⟨U5.heap.size, 4, none⟩), undef, undef, undef, undef, undef, undef, undef, undef, .agg #[.int .i64 k, .int .i64 n, .int .i64 a, .int .i64 c, .int .i64 h, .int .i64 t, .int .i64 i, .int .i64 p], .agg #[.int .i64 k2, .int .i64 n2, .int .i64 a2, .int .i64 c2, .int .i64 h2, .int .i64 t2, .int .i64 i2, .int .i64 p2], .int .i64 R1, .agg #[.int .i64 k, .int .i64 n, .int .i64 a, .int .i64 c, .int .i64 h, .int .i64 t, .int .i64 i, .int .i64 p], .agg #[.int .i64 k2, .int .i64 n2, .int .i64 a2, .int .i64 c2, .int .i64 h2, .int .i64 t2, .int .i64 i2, .int .i64 p2], .int .i64 R1, .bool false, .bool false, .agg #[.int .i64 k, .int .i64 n, .int .i64 a, .int .i64 c, .int .i64 h, .int .i64 t, .int .i64 i, .int .i64 p], .agg #[.int .i64 k, .int .i64 n2, .int .i64 a, .int .i64 c, .int .i64 h, .int .i64 t, .int .i64 i, .int .i64 p], .int .i64 R2, .agg #[.int .i64 k, .int .i64 n, .int .i64 a, .int .i64 c, .int .i64 h, .int .i64 t, .int .i64 i, .int .i64 p], .agg #[.int .i64 k, .int .i64 n2, .int .i64 a, .int .i64 c, .int .i64 h, .int .i64 t, .int .i64 i, .int .i64 p], .int .i64 R2, .bool false, .bool false, .agg #[.int .i64 qc, .int .i64 qh, .int .i64 qt, .int .i64 qk, .int .i64 qi], .slice (some ⟨g13, 0, none⟩) 5 5, .agg #[.int .i64 qc, .int .i64 qh, .int .i64 qt, .int .i64 qk, .int .i64 qi], .agg #[.int .i64 qc2, .int .i64 qh2, .int .i64 qt2, .int .i64 qk2, .int .i64 qi2], .int .i64 S1, .slice (some ⟨g13, 0, none⟩) 5 5, .agg #[.int .i64 qc2, .int .i64 qh2, .int .i64 qt2, .int .i64 qk2, .int .i64 qi2], .slice (some ⟨g68, 0, none⟩) 5 5, .int .i64 S1, .bool true, .bool true, .agg #[.int .i64 qc, .int .i64 qh, .int .i64 qt, .int .i64 qk, .int .i64 qi], .agg #[.int .i64 qc, .int .i64 qh, .int .i64 qt, .int .i64 qk, .int .i64 qi2], .int .i64 S2, .slice (some ⟨g13, 0, none⟩) 5 5, .agg #[.int .i64 qc, .int .i64 qh, .int .i64 qt, .int .i64 qk, .int .i64 qi2], .slice (some ⟨g77, 0, none⟩) 5 5, .int .i64 S2, .bool true, .bool true, .bool true, .bool true, .bool true], []⟩ := act_ext hd hs (fun j hj => match j, hj with | 0, _ => (hlow 0 (by decide)).trans rfl | 1, _ => (hlow 1 (by decide)).trans rfl | 2, _ => (hlow 2 (by decide)).trans rfl | 3, _ => (hlow 3 (by decide)).trans rfl | 4, _ => (hlow 4 (by decide)).trans rfl | 5, _ => (hlow 5 (by decide)).trans rfl | 6, _ => (hlow 6 (by decide)).trans rfl | 7, _ => (hlow 7 (by decide)).trans rfl | 8, _ => (hlow 8 (by decide)).trans rfl | 9, _ => (hlow 9 (by decide)).trans rfl | 10, _ => RgX.val_at (hok 21 10 _ (by decide) rfl rfl) | 11, _ => (hlow 11 (by decide)).trans rfl | 12, _ => (hlow 12 (by decide)).trans rfl | 13, _ => (hlow 13 (by decide)).trans rfl | 14, _ => (hlow 14 (by decide)).trans rfl | 15, _ => (hlow 15 (by decide)).trans rfl | 16, _ => (hlow 16 (by decide)).trans rfl | 17, _ => (hlow 17 (by decide)).trans rfl | 18, _ => (hlow 18 (by decide)).trans rfl | 19, _ => (hlow 19 (by decide)).trans rfl | 20, _ => (hlow 20 (by decide)).trans rfl | 21, _ => (hlow 21 (by decide)).trans rfl | 22, _ => (hlow 22 (by decide)).trans rfl | 23, _ => (hlow 23 (by decide)).trans rfl | 24, _ => (hlow 24 (by decide)).trans rfl | 25, _ => (hlow 25 (by decide)).trans rfl | 26, _ => (hlow 26 (by decide)).trans rfl | 27, _ => (hlow 27 (by decide)).trans rfl | 28, _ => (hlow 28 (by decide)).trans rfl | 29, _ => (hlow 29 (by decide)).trans rfl | 30, _ => (hlow 30 (by decide)).trans rfl | 31, _ => (hlow 31 (by decide)).trans rfl | 32, _ => (hlow 32 (by decide)).trans rfl | 33, _ => (hlow 33 (by decide)).trans rfl | 34, _ => (hlow 34 (by decide)).trans rfl | 35, _ => (hlow 35 (by decide)).trans rfl | 36, _ => (hlow 36 (by decide)).trans rfl | 37, _ => (hlow 37 (by decide)).trans rfl | 38, _ => (hlow 38 (by decide)).trans rfl | 39, _ => (hlow 39 (by decide)).trans rfl | 40, _ => (hlow 40 (by decide)).trans rfl | 41, _ => (hlow 41 (by decide)).trans rfl | 42, _ => (hlow 42 (by decide)).trans rfl | 43, _ => (hlow 43 (by decide)).trans rfl | 44, _ => (hlow 44 (by decide)).trans rfl | 45, _ => (hlow 45 (by decide)).trans rfl | 46, _ => (hlow 46 (by decide)).trans rfl | 47, _ => (hlow 47 (by decide)).trans rfl | 48, _ => (hlow 48 (by decide)).trans rfl | 49, _ => (hlow 49 (by decide)).trans rfl | 50, _ => (hlow 50 (by decide)).trans rfl | 51, _ => (hlow 51 (by decide)).trans rfl | 52, _ => (hlow 52 (by decide)).trans rfl | 53, _ => (hlow 53 (by decide)).trans rfl | 54, _ => (hlow 54 (by decide)).trans rfl | 55, _ => (hlow 55 (by decide)).trans rfl | 56, _ => (hlow 56 (by decide)).trans rfl | 57, _ => (hlow 57 (by decide)).trans rfl | 58, _ => (hlow 58 (by decide)).trans rfl | 59, _ => (hlow 59 (by decide)).trans rfl | 60, _ => (hlow 60 (by decide)).trans rfl | 61, _ => (hlow 61 (by decide)).trans rfl | 62, _ => (hlow 62 (by decide)).trans rfl | 63, _ => RgX.val_at (hok 0 63 _ (by decide) rfl rfl) | 64, _ => RgX.val_at (hok 1 64 _ (by decide) rfl rfl) | 65, _ => RgX.val_at (hok 2 65 _ (by decide) rfl rfl) | 66, _ => RgX.val_at (hok 3 66 _ (by decide) rfl rfl) | 67, _ => RgX.val_at (hok 4 67 _ (by decide) rfl rfl) | 68, _ => hy68 | 69, _ => RgX.val_at (hok 6 69 _ (by decide) rfl rfl) | 70, _ => RgX.val_at (hok 7 70 _ (by decide) rfl rfl) | 71, _ => RgX.val_at (hok 8 71 _ (by decide) rfl rfl) | 72, _ => RgX.val_at (hok 9 72 _ (by decide) rfl rfl) | 73, _ => RgX.val_at (hok 10 73 _ (by decide) rfl rfl) | 74, _ => RgX.val_at (hok 11 74 _ (by decide) rfl rfl) | 75, _ => RgX.val_at (hok 12 75 _ (by decide) rfl rfl) | 76, _ => RgX.val_at (hok 13 76 _ (by decide) rfl rfl) | 77, _ => hy77 | 78, _ => RgX.val_at (hok 15 78 _ (by decide) rfl rfl) | 79, _ => RgX.val_at (hok 16 79 _ (by decide) rfl rfl) | 80, _ => RgX.val_at (hok 17 80 _ (by decide) rfl rfl) | 81, _ => RgX.val_at (hok 18 81 _ (by decide) rfl rfl) | 82, _ => RgX.val_at (hok 19 82 _ (by decide) rfl rfl) | 83, _ => RgX.val_at (hok 20 83 _ (by decide) rfl rfl) | n + 84, h => absurd h (by show ¬ n + 84 < 84; omega))
  clear hs hd hlow hok hy68 hy77
  go_wp2_with fail
  go_ret
  exact ⟨rfl, HB3.out.trans (hS.mono HB3.out.size)⟩
set_option maxHeartbeats 4000000 in
set_option maxRecDepth 100000 in
theorem walk_2 (k n a c h t i p k2 n2 a2 c2 h2 t2 i2 p2 qc qh qt qk qi qc2 qh2 qt2 qk2 qi2 at_ R1 R2 S1 S2 : Int) (w : World)
    (HA : Hid (∀ V, Calls Tryd.prog 5 #[.int .i64 at_, .int .i64 4] V fun e w' => e = .returned (.int .i64 2) ∧ V = w'))
    (HC1 : Hid (∀ V, Calls Tryd.prog 6 #[.agg #[.int .i64 k, .int .i64 n, .int .i64 a, .int .i64 c, .int .i64 h, .int .i64 t, .int .i64 i, .int .i64 p], .agg #[.int .i64 k2, .int .i64 n2, .int .i64 a2, .int .i64 c2, .int .i64 h2, .int .i64 t2, .int .i64 i2, .int .i64 p2]] V fun e w' => e = .returned (.int .i64 R1) ∧ Below V.heap.size V w'))
    (HC2 : Hid (∀ V, Calls Tryd.prog 6 #[.agg #[.int .i64 k, .int .i64 n, .int .i64 a, .int .i64 c, .int .i64 h, .int .i64 t, .int .i64 i, .int .i64 p], .agg #[.int .i64 k, .int .i64 n, .int .i64 a2, .int .i64 c, .int .i64 h, .int .i64 t, .int .i64 i, .int .i64 p]] V fun e w' => e = .returned (.int .i64 R2) ∧ Below V.heap.size V w'))
    (HR1 : Hid (∀ V, Calls Tryd.prog 7 #[.agg #[.int .i64 k, .int .i64 n, .int .i64 a, .int .i64 c, .int .i64 h, .int .i64 t, .int .i64 i, .int .i64 p], .agg #[.int .i64 k2, .int .i64 n2, .int .i64 a2, .int .i64 c2, .int .i64 h2, .int .i64 t2, .int .i64 i2, .int .i64 p2]] V fun e w' => e = .returned (.int .i64 R1) ∧ Below V.heap.size V w'))
    (HR2 : Hid (∀ V, Calls Tryd.prog 7 #[.agg #[.int .i64 k, .int .i64 n, .int .i64 a, .int .i64 c, .int .i64 h, .int .i64 t, .int .i64 i, .int .i64 p], .agg #[.int .i64 k, .int .i64 n, .int .i64 a2, .int .i64 c, .int .i64 h, .int .i64 t, .int .i64 i, .int .i64 p]] V fun e w' => e = .returned (.int .i64 R2) ∧ Below V.heap.size V w'))
    (HQ1 : Hid (∀ V, Calls Tryd.prog 9 #[.agg #[.int .i64 qc, .int .i64 qh, .int .i64 qt, .int .i64 qk, .int .i64 qi], .agg #[.int .i64 qc2, .int .i64 qh2, .int .i64 qt2, .int .i64 qk2, .int .i64 qi2]] V fun e w' => e = .returned (.int .i64 S1) ∧ Below V.heap.size V w'))
    (HQ2 : Hid (∀ V, Calls Tryd.prog 9 #[.agg #[.int .i64 qc, .int .i64 qh, .int .i64 qt, .int .i64 qk, .int .i64 qi], .agg #[.int .i64 qc2, .int .i64 qh2, .int .i64 qt2, .int .i64 qk, .int .i64 qi]] V fun e w' => e = .returned (.int .i64 S2) ∧ Below V.heap.size V w'))
    (HL1 : Hid (∀ (V : World) (g1 g2 : Nat), V.heap[g1]? = some (.cells #[.int .i64 qc, .int .i64 qh, .int .i64 qt, .int .i64 qk, .int .i64 qi] 3 (0, 0)) → V.heap[g2]? = some (.cells #[.int .i64 qc2, .int .i64 qh2, .int .i64 qt2, .int .i64 qk2, .int .i64 qi2] 3 (0, 0)) → Calls Tryd.prog 10 #[.slice (some ⟨g1, 0, none⟩) 5 5, .slice (some ⟨g2, 0, none⟩) 5 5] V fun e w' => e = .returned (.int .i64 S1) ∧ Below V.heap.size V w'))
    (HL2 : Hid (∀ (V : World) (g1 g2 : Nat), V.heap[g1]? = some (.cells #[.int .i64 qc, .int .i64 qh, .int .i64 qt, .int .i64 qk, .int .i64 qi] 3 (0, 0)) → V.heap[g2]? = some (.cells #[.int .i64 qc2, .int .i64 qh2, .int .i64 qt2, .int .i64 qk, .int .i64 qi] 3 (0, 0)) → Calls Tryd.prog 10 #[.slice (some ⟨g1, 0, none⟩) 5 5, .slice (some ⟨g2, 0, none⟩) 5 5] V fun e w' => e = .returned (.int .i64 S2) ∧ Below V.heap.size V w'))
    (HL : Hid (∀ V, Below w.heap.size w V → Calls Tryd.prog 11 #[] V fun e w' => e = .returned (.bool true) ∧ Below V.heap.size V w')) :
    Calls Tryd.prog 3 #[.agg #[.int .i64 k, .int .i64 n, .int .i64 a, .int .i64 c, .int .i64 h, .int .i64 t, .int .i64 i, .int .i64 p], .agg #[.int .i64 k2, .int .i64 n2, .int .i64 a2, .int .i64 c2, .int .i64 h2, .int .i64 t2, .int .i64 i2, .int .i64 p2], .agg #[.int .i64 qc, .int .i64 qh, .int .i64 qt, .int .i64 qk, .int .i64 qi], .agg #[.int .i64 qc2, .int .i64 qh2, .int .i64 qt2, .int .i64 qk2, .int .i64 qi2], .int .i64 at_] w fun e w' => e = .returned (.bool true) ∧ Below w.heap.size w w' := by
  obtain ⟨U, hU, hb0, ka, kb, kp, kq, hz⟩ := four_boxes w (.cells #[.int .i64 k, .int .i64 n, .int .i64 a, .int .i64 c, .int .i64 h, .int .i64 t, .int .i64 i, .int .i64 p] 27) (.cells #[.int .i64 k2, .int .i64 n2, .int .i64 a2, .int .i64 c2, .int .i64 h2, .int .i64 t2, .int .i64 i2, .int .i64 p2] 27) (.cells #[.int .i64 qc, .int .i64 qh, .int .i64 qt, .int .i64 qk, .int .i64 qi] 29) (.cells #[.int .i64 qc2, .int .i64 qh2, .int .i64 qt2, .int .i64 qk2, .int .i64 qi2] 29)
  obtain ⟨U5, hU5⟩ : ∃ V, U.alloc (.cells #[.int .i64 k, .int .i64 n, .int .i64 a, .int .i64 c, .int .i64 h, .int .i64 t, .int .i64 i, .int .i64 p] 27) = V := ⟨_, rfl⟩
  obtain ⟨U6, hU6⟩ : ∃ V, U5.alloc (.cells #[.int .i64 qc, .int .i64 qh, .int .i64 qt, .int .i64 qk, .int .i64 qi] 29) = V := ⟨_, rfl⟩
  have hb5 : Below U.heap.size U U5 := hU5 ▸ one_box U _
  have hb6 : Below U5.heap.size U5 U6 := hU6 ▸ one_box U5 _
  have hz5 : U5.heap.size = U.heap.size + 1 := by rw [← hU5]; simp
  have hz6 : U6.heap.size = U.heap.size + 2 := by rw [← hU6]; simp; omega
  have kc5 : U5.heap[U.heap.size]? = some (.cells #[.int .i64 k, .int .i64 n, .int .i64 a, .int .i64 c, .int .i64 h, .int .i64 t, .int .i64 i, .int .i64 p] 27 (0, 0)) := by rw [← hU5]; exact new_at rfl
  have ka5 := (hb5.block (w.heap.size) (by omega)).trans ka
  have kb5 := (hb5.block (w.heap.size + 1) (by omega)).trans kb
  have kp5 := (hb5.block (w.heap.size + 1 + 1) (by omega)).trans kp
  have kq5 := (hb5.block (w.heap.size + 1 + 1 + 1) (by omega)).trans kq
  have ka6 := (hb6.block (w.heap.size) (by omega)).trans ka5
  have kb6 := (hb6.block (w.heap.size + 1) (by omega)).trans kb5
  have kp6 := (hb6.block (w.heap.size + 1 + 1) (by omega)).trans kp5
  have kq6 := (hb6.block (w.heap.size + 1 + 1 + 1) (by omega)).trans kq5
  have kc6 := (hb6.block (U.heap.size) (by omega)).trans kc5
  have kd6 : U6.heap[U5.heap.size]? = some (.cells #[.int .i64 qc, .int .i64 qh, .int .i64 qt, .int .i64 qk, .int .i64 qi] 29 (0, 0)) := by rw [← hU6]; exact new_at rfl
  have ka7 : (U6.setCell ⟨U.heap.size, 2, none⟩ (.int .i64 a2)).heap[w.heap.size]? = some (.cells #[.int .i64 k, .int .i64 n, .int .i64 a, .int .i64 c, .int .i64 h, .int .i64 t, .int .i64 i, .int .i64 p] 27 (0, 0)) := (other_set (by omega)).trans ka6
  have kb7 : (U6.setCell ⟨U.heap.size, 2, none⟩ (.int .i64 a2)).heap[w.heap.size + 1]? = some (.cells #[.int .i64 k2, .int .i64 n2, .int .i64 a2, .int .i64 c2, .int .i64 h2, .int .i64 t2, .int .i64 i2, .int .i64 p2] 27 (0, 0)) := (other_set (by omega)).trans kb6
  have kp7 : (U6.setCell ⟨U.heap.size, 2, none⟩ (.int .i64 a2)).heap[w.heap.size + 1 + 1]? = some (.cells #[.int .i64 qc, .int .i64 qh, .int .i64 qt, .int .i64 qk, .int .i64 qi] 29 (0, 0)) := (other_set (by omega)).trans kp6
  have kq7 : (U6.setCell ⟨U.heap.size, 2, none⟩ (.int .i64 a2)).heap[w.heap.size + 1 + 1 + 1]? = some (.cells #[.int .i64 qc2, .int .i64 qh2, .int .i64 qt2, .int .i64 qk2, .int .i64 qi2] 29 (0, 0)) := (other_set (by omega)).trans kq6
  have kc7 : (U6.setCell ⟨U.heap.size, 2, none⟩ (.int .i64 a2)).heap[U.heap.size]? = some (.cells #[.int .i64 k, .int .i64 n, .int .i64 a2, .int .i64 c, .int .i64 h, .int .i64 t, .int .i64 i, .int .i64 p] 27 (0, 0)) := cell_set kc6
  have kd7 : (U6.setCell ⟨U.heap.size, 2, none⟩ (.int .i64 a2)).heap[U5.heap.size]? = some (.cells #[.int .i64 qc, .int .i64 qh, .int .i64 qt, .int .i64 qk, .int .i64 qi] 29 (0, 0)) := (other_set (by omega)).trans kd6
  have hs7 : (U6.setCell ⟨U.heap.size, 2, none⟩ (.int .i64 a2)).heap.size = U.heap.size + 2 := by simp [World.setCell]; omega
  have ka8 : ((U6.setCell ⟨U.heap.size, 2, none⟩ (.int .i64 a2)).setCell ⟨U5.heap.size, 0, none⟩ (.int .i64 qc2)).heap[w.heap.size]? = some (.cells #[.int .i64 k, .int .i64 n, .int .i64 a, .int .i64 c, .int .i64 h, .int .i64 t, .int .i64 i, .int .i64 p] 27 (0, 0)) := (other_set (by omega)).trans ka7
  have kb8 : ((U6.setCell ⟨U.heap.size, 2, none⟩ (.int .i64 a2)).setCell ⟨U5.heap.size, 0, none⟩ (.int .i64 qc2)).heap[w.heap.size + 1]? = some (.cells #[.int .i64 k2, .int .i64 n2, .int .i64 a2, .int .i64 c2, .int .i64 h2, .int .i64 t2, .int .i64 i2, .int .i64 p2] 27 (0, 0)) := (other_set (by omega)).trans kb7
  have kp8 : ((U6.setCell ⟨U.heap.size, 2, none⟩ (.int .i64 a2)).setCell ⟨U5.heap.size, 0, none⟩ (.int .i64 qc2)).heap[w.heap.size + 1 + 1]? = some (.cells #[.int .i64 qc, .int .i64 qh, .int .i64 qt, .int .i64 qk, .int .i64 qi] 29 (0, 0)) := (other_set (by omega)).trans kp7
  have kq8 : ((U6.setCell ⟨U.heap.size, 2, none⟩ (.int .i64 a2)).setCell ⟨U5.heap.size, 0, none⟩ (.int .i64 qc2)).heap[w.heap.size + 1 + 1 + 1]? = some (.cells #[.int .i64 qc2, .int .i64 qh2, .int .i64 qt2, .int .i64 qk2, .int .i64 qi2] 29 (0, 0)) := (other_set (by omega)).trans kq7
  have kc8 : ((U6.setCell ⟨U.heap.size, 2, none⟩ (.int .i64 a2)).setCell ⟨U5.heap.size, 0, none⟩ (.int .i64 qc2)).heap[U.heap.size]? = some (.cells #[.int .i64 k, .int .i64 n, .int .i64 a2, .int .i64 c, .int .i64 h, .int .i64 t, .int .i64 i, .int .i64 p] 27 (0, 0)) := (other_set (by omega)).trans kc7
  have kd8 : ((U6.setCell ⟨U.heap.size, 2, none⟩ (.int .i64 a2)).setCell ⟨U5.heap.size, 0, none⟩ (.int .i64 qc2)).heap[U5.heap.size]? = some (.cells #[.int .i64 qc2, .int .i64 qh, .int .i64 qt, .int .i64 qk, .int .i64 qi] 29 (0, 0)) := cell_set kd7
  have hs8 : ((U6.setCell ⟨U.heap.size, 2, none⟩ (.int .i64 a2)).setCell ⟨U5.heap.size, 0, none⟩ (.int .i64 qc2)).heap.size = U.heap.size + 2 := by rw [← hs7]; simp [World.setCell]
  have ka9 : (((U6.setCell ⟨U.heap.size, 2, none⟩ (.int .i64 a2)).setCell ⟨U5.heap.size, 0, none⟩ (.int .i64 qc2)).setCell ⟨U5.heap.size, 1, none⟩ (.int .i64 qh2)).heap[w.heap.size]? = some (.cells #[.int .i64 k, .int .i64 n, .int .i64 a, .int .i64 c, .int .i64 h, .int .i64 t, .int .i64 i, .int .i64 p] 27 (0, 0)) := (other_set (by omega)).trans ka8
  have kb9 : (((U6.setCell ⟨U.heap.size, 2, none⟩ (.int .i64 a2)).setCell ⟨U5.heap.size, 0, none⟩ (.int .i64 qc2)).setCell ⟨U5.heap.size, 1, none⟩ (.int .i64 qh2)).heap[w.heap.size + 1]? = some (.cells #[.int .i64 k2, .int .i64 n2, .int .i64 a2, .int .i64 c2, .int .i64 h2, .int .i64 t2, .int .i64 i2, .int .i64 p2] 27 (0, 0)) := (other_set (by omega)).trans kb8
  have kp9 : (((U6.setCell ⟨U.heap.size, 2, none⟩ (.int .i64 a2)).setCell ⟨U5.heap.size, 0, none⟩ (.int .i64 qc2)).setCell ⟨U5.heap.size, 1, none⟩ (.int .i64 qh2)).heap[w.heap.size + 1 + 1]? = some (.cells #[.int .i64 qc, .int .i64 qh, .int .i64 qt, .int .i64 qk, .int .i64 qi] 29 (0, 0)) := (other_set (by omega)).trans kp8
  have kq9 : (((U6.setCell ⟨U.heap.size, 2, none⟩ (.int .i64 a2)).setCell ⟨U5.heap.size, 0, none⟩ (.int .i64 qc2)).setCell ⟨U5.heap.size, 1, none⟩ (.int .i64 qh2)).heap[w.heap.size + 1 + 1 + 1]? = some (.cells #[.int .i64 qc2, .int .i64 qh2, .int .i64 qt2, .int .i64 qk2, .int .i64 qi2] 29 (0, 0)) := (other_set (by omega)).trans kq8
  have kc9 : (((U6.setCell ⟨U.heap.size, 2, none⟩ (.int .i64 a2)).setCell ⟨U5.heap.size, 0, none⟩ (.int .i64 qc2)).setCell ⟨U5.heap.size, 1, none⟩ (.int .i64 qh2)).heap[U.heap.size]? = some (.cells #[.int .i64 k, .int .i64 n, .int .i64 a2, .int .i64 c, .int .i64 h, .int .i64 t, .int .i64 i, .int .i64 p] 27 (0, 0)) := (other_set (by omega)).trans kc8
  have kd9 : (((U6.setCell ⟨U.heap.size, 2, none⟩ (.int .i64 a2)).setCell ⟨U5.heap.size, 0, none⟩ (.int .i64 qc2)).setCell ⟨U5.heap.size, 1, none⟩ (.int .i64 qh2)).heap[U5.heap.size]? = some (.cells #[.int .i64 qc2, .int .i64 qh2, .int .i64 qt, .int .i64 qk, .int .i64 qi] 29 (0, 0)) := cell_set kd8
  have hs9 : (((U6.setCell ⟨U.heap.size, 2, none⟩ (.int .i64 a2)).setCell ⟨U5.heap.size, 0, none⟩ (.int .i64 qc2)).setCell ⟨U5.heap.size, 1, none⟩ (.int .i64 qh2)).heap.size = U.heap.size + 2 := by rw [← hs8]; simp [World.setCell]
  have ka10 : ((((U6.setCell ⟨U.heap.size, 2, none⟩ (.int .i64 a2)).setCell ⟨U5.heap.size, 0, none⟩ (.int .i64 qc2)).setCell ⟨U5.heap.size, 1, none⟩ (.int .i64 qh2)).setCell ⟨U5.heap.size, 2, none⟩ (.int .i64 qt2)).heap[w.heap.size]? = some (.cells #[.int .i64 k, .int .i64 n, .int .i64 a, .int .i64 c, .int .i64 h, .int .i64 t, .int .i64 i, .int .i64 p] 27 (0, 0)) := (other_set (by omega)).trans ka9
  have kb10 : ((((U6.setCell ⟨U.heap.size, 2, none⟩ (.int .i64 a2)).setCell ⟨U5.heap.size, 0, none⟩ (.int .i64 qc2)).setCell ⟨U5.heap.size, 1, none⟩ (.int .i64 qh2)).setCell ⟨U5.heap.size, 2, none⟩ (.int .i64 qt2)).heap[w.heap.size + 1]? = some (.cells #[.int .i64 k2, .int .i64 n2, .int .i64 a2, .int .i64 c2, .int .i64 h2, .int .i64 t2, .int .i64 i2, .int .i64 p2] 27 (0, 0)) := (other_set (by omega)).trans kb9
  have kp10 : ((((U6.setCell ⟨U.heap.size, 2, none⟩ (.int .i64 a2)).setCell ⟨U5.heap.size, 0, none⟩ (.int .i64 qc2)).setCell ⟨U5.heap.size, 1, none⟩ (.int .i64 qh2)).setCell ⟨U5.heap.size, 2, none⟩ (.int .i64 qt2)).heap[w.heap.size + 1 + 1]? = some (.cells #[.int .i64 qc, .int .i64 qh, .int .i64 qt, .int .i64 qk, .int .i64 qi] 29 (0, 0)) := (other_set (by omega)).trans kp9
  have kq10 : ((((U6.setCell ⟨U.heap.size, 2, none⟩ (.int .i64 a2)).setCell ⟨U5.heap.size, 0, none⟩ (.int .i64 qc2)).setCell ⟨U5.heap.size, 1, none⟩ (.int .i64 qh2)).setCell ⟨U5.heap.size, 2, none⟩ (.int .i64 qt2)).heap[w.heap.size + 1 + 1 + 1]? = some (.cells #[.int .i64 qc2, .int .i64 qh2, .int .i64 qt2, .int .i64 qk2, .int .i64 qi2] 29 (0, 0)) := (other_set (by omega)).trans kq9
  have kc10 : ((((U6.setCell ⟨U.heap.size, 2, none⟩ (.int .i64 a2)).setCell ⟨U5.heap.size, 0, none⟩ (.int .i64 qc2)).setCell ⟨U5.heap.size, 1, none⟩ (.int .i64 qh2)).setCell ⟨U5.heap.size, 2, none⟩ (.int .i64 qt2)).heap[U.heap.size]? = some (.cells #[.int .i64 k, .int .i64 n, .int .i64 a2, .int .i64 c, .int .i64 h, .int .i64 t, .int .i64 i, .int .i64 p] 27 (0, 0)) := (other_set (by omega)).trans kc9
  have kd10 : ((((U6.setCell ⟨U.heap.size, 2, none⟩ (.int .i64 a2)).setCell ⟨U5.heap.size, 0, none⟩ (.int .i64 qc2)).setCell ⟨U5.heap.size, 1, none⟩ (.int .i64 qh2)).setCell ⟨U5.heap.size, 2, none⟩ (.int .i64 qt2)).heap[U5.heap.size]? = some (.cells #[.int .i64 qc2, .int .i64 qh2, .int .i64 qt2, .int .i64 qk, .int .i64 qi] 29 (0, 0)) := cell_set kd9
  have hs10 : ((((U6.setCell ⟨U.heap.size, 2, none⟩ (.int .i64 a2)).setCell ⟨U5.heap.size, 0, none⟩ (.int .i64 qc2)).setCell ⟨U5.heap.size, 1, none⟩ (.int .i64 qh2)).setCell ⟨U5.heap.size, 2, none⟩ (.int .i64 qt2)).heap.size = U.heap.size + 2 := by rw [← hs9]; simp [World.setCell]
  have hbF : Below w.heap.size w ((((U6.setCell ⟨U.heap.size, 2, none⟩ (.int .i64 a2)).setCell ⟨U5.heap.size, 0, none⟩ (.int .i64 qc2)).setCell ⟨U5.heap.size, 1, none⟩ (.int .i64 qh2)).setCell ⟨U5.heap.size, 2, none⟩ (.int .i64 qt2)) := ((((((hb0.trans (hb5.mono hb0.size)).trans (hb6.mono (by omega)))).setCell (by show w.heap.size ≤ U.heap.size; omega) _).setCell (by show w.heap.size ≤ U5.heap.size; omega) _).setCell (by show w.heap.size ≤ U5.heap.size; omega) _).setCell (by show w.heap.size ≤ U5.heap.size; omega) _
  have HF := Lib.hid (And.intro ka10 (And.intro kb10 (And.intro kp10 (And.intro kq10 (And.intro kc10 (And.intro kd10 (And.intro hs10 hbF)))))))
  have HZ := Lib.hid (And.intro hz hz5)
  obtain ⟨ua0, ua1, ua2, ua3, ua4, ua5, ua6, ua7⟩ := row8 ka
  obtain ⟨vp0, vp1, vp2, vp3, vp4⟩ := row5 kp5
  obtain ⟨xb0, xb1, xb2, xb3, xb4, xb5, xb6, xb7⟩ := row8 kb6
  obtain ⟨xc0, xc1, xc2, xc3, xc4, xc5, xc6, xc7⟩ := row8 kc6
  have fz6 := froz kc6 2
  have fz7 := froz kd7 0
  have fz8 := froz kd8 1
  have fz9 := froz kd9 2
  obtain ⟨yq0, yq1, yq2, yq3, yq4⟩ := row5 kq7
  obtain ⟨yd0, yd1, yd2, yd3, yd4⟩ := row5 kd7
  obtain ⟨z8d0, z8d1, z8d2, z8d3, z8d4⟩ := row5 kd8
  obtain ⟨z9d0, z9d1, z9d2, z9d3, z9d4⟩ := row5 kd9
  clear ka kb kp kq kc5 ka5 kb5 kp5 kq5 ka6 ka7 ka8 ka9 ka10 kb6 kb7 kb8 kb9 kb10 kp6 kp7 kp8 kp9 kp10 kq6 kq7 kq8 kq9 kq10 kc6 kc7 kc8 kc9 kc10 kd6 kd7 kd8 kd9 kd10 hs7 hs8 hs9 hs10 hb0 hb5 hb6 hbF hz hz5 hz6
  go_enter Tryd.func3, Tryd.ntmps3
  go_wp2_with (go_at_call 5; refine (HA.out _).mono ?_; rintro e w1 ⟨rfl, rfl⟩)
  clear hU hU5 hU6 ua0 ua1 ua2 ua3 ua4 ua5 ua6 ua7 vp0 vp1 vp2 vp3 vp4 xb0 xb1 xb2 xb3 xb4 xb5 xb6 xb7 xc0 xc1 xc2 xc3 xc4 xc5 xc6 xc7 fz6 fz7 fz8 fz9 yq0 yq1 yq2 yq3 yq4 yd0 yd1 yd2 yd3 yd4 z8d0 z8d1 z8d2 z8d3 z8d4 z9d0 z9d1 z9d2 z9d3 z9d4
  obtain ⟨ka, kb, kp, kq, kc, kd, hs, hbF⟩ := HF.out
  obtain ⟨hz, hz5⟩ := HZ.out
  obtain ⟨W8, hW8⟩ : ∃ V, ((((U6.setCell ⟨U.heap.size, 2, none⟩ (.int .i64 a2)).setCell ⟨U5.heap.size, 0, none⟩ (.int .i64 qc2)).setCell ⟨U5.heap.size, 1, none⟩ (.int .i64 qh2)).setCell ⟨U5.heap.size, 2, none⟩ (.int .i64 qt2)) = V := ⟨_, rfl⟩
  clear HF HZ
  rw [hW8] at ka kb kp kq kc kd hs hbF ⊢
  clear hW8
  have HB := Lib.hid hbF
  have HK := Lib.hid (fun (V : World) (hV : Below W8.heap.size W8 V) => And.intro (row8 ((hV.block _ (by omega)).trans ka)) (And.intro (row8 ((hV.block _ (by omega)).trans kb)) (And.intro (row5 ((hV.block _ (by omega)).trans kp)) (And.intro (row5 ((hV.block _ (by omega)).trans kq)) (And.intro (row8 ((hV.block _ (by omega)).trans kc)) (row5 ((hV.block _ (by omega)).trans kd)))))))
  clear ka kb kp kq kc kd hbF hs hz hz5
  refine RgX.region 16 (fun i => ( 45 + i)) (fun ix_ => match ix_ with | 0 => .v (.agg #[.int .i64 k, .int .i64 n, .int .i64 a, .int .i64 c, .int .i64 h, .int .i64 t, .int .i64 i, .int .i64 p]) | 1 => .v (.agg #[.int .i64 k2, .int .i64 n2, .int .i64 a2, .int .i64 c2, .int .i64 h2, .int .i64 t2, .int .i64 i2, .int .i64 p2]) | 2 => .v (.int .i64 R1) | 3 => .v (.agg #[.int .i64 k, .int .i64 n, .int .i64 a, .int .i64 c, .int .i64 h, .int .i64 t, .int .i64 i, .int .i64 p]) | 4 => .v (.agg #[.int .i64 k2, .int .i64 n2, .int .i64 a2, .int .i64 c2, .int .i64 h2, .int .i64 t2, .int .i64 i2, .int .i64 p2]) | 5 => .v (.int .i64 R1) | 6 => .v (.bool false) | 7 => .v (.bool false) | 8 => .v (.agg #[.int .i64 k, .int .i64 n, .int .i64 a, .int .i64 c, .int .i64 h, .int .i64 t, .int .i64 i, .int .i64 p]) | 9 => .v (.agg #[.int .i64 k, .int .i64 n, .int .i64 a2, .int .i64 c, .int .i64 h, .int .i64 t, .int .i64 i, .int .i64 p]) | 10 => .v (.int .i64 R2) | 11 => .v (.agg #[.int .i64 k, .int .i64 n, .int .i64 a, .int .i64 c, .int .i64 h, .int .i64 t, .int .i64 i, .int .i64 p]) | 12 => .v (.agg #[.int .i64 k, .int .i64 n, .int .i64 a2, .int .i64 c, .int .i64 h, .int .i64 t, .int .i64 i, .int .i64 p]) | 13 => .v (.int .i64 R2) | 14 => .v (.bool false) | 15 => .v (.bool false) | _ => .any) (by kernel_rfl) rfl (by kernel_rfl)  (fun i hi => by show ( 45 + i) < 84; (repeat' split) <;> omega) (fun i j hi hj => by show ( 45 + i) = ( 45 + j) → i = j; (repeat' split) <;> omega) ?step ?fin
  case step =>
    intro L_ A_ w3 ix op_ hI ho hdep
    have hi : ix < 16 := (Array.getElem?_eq_some_iff.1 ho).1
    have hcase : ix = 0 ∨ ix = 1 ∨ ix = 2 ∨ ix = 3 ∨ ix = 4 ∨ ix = 5 ∨ ix = 6 ∨ ix = 7 ∨ ix = 8 ∨ ix = 9 ∨ ix = 10 ∨ ix = 11 ∨ ix = 12 ∨ ix = 13 ∨ ix = 14 ∨ ix = 15 := by omega
    have hh := hI.held
    clear hi
    rcases hcase with rfl | rfl | rfl | rfl | rfl | rfl | rfl | rfl | rfl | rfl | rfl | rfl | rfl | rfl | rfl | rfl
    · simp only [List.getElem?_toArray, List.getElem?_cons_zero, Option.some.injEq] at ho
      subst ho
      refine ⟨rfl, ?_⟩
      have e5 : A_.tmps[5]?.getD undef = .pointer (some ⟨w.heap.size, 0, none⟩) := by rw [hI.low 5 (by decide)]; rfl
      clear hI hdep
      obtain ⟨⟨fa0, fa1, fa2, fa3, fa4, fa5, fa6, fa7⟩, ⟨fb0, fb1, fb2, fb3, fb4, fb5, fb6, fb7⟩, ⟨fp0, fp1, fp2, fp3, fp4⟩, ⟨fq0, fq1, fq2, fq3, fq4⟩, ⟨fc0, fc1, fc2, fc3, fc4, fc5, fc6, fc7⟩, fd0, fd1, fd2, fd3, fd4⟩ := HK.out w3 hh
      exact .run rfl (.agg #[.int .i64 k, .int .i64 n, .int .i64 a, .int .i64 c, .int .i64 h, .int .i64 t, .int .i64 i, .int .i64 p]) w3 (by simp [execOp, go_sem, Act.eval, *]) (Below.refl _ _) rfl
    · simp only [List.getElem?_toArray, List.getElem?_cons_succ, List.getElem?_cons_zero, Option.some.injEq] at ho
      subst ho
      refine ⟨rfl, ?_⟩
      have e6 : A_.tmps[6]?.getD undef = .pointer (some ⟨w.heap.size + 1, 0, none⟩) := by rw [hI.low 6 (by decide)]; rfl
      clear hI hdep
      obtain ⟨⟨fa0, fa1, fa2, fa3, fa4, fa5, fa6, fa7⟩, ⟨fb0, fb1, fb2, fb3, fb4, fb5, fb6, fb7⟩, ⟨fp0, fp1, fp2, fp3, fp4⟩, ⟨fq0, fq1, fq2, fq3, fq4⟩, ⟨fc0, fc1, fc2, fc3, fc4, fc5, fc6, fc7⟩, fd0, fd1, fd2, fd3, fd4⟩ := HK.out w3 hh
      exact .run rfl (.agg #[.int .i64 k2, .int .i64 n2, .int .i64 a2, .int .i64 c2, .int .i64 h2, .int .i64 t2, .int .i64 i2, .int .i64 p2]) w3 (by simp [execOp, go_sem, Act.eval, *]) (Below.refl _ _) rfl
    · simp only [List.getElem?_toArray, List.getElem?_cons_succ, List.getElem?_cons_zero, Option.some.injEq] at ho
      subst ho
      refine ⟨rfl, ?_⟩
      have e45 : A_.tmps[45]?.getD undef = .agg #[.int .i64 k, .int .i64 n, .int .i64 a, .int .i64 c, .int .i64 h, .int .i64 t, .int .i64 i, .int .i64 p] := getD_of (hI.val_ (i := 0) rfl rfl (by decide) (hdep ⟨0, .data⟩ (by simp) rfl))
      have e46 : A_.tmps[46]?.getD undef = .agg #[.int .i64 k2, .int .i64 n2, .int .i64 a2, .int .i64 c2, .int .i64 h2, .int .i64 t2, .int .i64 i2, .int .i64 p2] := getD_of (hI.val_ (i := 1) rfl rfl (by decide) (hdep ⟨1, .data⟩ (by simp) rfl))
      clear hI hdep
      exact .call rfl 6 #[.agg #[.int .i64 k, .int .i64 n, .int .i64 a, .int .i64 c, .int .i64 h, .int .i64 t, .int .i64 i, .int .i64 p], .agg #[.int .i64 k2, .int .i64 n2, .int .i64 a2, .int .i64 c2, .int .i64 h2, .int .i64 t2, .int .i64 i2, .int .i64 p2]] (by simp [go_sem, Act.eval, e45, e46]) ((HC1.out w3).mono fun _ _ ⟨h1_, h2_⟩ => ⟨⟨_, h1_, rfl⟩, h2_⟩)
    · simp only [List.getElem?_toArray, List.getElem?_cons_succ, List.getElem?_cons_zero, Option.some.injEq] at ho
      subst ho
      refine ⟨rfl, ?_⟩
      have e5 : A_.tmps[5]?.getD undef = .pointer (some ⟨w.heap.size, 0, none⟩) := by rw [hI.low 5 (by decide)]; rfl
      clear hI hdep
      obtain ⟨⟨fa0, fa1, fa2, fa3, fa4, fa5, fa6, fa7⟩, ⟨fb0, fb1, fb2, fb3, fb4, fb5, fb6, fb7⟩, ⟨fp0, fp1, fp2, fp3, fp4⟩, ⟨fq0, fq1, fq2, fq3, fq4⟩, ⟨fc0, fc1, fc2, fc3, fc4, fc5, fc6, fc7⟩, fd0, fd1, fd2, fd3, fd4⟩ := HK.out w3 hh
      exact .run rfl (.agg #[.int .i64 k, .int .i64 n, .int .i64 a, .int .i64 c, .int .i64 h, .int .i64 t, .int .i64 i, .int .i64 p]) w3 (by simp [execOp, go_sem, Act.eval, *]) (Below.refl _ _) rfl
    · simp only [List.getElem?_toArray, List.getElem?_cons_succ, List.getElem?_cons_zero, Option.some.injEq] at ho
      subst ho
      refine ⟨rfl, ?_⟩
      have e6 : A_.tmps[6]?.getD undef = .pointer (some ⟨w.heap.size + 1, 0, none⟩) := by rw [hI.low 6 (by decide)]; rfl
      clear hI hdep
      obtain ⟨⟨fa0, fa1, fa2, fa3, fa4, fa5, fa6, fa7⟩, ⟨fb0, fb1, fb2, fb3, fb4, fb5, fb6, fb7⟩, ⟨fp0, fp1, fp2, fp3, fp4⟩, ⟨fq0, fq1, fq2, fq3, fq4⟩, ⟨fc0, fc1, fc2, fc3, fc4, fc5, fc6, fc7⟩, fd0, fd1, fd2, fd3, fd4⟩ := HK.out w3 hh
      exact .run rfl (.agg #[.int .i64 k2, .int .i64 n2, .int .i64 a2, .int .i64 c2, .int .i64 h2, .int .i64 t2, .int .i64 i2, .int .i64 p2]) w3 (by simp [execOp, go_sem, Act.eval, *]) (Below.refl _ _) rfl
    · simp only [List.getElem?_toArray, List.getElem?_cons_succ, List.getElem?_cons_zero, Option.some.injEq] at ho
      subst ho
      refine ⟨rfl, ?_⟩
      have e48 : A_.tmps[48]?.getD undef = .agg #[.int .i64 k, .int .i64 n, .int .i64 a, .int .i64 c, .int .i64 h, .int .i64 t, .int .i64 i, .int .i64 p] := getD_of (hI.val_ (i := 3) rfl rfl (by decide) (hdep ⟨3, .data⟩ (by simp) rfl))
      have e49 : A_.tmps[49]?.getD undef = .agg #[.int .i64 k2, .int .i64 n2, .int .i64 a2, .int .i64 c2, .int .i64 h2, .int .i64 t2, .int .i64 i2, .int .i64 p2] := getD_of (hI.val_ (i := 4) rfl rfl (by decide) (hdep ⟨4, .data⟩ (by simp) rfl))
      clear hI hdep
      exact .call rfl 7 #[.agg #[.int .i64 k, .int .i64 n, .int .i64 a, .int .i64 c, .int .i64 h, .int .i64 t, .int .i64 i, .int .i64 p], .agg #[.int .i64 k2, .int .i64 n2, .int .i64 a2, .int .i64 c2, .int .i64 h2, .int .i64 t2, .int .i64 i2, .int .i64 p2]] (by simp [go_sem, Act.eval, e48, e49]) ((HR1.out w3).mono fun _ _ ⟨h1_, h2_⟩ => ⟨⟨_, h1_, rfl⟩, h2_⟩)
    · simp only [List.getElem?_toArray, List.getElem?_cons_succ, List.getElem?_cons_zero, Option.some.injEq] at ho
      subst ho
      refine ⟨rfl, ?_⟩
      have e47 : A_.tmps[47]?.getD undef = .int .i64 R1 := getD_of (hI.val_ (i := 2) rfl rfl (by decide) (hdep ⟨2, .data⟩ (by simp) rfl))
      have e50 : A_.tmps[50]?.getD undef = .int .i64 R1 := getD_of (hI.val_ (i := 5) rfl rfl (by decide) (hdep ⟨5, .data⟩ (by simp) rfl))
      clear hI hdep
      exact .run rfl (.bool false) w3 (by simp [execOp, go_sem, Act.eval, *]) (Below.refl _ _) rfl
    · simp only [List.getElem?_toArray, List.getElem?_cons_succ, List.getElem?_cons_zero, Option.some.injEq] at ho
      subst ho
      refine ⟨rfl, ?_⟩
      have e51 : A_.tmps[51]?.getD undef = .bool false := getD_of (hI.val_ (i := 6) rfl rfl (by decide) (hdep ⟨6, .data⟩ (by simp) rfl))
      clear hI hdep
      exact .run rfl (.bool false) w3 (by simp [execOp, go_sem, Act.eval, e51]) (Below.refl _ _) rfl
    · simp only [List.getElem?_toArray, List.getElem?_cons_succ, List.getElem?_cons_zero, Option.some.injEq] at ho
      subst ho
      refine ⟨rfl, ?_⟩
      have q52 : A_.tmps[52]? = some (.bool false) := hI.val_ (i := 7) rfl rfl (by decide) (hdep ⟨7, .guard⟩ (by simp) rfl)
      have e5 : A_.tmps[5]?.getD undef = .pointer (some ⟨w.heap.size, 0, none⟩) := by rw [hI.low 5 (by decide)]; rfl
      clear hI hdep
      obtain ⟨⟨fa0, fa1, fa2, fa3, fa4, fa5, fa6, fa7⟩, ⟨fb0, fb1, fb2, fb3, fb4, fb5, fb6, fb7⟩, ⟨fp0, fp1, fp2, fp3, fp4⟩, ⟨fq0, fq1, fq2, fq3, fq4⟩, ⟨fc0, fc1, fc2, fc3, fc4, fc5, fc6, fc7⟩, fd0, fd1, fd2, fd3, fd4⟩ := HK.out w3 hh
      exact .run ((wanted_some rfl rfl q52).trans rfl) (.agg #[.int .i64 k, .int .i64 n, .int .i64 a, .int .i64 c, .int .i64 h, .int .i64 t, .int .i64 i, .int .i64 p]) w3 (by simp [execOp, go_sem, Act.eval, *]) (Below.refl _ _) rfl
    · simp only [List.getElem?_toArray, List.getElem?_cons_succ, List.getElem?_cons_zero, Option.some.injEq] at ho
      subst ho
      refine ⟨rfl, ?_⟩
      have q52 : A_.tmps[52]? = some (.bool false) := hI.val_ (i := 7) rfl rfl (by decide) (hdep ⟨7, .guard⟩ (by simp) rfl)
      have e11 : A_.tmps[11]?.getD undef = .pointer (some ⟨U.heap.size, 0, none⟩) := by rw [hI.low 11 (by decide)]; rfl
      clear hI hdep
      obtain ⟨⟨fa0, fa1, fa2, fa3, fa4, fa5, fa6, fa7⟩, ⟨fb0, fb1, fb2, fb3, fb4, fb5, fb6, fb7⟩, ⟨fp0, fp1, fp2, fp3, fp4⟩, ⟨fq0, fq1, fq2, fq3, fq4⟩, ⟨fc0, fc1, fc2, fc3, fc4, fc5, fc6, fc7⟩, fd0, fd1, fd2, fd3, fd4⟩ := HK.out w3 hh
      exact .run ((wanted_some rfl rfl q52).trans rfl) (.agg #[.int .i64 k, .int .i64 n, .int .i64 a2, .int .i64 c, .int .i64 h, .int .i64 t, .int .i64 i, .int .i64 p]) w3 (by simp [execOp, go_sem, Act.eval, *]) (Below.refl _ _) rfl
    · simp only [List.getElem?_toArray, List.getElem?_cons_succ, List.getElem?_cons_zero, Option.some.injEq] at ho
      subst ho
      refine ⟨rfl, ?_⟩
      have q52 : A_.tmps[52]? = some (.bool false) := hI.val_ (i := 7) rfl rfl (by decide) (hdep ⟨7, .guard⟩ (by simp) rfl)
      have e53 : A_.tmps[53]?.getD undef = .agg #[.int .i64 k, .int .i64 n, .int .i64 a, .int .i64 c, .int .i64 h, .int .i64 t, .int .i64 i, .int .i64 p] := getD_of (hI.val_ (i := 8) rfl rfl (by decide) (hdep ⟨8, .data⟩ (by simp) rfl))
      have e54 : A_.tmps[54]?.getD undef = .agg #[.int .i64 k, .int .i64 n, .int .i64 a2, .int .i64 c, .int .i64 h, .int .i64 t, .int .i64 i, .int .i64 p] := getD_of (hI.val_ (i := 9) rfl rfl (by decide) (hdep ⟨9, .data⟩ (by simp) rfl))
      clear hI hdep
      exact .call ((wanted_some rfl rfl q52).trans rfl) 6 #[.agg #[.int .i64 k, .int .i64 n, .int .i64 a, .int .i64 c, .int .i64 h, .int .i64 t, .int .i64 i, .int .i64 p], .agg #[.int .i64 k, .int .i64 n, .int .i64 a2, .int .i64 c, .int .i64 h, .int .i64 t, .int .i64 i, .int .i64 p]] (by simp [go_sem, Act.eval, e53, e54]) ((HC2.out w3).mono fun _ _ ⟨h1_, h2_⟩ => ⟨⟨_, h1_, rfl⟩, h2_⟩)
    · simp only [List.getElem?_toArray, List.getElem?_cons_succ, List.getElem?_cons_zero, Option.some.injEq] at ho
      subst ho
      refine ⟨rfl, ?_⟩
      have q52 : A_.tmps[52]? = some (.bool false) := hI.val_ (i := 7) rfl rfl (by decide) (hdep ⟨7, .guard⟩ (by simp) rfl)
      have e5 : A_.tmps[5]?.getD undef = .pointer (some ⟨w.heap.size, 0, none⟩) := by rw [hI.low 5 (by decide)]; rfl
      clear hI hdep
      obtain ⟨⟨fa0, fa1, fa2, fa3, fa4, fa5, fa6, fa7⟩, ⟨fb0, fb1, fb2, fb3, fb4, fb5, fb6, fb7⟩, ⟨fp0, fp1, fp2, fp3, fp4⟩, ⟨fq0, fq1, fq2, fq3, fq4⟩, ⟨fc0, fc1, fc2, fc3, fc4, fc5, fc6, fc7⟩, fd0, fd1, fd2, fd3, fd4⟩ := HK.out w3 hh
      exact .run ((wanted_some rfl rfl q52).trans rfl) (.agg #[.int .i64 k, .int .i64 n, .int .i64 a, .int .i64 c, .int .i64 h, .int .i64 t, .int .i64 i, .int .i64 p]) w3 (by simp [execOp, go_sem, Act.eval, *]) (Below.refl _ _) rfl
    · simp only [List.getElem?_toArray, List.getElem?_cons_succ, List.getElem?_cons_zero, Option.some.injEq] at ho
      subst ho
      refine ⟨rfl, ?_⟩
      have q52 : A_.tmps[52]? = some (.bool false) := hI.val_ (i := 7) rfl rfl (by decide) (hdep ⟨7, .guard⟩ (by simp) rfl)
      have e11 : A_.tmps[11]?.getD undef = .pointer (some ⟨U.heap.size, 0, none⟩) := by rw [hI.low 11 (by decide)]; rfl
      clear hI hdep
      obtain ⟨⟨fa0, fa1, fa2, fa3, fa4, fa5, fa6, fa7⟩, ⟨fb0, fb1, fb2, fb3, fb4, fb5, fb6, fb7⟩, ⟨fp0, fp1, fp2, fp3, fp4⟩, ⟨fq0, fq1, fq2, fq3, fq4⟩, ⟨fc0, fc1, fc2, fc3, fc4, fc5, fc6, fc7⟩, fd0, fd1, fd2, fd3, fd4⟩ := HK.out w3 hh
      exact .run ((wanted_some rfl rfl q52).trans rfl) (.agg #[.int .i64 k, .int .i64 n, .int .i64 a2, .int .i64 c, .int .i64 h, .int .i64 t, .int .i64 i, .int .i64 p]) w3 (by simp [execOp, go_sem, Act.eval, *]) (Below.refl _ _) rfl
    · simp only [List.getElem?_toArray, List.getElem?_cons_succ, List.getElem?_cons_zero, Option.some.injEq] at ho
      subst ho
      refine ⟨rfl, ?_⟩
      have q52 : A_.tmps[52]? = some (.bool false) := hI.val_ (i := 7) rfl rfl (by decide) (hdep ⟨7, .guard⟩ (by simp) rfl)
      have e56 : A_.tmps[56]?.getD undef = .agg #[.int .i64 k, .int .i64 n, .int .i64 a, .int .i64 c, .int .i64 h, .int .i64 t, .int .i64 i, .int .i64 p] := getD_of (hI.val_ (i := 11) rfl rfl (by decide) (hdep ⟨11, .data⟩ (by simp) rfl))
      have e57 : A_.tmps[57]?.getD undef = .agg #[.int .i64 k, .int .i64 n, .int .i64 a2, .int .i64 c, .int .i64 h, .int .i64 t, .int .i64 i, .int .i64 p] := getD_of (hI.val_ (i := 12) rfl rfl (by decide) (hdep ⟨12, .data⟩ (by simp) rfl))
      clear hI hdep
      exact .call ((wanted_some rfl rfl q52).trans rfl) 7 #[.agg #[.int .i64 k, .int .i64 n, .int .i64 a, .int .i64 c, .int .i64 h, .int .i64 t, .int .i64 i, .int .i64 p], .agg #[.int .i64 k, .int .i64 n, .int .i64 a2, .int .i64 c, .int .i64 h, .int .i64 t, .int .i64 i, .int .i64 p]] (by simp [go_sem, Act.eval, e56, e57]) ((HR2.out w3).mono fun _ _ ⟨h1_, h2_⟩ => ⟨⟨_, h1_, rfl⟩, h2_⟩)
    · simp only [List.getElem?_toArray, List.getElem?_cons_succ, List.getElem?_cons_zero, Option.some.injEq] at ho
      subst ho
      refine ⟨rfl, ?_⟩
      have q52 : A_.tmps[52]? = some (.bool false) := hI.val_ (i := 7) rfl rfl (by decide) (hdep ⟨7, .guard⟩ (by simp) rfl)
      have e55 : A_.tmps[55]?.getD undef = .int .i64 R2 := getD_of (hI.val_ (i := 10) rfl rfl (by decide) (hdep ⟨10, .data⟩ (by simp) rfl))
      have e58 : A_.tmps[58]?.getD undef = .int .i64 R2 := getD_of (hI.val_ (i := 13) rfl rfl (by decide) (hdep ⟨13, .data⟩ (by simp) rfl))
      clear hI hdep
      exact .run ((wanted_some rfl rfl q52).trans rfl) (.bool false) w3 (by simp [execOp, go_sem, Act.eval, *]) (Below.refl _ _) rfl
    · simp only [List.getElem?_toArray, List.getElem?_cons_succ, List.getElem?_cons_zero, Option.some.injEq] at ho
      subst ho
      refine ⟨rfl, ?_⟩
      have e52 : A_.tmps[52]?.getD undef = .bool false := getD_of (hI.val_ (i := 7) rfl rfl (by decide) (hdep ⟨7, .data⟩ (by simp) rfl))
      have e59 : A_.tmps[59]?.getD undef = .bool false := getD_of (hI.val_ (i := 14) rfl rfl (by decide) (hdep ⟨14, .data⟩ (by simp) rfl))
      clear hI hdep
      exact .run rfl (.bool false) w3 (by simp [execOp, go_sem, Act.eval, e52, e59]) (Below.refl _ _) rfl
  case fin =>
  intro A_ w3 hs hd hlow hS hok
  obtain rfl : A_ = ⟨#[.agg #[.int .i64 k, .int .i64 n, .int .i64 a, .int .i64 c, .int .i64 h, .int .i64 t, .int .i64 i, .int .i64 p], .agg #[.int .i64 k2, .int .i64 n2, .int .i64 a2, .int .i64 c2, .int .i64 h2, .int .i64 t2, .int .i64 i2, .int .i64 p2], .agg #[.int .i64 qc, .int .i64 qh, .int .i64 qt, .int .i64 qk, .int .i64 qi], .agg #[.int .i64 qc2, .int .i64 qh2, .int .i64 qt2, .int .i64 qk2, .int .i64 qi2], .int .i64 at_, .pointer (some ⟨w.heap.size, 0, none⟩), .pointer (some ⟨w.heap.size + 1, 0, none⟩), .pointer (some ⟨w.heap.size + 1 + 1, 0, none⟩), .pointer (some ⟨w.heap.size + 1 + 1 + 1, 0, none⟩), undef, .bool false, .pointer (some ⟨U.heap.size, 0, none⟩), .pointer (some ⟨U5.heap.size, 0, none⟩), undef, .agg #[.int .i64 k, .int .i64 n, .int .i64 a, .int .i64 c, .int .i64 h, .int .i64 t, .int .i64 i, .int .i64 p], .agg #[.int .i64 qc, .int .i64 qh, .int .i64 qt, .int .i64 qk, .int .i64 qi], .int .i64 at_, .int .i64 2, undef, undef, undef, .bool false, .bool false, undef, undef, undef, undef, undef, undef, .bool false, .bool false, undef, undef, undef, undef, undef, undef, .bool true, .bool true, .pointer (some ⟨w.heap.size + 1, 2, none⟩), .int .i64 a2, .pointer (some ⟨U.heap.size, 2, none⟩), .pointer (some ⟨w.heap.size + 1 + 1 + 1, 0, none⟩), .agg #[.int .i64 qc2, .int .i64 qh2, .int .i64 qt2], .pointer (some ⟨U5.heap.size, 0, none⟩), .agg #[.int .i64 k, .int .i64 n, .int .i64 a, .int .i64 c, .int .i64 h, .int .i64 t, .int .i64 i, .int .i64 p], .agg #[.int .i64 k2, .int .i64 n2, .int .i64 a2, .int .i64 c2, .int .i64 h2, .int .i64 t2, .int .i64 i2, .int .i64 p2], .int .i64 R1, .agg #[.int .i64 k, .int .i64 n, .int .i64 a, .int .i64 c, .int .i64 h, .int .i64 t, .int .i64 i, .int .i64 p], .agg #[.int .i64 k2, .int .i64 n2, .int .i64 a2, .int .i64 c2, .int .i64 h2, .int .i64 t2, .int .i64 i2, .int .i64 p2], .int .i64 R1, .bool false, .bool false, .agg #[.int .i64 k, .int .i64 n, .int .i64 a, .int .i64 c, .int .i64 h, .int .i64 t, .int .i64 i, .int .i64 p], .agg #[.int .i64 k, .int .i64 n, .int .i64 a2, .int .i64 c, .int .i64 h, .int .i64 t, .int .i64 i, .int .i64 p], .int .i64 R2, .agg #[.int .i64 k, .int .i64 n, .int .i64 a, .int .i64 c, .int .i64 h, .int .i64 t, .int .i64 i, .int .i64 p], .agg #[.int .i64 k, .int .i64 n, .int .i64 a2, .int .i64 c, .int .i64 h, .int .i64 t, .int .i64 i, .int .i64 p], .int .i64 R2, .bool false, .bool false, undef, undef, undef, undef, undef, undef, undef, undef, undef, undef, undef, undef, undef, undef, undef, undef, undef, undef, undef, undef, undef, undef, undef], []⟩ := act_ext hd hs (fun j hj => match j, hj with | 0, _ => (hlow 0 (by decide)).trans rfl | 1, _ => (hlow 1 (by decide)).trans rfl | 2, _ => (hlow 2 (by decide)).trans rfl | 3, _ => (hlow 3 (by decide)).trans rfl | 4, _ => (hlow 4 (by decide)).trans rfl | 5, _ => (hlow 5 (by decide)).trans rfl | 6, _ => (hlow 6 (by decide)).trans rfl | 7, _ => (hlow 7 (by decide)).trans rfl | 8, _ => (hlow 8 (by decide)).trans rfl | 9, _ => (hlow 9 (by decide)).trans rfl | 10, _ => (hlow 10 (by decide)).trans rfl | 11, _ => (hlow 11 (by decide)).trans rfl | 12, _ => (hlow 12 (by decide)).trans rfl | 13, _ => (hlow 13 (by decide)).trans rfl | 14, _ => (hlow 14 (by decide)).trans rfl | 15, _ => (hlow 15 (by decide)).trans rfl | 16, _ => (hlow 16 (by decide)).trans rfl | 17, _ => (hlow 17 (by decide)).trans rfl | 18, _ => (hlow 18 (by decide)).trans rfl | 19, _ => (hlow 19 (by decide)).trans rfl | 20, _ => (hlow 20 (by decide)).trans rfl | 21, _ => (hlow 21 (by decide)).trans rfl | 22, _ => (hlow 22 (by decide)).trans rfl | 23, _ => (hlow 23 (by decide)).trans rfl | 24, _ => (hlow 24 (by decide)).trans rfl | 25, _ => (hlow 25 (by decide)).trans rfl | 26, _ => (hlow 26 (by decide)).trans rfl | 27, _ => (hlow 27 (by decide)).trans rfl | 28, _ => (hlow 28 (by decide)).trans rfl | 29, _ => (hlow 29 (by decide)).trans rfl | 30, _ => (hlow 30 (by decide)).trans rfl | 31, _ => (hlow 31 (by decide)).trans rfl | 32, _ => (hlow 32 (by decide)).trans rfl | 33, _ => (hlow 33 (by decide)).trans rfl | 34, _ => (hlow 34 (by decide)).trans rfl | 35, _ => (hlow 35 (by decide)).trans rfl | 36, _ => (hlow 36 (by decide)).trans rfl | 37, _ => (hlow 37 (by decide)).trans rfl | 38, _ => (hlow 38 (by decide)).trans rfl | 39, _ => (hlow 39 (by decide)).trans rfl | 40, _ => (hlow 40 (by decide)).trans rfl | 41, _ => (hlow 41 (by decide)).trans rfl | 42, _ => (hlow 42 (by decide)).trans rfl | 43, _ => (hlow 43 (by decide)).trans rfl | 44, _ => (hlow 44 (by decide)).trans rfl | 45, _ => RgX.val_at (hok 0 45 _ (by decide) rfl rfl) | 46, _ => RgX.val_at (hok 1 46 _ (by decide) rfl rfl) | 47, _ => RgX.val_at (hok 2 47 _ (by decide) rfl rfl) | 48, _ => RgX.val_at (hok 3 48 _ (by decide) rfl rfl) | 49, _ => RgX.val_at (hok 4 49 _ (by decide) rfl rfl) | 50, _ => RgX.val_at (hok 5 50 _ (by decide) rfl rfl) | 51, _ => RgX.val_at (hok 6 51 _ (by decide) rfl rfl) | 52, _ => RgX.val_at (hok 7 52 _ (by decide) rfl rfl) | 53, _ => RgX.val_at (hok 8 53 _ (by decide) rfl rfl) | 54, _ => RgX.val_at (hok 9 54 _ (by decide) rfl rfl) | 55, _ => RgX.val_at (hok 10 55 _ (by decide) rfl rfl) | 56, _ => RgX.val_at (hok 11 56 _ (by decide) rfl rfl) | 57, _ => RgX.val_at (hok 12 57 _ (by decide) rfl rfl) | 58, _ => RgX.val_at (hok 13 58 _ (by decide) rfl rfl) | 59, _ => RgX.val_at (hok 14 59 _ (by decide) rfl rfl) | 60, _ => RgX.val_at (hok 15 60 _ (by decide) rfl rfl) | 61, _ => (hlow 61 (by decide)).trans rfl | 62, _ => (hlow 62 (by decide)).trans rfl | 63, _ => (hlow 63 (by decide)).trans rfl | 64, _ => (hlow 64 (by decide)).trans rfl | 65, _ => (hlow 65 (by decide)).trans rfl | 66, _ => (hlow 66 (by decide)).trans rfl | 67, _ => (hlow 67 (by decide)).trans rfl | 68, _ => (hlow 68 (by decide)).trans rfl | 69, _ => (hlow 69 (by decide)).trans rfl | 70, _ => (hlow 70 (by decide)).trans rfl | 71, _ => (hlow 71 (by decide)).trans rfl | 72, _ => (hlow 72 (by decide)).trans rfl | 73, _ => (hlow 73 (by decide)).trans rfl | 74, _ => (hlow 74 (by decide)).trans rfl | 75, _ => (hlow 75 (by decide)).trans rfl | 76, _ => (hlow 76 (by decide)).trans rfl | 77, _ => (hlow 77 (by decide)).trans rfl | 78, _ => (hlow 78 (by decide)).trans rfl | 79, _ => (hlow 79 (by decide)).trans rfl | 80, _ => (hlow 80 (by decide)).trans rfl | 81, _ => (hlow 81 (by decide)).trans rfl | 82, _ => (hlow 82 (by decide)).trans rfl | 83, _ => (hlow 83 (by decide)).trans rfl | n + 84, h => absurd h (by show ¬ n + 84 < 84; omega))
  clear hs hd hlow hok 
  obtain ⟨⟨fa0, fa1, fa2, fa3, fa4, fa5, fa6, fa7⟩, ⟨fb0, fb1, fb2, fb3, fb4, fb5, fb6, fb7⟩, ⟨fp0, fp1, fp2, fp3, fp4⟩, ⟨fq0, fq1, fq2, fq3, fq4⟩, ⟨fc0, fc1, fc2, fc3, fc4, fc5, fc6, fc7⟩, fd0, fd1, fd2, fd3, fd4⟩ := HK.out w3 hS
  have HB2 := Lib.hid (HB.out.trans (hS.mono HB.out.size))
  have HS := Lib.hid hS
  go_wp2_with fail
  refine (queKey_any _ _ _ _ _ _).mono ?_
  rintro e w9 ⟨⟨g13, rfl, k13⟩, hb9⟩
  have HB3 := Lib.hid (HB2.out.trans (hb9.mono HB2.out.size))
  have HK2 := Lib.hid (fun (V : World) (hV : Below w9.heap.size w9 V) => HK.out V ((HS.out.trans (hb9.mono HS.out.size)).trans (hV.mono (Nat.le_trans HS.out.size hb9.size))))
  have H13 := Lib.hid (fun (V : World) (hV : Below w9.heap.size w9 V) => (hV.block _ (heap_lt k13)).trans k13)
  clear fa0 fa1 fa2 fa3 fa4 fa5 fa6 fa7 fb0 fb1 fb2 fb3 fb4 fb5 fb6 fb7 fp0 fp1 fp2 fp3 fp4 fq0 fq1 fq2 fq3 fq4 fc0 fc1 fc2 fc3 fc4 fc5 fc6 fc7 fd0 fd1 fd2 fd3 fd4 k13 hb9 hS
  go_wp2_with fail
  refine RgX.region 22 (fun i => (if i = 21 then 10 else 63 + i)) (fun ix_ => match ix_ with | 0 => .v (.agg #[.int .i64 qc, .int .i64 qh, .int .i64 qt, .int .i64 qk, .int .i64 qi]) | 1 => .v (.agg #[.int .i64 qc2, .int .i64 qh2, .int .i64 qt2, .int .i64 qk2, .int .i64 qi2]) | 2 => .v (.int .i64 S1) | 3 => .v (.slice (some ⟨g13, 0, none⟩) 5 5) | 4 => .v (.agg #[.int .i64 qc2, .int .i64 qh2, .int .i64 qt2, .int .i64 qk2, .int .i64 qi2]) | 5 => .row #[.int .i64 qc2, .int .i64 qh2, .int .i64 qt2, .int .i64 qk2, .int .i64 qi2] 3 5 | 6 => .v (.int .i64 S1) | 7 => .v (.bool true) | 8 => .v (.bool true) | 9 => .v (.agg #[.int .i64 qc, .int .i64 qh, .int .i64 qt, .int .i64 qk, .int .i64 qi]) | 10 => .v (.agg #[.int .i64 qc2, .int .i64 qh2, .int .i64 qt2, .int .i64 qk, .int .i64 qi]) | 11 => .v (.int .i64 S2) | 12 => .v (.slice (some ⟨g13, 0, none⟩) 5 5) | 13 => .v (.agg #[.int .i64 qc2, .int .i64 qh2, .int .i64 qt2, .int .i64 qk, .int .i64 qi]) | 14 => .row #[.int .i64 qc2, .int .i64 qh2, .int .i64 qt2, .int .i64 qk, .int .i64 qi] 3 5 | 15 => .v (.int .i64 S2) | 16 => .v (.bool true) | 17 => .v (.bool true) | 18 => .v (.bool true) | 19 => .v (.bool true) | 20 => .v (.bool true) | 21 => .v (.bool true) | _ => .any) (by kernel_rfl) rfl (by kernel_rfl)  (fun i hi => by show (if i = 21 then 10 else 63 + i) < 84; (repeat' split) <;> omega) (fun i j hi hj => by show (if i = 21 then 10 else 63 + i) = (if j = 21 then 10 else 63 + j) → i = j; (repeat' split) <;> omega) ?step ?fin
  case step =>
    intro L_ A_ w3 ix op_ hI ho hdep
    have hi : ix < 22 := (Array.getElem?_eq_some_iff.1 ho).1
    have hcase : ix = 0 ∨ ix = 1 ∨ ix = 2 ∨ ix = 3 ∨ ix = 4 ∨ ix = 5 ∨ ix = 6 ∨ ix = 7 ∨ ix = 8 ∨ ix = 9 ∨ ix = 10 ∨ ix = 11 ∨ ix = 12 ∨ ix = 13 ∨ ix = 14 ∨ ix = 15 ∨ ix = 16 ∨ ix = 17 ∨ ix = 18 ∨ ix = 19 ∨ ix = 20 ∨ ix = 21 := by omega
    have hh := hI.held
    clear hi
    rcases hcase with rfl | rfl | rfl | rfl | rfl | rfl | rfl | rfl | rfl | rfl | rfl | rfl | rfl | rfl | rfl | rfl | rfl | rfl | rfl | rfl | rfl | rfl
    · simp only [List.getElem?_toArray, List.getElem?_cons_zero, Option.some.injEq] at ho
      subst ho
      refine ⟨rfl, ?_⟩
      have e7 : A_.tmps[7]?.getD undef = .pointer (some ⟨w.heap.size + 1 + 1, 0, none⟩) := by rw [hI.low 7 (by decide)]; rfl
      clear hI hdep
      obtain ⟨⟨fa0, fa1, fa2, fa3, fa4, fa5, fa6, fa7⟩, ⟨fb0, fb1, fb2, fb3, fb4, fb5, fb6, fb7⟩, ⟨fp0, fp1, fp2, fp3, fp4⟩, ⟨fq0, fq1, fq2, fq3, fq4⟩, ⟨fc0, fc1, fc2, fc3, fc4, fc5, fc6, fc7⟩, fd0, fd1, fd2, fd3, fd4⟩ := HK2.out w3 hh
      exact .run rfl (.agg #[.int .i64 qc, .int .i64 qh, .int .i64 qt, .int .i64 qk, .int .i64 qi]) w3 (by simp [execOp, go_sem, Act.eval, *]) (Below.refl _ _) rfl
    · simp only [List.getElem?_toArray, List.getElem?_cons_succ, List.getElem?_cons_zero, Option.some.injEq] at ho
      subst ho
      refine ⟨rfl, ?_⟩
      have e8 : A_.tmps[8]?.getD undef = .pointer (some ⟨w.heap.size + 1 + 1 + 1, 0, none⟩) := by rw [hI.low 8 (by decide)]; rfl
      clear hI hdep
      obtain ⟨⟨fa0, fa1, fa2, fa3, fa4, fa5, fa6, fa7⟩, ⟨fb0, fb1, fb2, fb3, fb4, fb5, fb6, fb7⟩, ⟨fp0, fp1, fp2, fp3, fp4⟩, ⟨fq0, fq1, fq2, fq3, fq4⟩, ⟨fc0, fc1, fc2, fc3, fc4, fc5, fc6, fc7⟩, fd0, fd1, fd2, fd3, fd4⟩ := HK2.out w3 hh
      exact .run rfl (.agg #[.int .i64 qc2, .int .i64 qh2, .int .i64 qt2, .int .i64 qk2, .int .i64 qi2]) w3 (by simp [execOp, go_sem, Act.eval, *]) (Below.refl _ _) rfl
    · simp only [List.getElem?_toArray, List.getElem?_cons_succ, List.getElem?_cons_zero, Option.some.injEq] at ho
      subst ho
      refine ⟨rfl, ?_⟩
      have e63 : A_.tmps[63]?.getD undef = .agg #[.int .i64 qc, .int .i64 qh, .int .i64 qt, .int .i64 qk, .int .i64 qi] := getD_of (hI.val_ (i := 0) rfl rfl (by decide) (hdep ⟨0, .data⟩ (by simp) rfl))
      have e64 : A_.tmps[64]?.getD undef = .agg #[.int .i64 qc2, .int .i64 qh2, .int .i64 qt2, .int .i64 qk2, .int .i64 qi2] := getD_of (hI.val_ (i := 1) rfl rfl (by decide) (hdep ⟨1, .data⟩ (by simp) rfl))
      clear hI hdep
      exact .call rfl 9 #[.agg #[.int .i64 qc, .int .i64 qh, .int .i64 qt, .int .i64 qk, .int .i64 qi], .agg #[.int .i64 qc2, .int .i64 qh2, .int .i64 qt2, .int .i64 qk2, .int .i64 qi2]] (by simp [go_sem, Act.eval, e63, e64]) ((HQ1.out w3).mono fun _ _ ⟨h1_, h2_⟩ => ⟨⟨_, h1_, rfl⟩, h2_⟩)
    · simp only [List.getElem?_toArray, List.getElem?_cons_succ, List.getElem?_cons_zero, Option.some.injEq] at ho
      subst ho
      refine ⟨rfl, ?_⟩
      have e13 : A_.tmps[13]?.getD undef = .slice (some ⟨g13, 0, none⟩) 5 5 := by rw [hI.low 13 (by decide)]; rfl
      clear hI hdep
      exact .run rfl (.slice (some ⟨g13, 0, none⟩) 5 5) w3 (by simp [execOp, go_sem, Act.eval, e13]) (Below.refl _ _) rfl
    · simp only [List.getElem?_toArray, List.getElem?_cons_succ, List.getElem?_cons_zero, Option.some.injEq] at ho
      subst ho
      refine ⟨rfl, ?_⟩
      have e8 : A_.tmps[8]?.getD undef = .pointer (some ⟨w.heap.size + 1 + 1 + 1, 0, none⟩) := by rw [hI.low 8 (by decide)]; rfl
      clear hI hdep
      obtain ⟨⟨fa0, fa1, fa2, fa3, fa4, fa5, fa6, fa7⟩, ⟨fb0, fb1, fb2, fb3, fb4, fb5, fb6, fb7⟩, ⟨fp0, fp1, fp2, fp3, fp4⟩, ⟨fq0, fq1, fq2, fq3, fq4⟩, ⟨fc0, fc1, fc2, fc3, fc4, fc5, fc6, fc7⟩, fd0, fd1, fd2, fd3, fd4⟩ := HK2.out w3 hh
      exact .run rfl (.agg #[.int .i64 qc2, .int .i64 qh2, .int .i64 qt2, .int .i64 qk2, .int .i64 qi2]) w3 (by simp [execOp, go_sem, Act.eval, *]) (Below.refl _ _) rfl
    · simp only [List.getElem?_toArray, List.getElem?_cons_succ, List.getElem?_cons_zero, Option.some.injEq] at ho
      subst ho
      refine ⟨rfl, ?_⟩
      have e67 : A_.tmps[67]?.getD undef = .agg #[.int .i64 qc2, .int .i64 qh2, .int .i64 qt2, .int .i64 qk2, .int .i64 qi2] := getD_of (hI.val_ (i := 4) rfl rfl (by decide) (hdep ⟨4, .data⟩ (by simp) rfl))
      clear hI hdep
      exact .call rfl 8 #[.agg #[.int .i64 qc2, .int .i64 qh2, .int .i64 qt2, .int .i64 qk2, .int .i64 qi2]] (by simp [go_sem, Act.eval, e67]) (queKey_row _ _ _ _ _ w3)
    · simp only [List.getElem?_toArray, List.getElem?_cons_succ, List.getElem?_cons_zero, Option.some.injEq] at ho
      subst ho
      refine ⟨rfl, ?_⟩
      have e66 : A_.tmps[66]?.getD undef = .slice (some ⟨g13, 0, none⟩) 5 5 := getD_of (hI.val_ (i := 3) rfl rfl (by decide) (hdep ⟨3, .data⟩ (by simp) rfl))
      obtain ⟨_, e68, g68, rfl, r68⟩ := hI.get_ (i := 5) (j := 68) rfl rfl (by decide) (hdep ⟨5, .data⟩ (by simp) rfl)
      clear hI hdep
      exact .call rfl 10 #[.slice (some ⟨g13, 0, none⟩) 5 5, .slice (some ⟨g68, 0, none⟩) 5 5] (by simp [go_sem, Act.eval, e66, e68]) ((HL1.out w3 g13 g68 (H13.out w3 hh) r68).mono fun _ _ ⟨h1_, h2_⟩ => ⟨⟨_, h1_, rfl⟩, h2_⟩)
    · simp only [List.getElem?_toArray, List.getElem?_cons_succ, List.getElem?_cons_zero, Option.some.injEq] at ho
      subst ho
      refine ⟨rfl, ?_⟩
      have e65 : A_.tmps[65]?.getD undef = .int .i64 S1 := getD_of (hI.val_ (i := 2) rfl rfl (by decide) (hdep ⟨2, .data⟩ (by simp) rfl))
      have e69 : A_.tmps[69]?.getD undef = .int .i64 S1 := getD_of (hI.val_ (i := 6) rfl rfl (by decide) (hdep ⟨6, .data⟩ (by simp) rfl))
      clear hI hdep
      exact .run rfl (.bool true) w3 (by simp [execOp, go_sem, Act.eval, *]) (Below.refl _ _) rfl
    · simp only [List.getElem?_toArray, List.getElem?_cons_succ, List.getElem?_cons_zero, Option.some.injEq] at ho
      subst ho
      refine ⟨rfl, ?_⟩
      have e70 : A_.tmps[70]?.getD undef = .bool true := getD_of (hI.val_ (i := 7) rfl rfl (by decide) (hdep ⟨7, .data⟩ (by simp) rfl))
      clear hI hdep
      exact .run rfl (.bool true) w3 (by simp [execOp, go_sem, Act.eval, e70]) (Below.refl _ _) rfl
    · simp only [List.getElem?_toArray, List.getElem?_cons_succ, List.getElem?_cons_zero, Option.some.injEq] at ho
      subst ho
      refine ⟨rfl, ?_⟩
      have q71 : A_.tmps[71]? = some (.bool true) := hI.val_ (i := 8) rfl rfl (by decide) (hdep ⟨8, .guard⟩ (by simp) rfl)
      have e7 : A_.tmps[7]?.getD undef = .pointer (some ⟨w.heap.size + 1 + 1, 0, none⟩) := by rw [hI.low 7 (by decide)]; rfl
      clear hI hdep
      obtain ⟨⟨fa0, fa1, fa2, fa3, fa4, fa5, fa6, fa7⟩, ⟨fb0, fb1, fb2, fb3, fb4, fb5, fb6, fb7⟩, ⟨fp0, fp1, fp2, fp3, fp4⟩, ⟨fq0, fq1, fq2, fq3, fq4⟩, ⟨fc0, fc1, fc2, fc3, fc4, fc5, fc6, fc7⟩, fd0, fd1, fd2, fd3, fd4⟩ := HK2.out w3 hh
      exact .run ((wanted_some rfl rfl q71).trans rfl) (.agg #[.int .i64 qc, .int .i64 qh, .int .i64 qt, .int .i64 qk, .int .i64 qi]) w3 (by simp [execOp, go_sem, Act.eval, *]) (Below.refl _ _) rfl
    · simp only [List.getElem?_toArray, List.getElem?_cons_succ, List.getElem?_cons_zero, Option.some.injEq] at ho
      subst ho
      refine ⟨rfl, ?_⟩
      have q71 : A_.tmps[71]? = some (.bool true) := hI.val_ (i := 8) rfl rfl (by decide) (hdep ⟨8, .guard⟩ (by simp) rfl)
      have e12 : A_.tmps[12]?.getD undef = .pointer (some ⟨U5.heap.size, 0, none⟩) := by rw [hI.low 12 (by decide)]; rfl
      clear hI hdep
      obtain ⟨⟨fa0, fa1, fa2, fa3, fa4, fa5, fa6, fa7⟩, ⟨fb0, fb1, fb2, fb3, fb4, fb5, fb6, fb7⟩, ⟨fp0, fp1, fp2, fp3, fp4⟩, ⟨fq0, fq1, fq2, fq3, fq4⟩, ⟨fc0, fc1, fc2, fc3, fc4, fc5, fc6, fc7⟩, fd0, fd1, fd2, fd3, fd4⟩ := HK2.out w3 hh
      exact .run ((wanted_some rfl rfl q71).trans rfl) (.agg #[.int .i64 qc2, .int .i64 qh2, .int .i64 qt2, .int .i64 qk, .int .i64 qi]) w3 (by simp [execOp, go_sem, Act.eval, *]) (Below.refl _ _) rfl
    · simp only [List.getElem?_toArray, List.getElem?_cons_succ, List.getElem?_cons_zero, Option.some.injEq] at ho
      subst ho
      refine ⟨rfl, ?_⟩
      have q71 : A_.tmps[71]? = some (.bool true) := hI.val_ (i := 8) rfl rfl (by decide) (hdep ⟨8, .guard⟩ (by simp) rfl)
      have e72 : A_.tmps[72]?.getD undef = .agg #[.int .i64 qc, .int .i64 qh, .int .i64 qt, .int .i64 qk, .int .i64 qi] := getD_of (hI.val_ (i := 9) rfl rfl (by decide) (hdep ⟨9, .data⟩ (by simp) rfl))
      have e73 : A_.tmps[73]?.getD undef = .agg #[.int .i64 qc2, .int .i64 qh2, .int .i64 qt2, .int .i64 qk, .int .i64 qi] := getD_of (hI.val_ (i := 10) rfl rfl (by decide) (hdep ⟨10, .data⟩ (by simp) rfl))
      clear hI hdep
      exact .call ((wanted_some rfl rfl q71).trans rfl) 9 #[.agg #[.int .i64 qc, .int .i64 qh, .int .i64 qt, .int .i64 qk, .int .i64 qi], .agg #[.int .i64 qc2, .int .i64 qh2, .int .i64 qt2, .int .i64 qk, .int .i64 qi]] (by simp [go_sem, Act.eval, e72, e73]) ((HQ2.out w3).mono fun _ _ ⟨h1_, h2_⟩ => ⟨⟨_, h1_, rfl⟩, h2_⟩)
    · simp only [List.getElem?_toArray, List.getElem?_cons_succ, List.getElem?_cons_zero, Option.some.injEq] at ho
      subst ho
      refine ⟨rfl, ?_⟩
      have q71 : A_.tmps[71]? = some (.bool true) := hI.val_ (i := 8) rfl rfl (by decide) (hdep ⟨8, .guard⟩ (by simp) rfl)
      have e13 : A_.tmps[13]?.getD undef = .slice (some ⟨g13, 0, none⟩) 5 5 := by rw [hI.low 13 (by decide)]; rfl
      clear hI hdep
      exact .run ((wanted_some rfl rfl q71).trans rfl) (.slice (some ⟨g13, 0, none⟩) 5 5) w3 (by simp [execOp, go_sem, Act.eval, e13]) (Below.refl _ _) rfl
    · simp only [List.getElem?_toArray, List.getElem?_cons_succ, List.getElem?_cons_zero, Option.some.injEq] at ho
      subst ho
      refine ⟨rfl, ?_⟩
      have q71 : A_.tmps[71]? = some (.bool true) := hI.val_ (i := 8) rfl rfl (by decide) (hdep ⟨8, .guard⟩ (by simp) rfl)
      have e12 : A_.tmps[12]?.getD undef = .pointer (some ⟨U5.heap.size, 0, none⟩) := by rw [hI.low 12 (by decide)]; rfl
      clear hI hdep
      obtain ⟨⟨fa0, fa1, fa2, fa3, fa4, fa5, fa6, fa7⟩, ⟨fb0, fb1, fb2, fb3, fb4, fb5, fb6, fb7⟩, ⟨fp0, fp1, fp2, fp3, fp4⟩, ⟨fq0, fq1, fq2, fq3, fq4⟩, ⟨fc0, fc1, fc2, fc3, fc4, fc5, fc6, fc7⟩, fd0, fd1, fd2, fd3, fd4⟩ := HK2.out w3 hh
      exact .run ((wanted_some rfl rfl q71).trans rfl) (.agg #[.int .i64 qc2, .int .i64 qh2, .int .i64 qt2, .int .i64 qk, .int .i64 qi]) w3 (by simp [execOp, go_sem, Act.eval, *]) (Below.refl _ _) rfl
    · simp only [List.getElem?_toArray, List.getElem?_cons_succ, List.getElem?_cons_zero, Option.some.injEq] at ho
      subst ho
      refine ⟨rfl, ?_⟩
      have q71 : A_.tmps[71]? = some (.bool true) := hI.val_ (i := 8) rfl rfl (by decide) (hdep ⟨8, .guard⟩ (by simp) rfl)
      have e76 : A_.tmps[76]?.getD undef = .agg #[.int .i64 qc2, .int .i64 qh2, .int .i64 qt2, .int .i64 qk, .int .i64 qi] := getD_of (hI.val_ (i := 13) rfl rfl (by decide) (hdep ⟨13, .data⟩ (by simp) rfl))
      clear hI hdep
      exact .call ((wanted_some rfl rfl q71).trans rfl) 8 #[.agg #[.int .i64 qc2, .int .i64 qh2, .int .i64 qt2, .int .i64 qk, .int .i64 qi]] (by simp [go_sem, Act.eval, e76]) (queKey_row _ _ _ _ _ w3)
    · simp only [List.getElem?_toArray, List.getElem?_cons_succ, List.getElem?_cons_zero, Option.some.injEq] at ho
      subst ho
      refine ⟨rfl, ?_⟩
      have q71 : A_.tmps[71]? = some (.bool true) := hI.val_ (i := 8) rfl rfl (by decide) (hdep ⟨8, .guard⟩ (by simp) rfl)
      have e75 : A_.tmps[75]?.getD undef = .slice (some ⟨g13, 0, none⟩) 5 5 := getD_of (hI.val_ (i := 12) rfl rfl (by decide) (hdep ⟨12, .data⟩ (by simp) rfl))
      obtain ⟨_, e77, g77, rfl, r77⟩ := hI.get_ (i := 14) (j := 77) rfl rfl (by decide) (hdep ⟨14, .data⟩ (by simp) rfl)
      clear hI hdep
      exact .call ((wanted_some rfl rfl q71).trans rfl) 10 #[.slice (some ⟨g13, 0, none⟩) 5 5, .slice (some ⟨g77, 0, none⟩) 5 5] (by simp [go_sem, Act.eval, e75, e77]) ((HL2.out w3 g13 g77 (H13.out w3 hh) r77).mono fun _ _ ⟨h1_, h2_⟩ => ⟨⟨_, h1_, rfl⟩, h2_⟩)
    · simp only [List.getElem?_toArray, List.getElem?_cons_succ, List.getElem?_cons_zero, Option.some.injEq] at ho
      subst ho
      refine ⟨rfl, ?_⟩
      have q71 : A_.tmps[71]? = some (.bool true) := hI.val_ (i := 8) rfl rfl (by decide) (hdep ⟨8, .guard⟩ (by simp) rfl)
      have e74 : A_.tmps[74]?.getD undef = .int .i64 S2 := getD_of (hI.val_ (i := 11) rfl rfl (by decide) (hdep ⟨11, .data⟩ (by simp) rfl))
      have e78 : A_.tmps[78]?.getD undef = .int .i64 S2 := getD_of (hI.val_ (i := 15) rfl rfl (by decide) (hdep ⟨15, .data⟩ (by simp) rfl))
      clear hI hdep
      exact .run ((wanted_some rfl rfl q71).trans rfl) (.bool true) w3 (by simp [execOp, go_sem, Act.eval, *]) (Below.refl _ _) rfl
    · simp only [List.getElem?_toArray, List.getElem?_cons_succ, List.getElem?_cons_zero, Option.some.injEq] at ho
      subst ho
      refine ⟨rfl, ?_⟩
      have e71 : A_.tmps[71]?.getD undef = .bool true := getD_of (hI.val_ (i := 8) rfl rfl (by decide) (hdep ⟨8, .data⟩ (by simp) rfl))
      have e79 : A_.tmps[79]?.getD undef = .bool true := getD_of (hI.val_ (i := 16) rfl rfl (by decide) (hdep ⟨16, .data⟩ (by simp) rfl))
      clear hI hdep
      exact .run rfl (.bool true) w3 (by simp [execOp, go_sem, Act.eval, e71, e79]) (Below.refl _ _) rfl
    · simp only [List.getElem?_toArray, List.getElem?_cons_succ, List.getElem?_cons_zero, Option.some.injEq] at ho
      subst ho
      refine ⟨rfl, ?_⟩
      have e80 : A_.tmps[80]?.getD undef = .bool true := getD_of (hI.val_ (i := 17) rfl rfl (by decide) (hdep ⟨17, .data⟩ (by simp) rfl))
      clear hI hdep
      exact .run rfl (.bool true) w3 (by simp [execOp, go_sem, Act.eval, e80]) (Below.refl _ _) rfl
    · simp only [List.getElem?_toArray, List.getElem?_cons_succ, List.getElem?_cons_zero, Option.some.injEq] at ho
      subst ho
      refine ⟨rfl, ?_⟩
      have q81 : A_.tmps[81]? = some (.bool true) := hI.val_ (i := 18) rfl rfl (by decide) (hdep ⟨18, .guard⟩ (by simp) rfl)
      clear hI hdep
      exact .call ((wanted_some rfl rfl q81).trans rfl) 11 #[] (by simp [go_sem]) ((HL.out w3 (HB3.out.trans (hh.mono HB3.out.size))).mono fun _ _ ⟨h1_, h2_⟩ => ⟨⟨_, h1_, rfl⟩, h2_⟩)
    · simp only [List.getElem?_toArray, List.getElem?_cons_succ, List.getElem?_cons_zero, Option.some.injEq] at ho
      subst ho
      refine ⟨rfl, ?_⟩
      have e81 : A_.tmps[81]?.getD undef = .bool true := getD_of (hI.val_ (i := 18) rfl rfl (by decide) (hdep ⟨18, .data⟩ (by simp) rfl))
      have e82 : A_.tmps[82]?.getD undef = .bool true := getD_of (hI.val_ (i := 19) rfl rfl (by decide) (hdep ⟨19, .data⟩ (by simp) rfl))
      clear hI hdep
      exact .run rfl (.bool true) w3 (by simp [execOp, go_sem, Act.eval, e81, e82]) (Below.refl _ _) rfl
    · simp only [List.getElem?_toArray, List.getElem?_cons_succ, List.getElem?_cons_zero, Option.some.injEq] at ho
      subst ho
      refine ⟨rfl, ?_⟩
      have e83 : A_.tmps[83]?.getD undef = .bool true := getD_of (hI.val_ (i := 20) rfl rfl (by decide) (hdep ⟨20, .data⟩ (by simp) rfl))
      clear hI hdep
      exact .run rfl (.bool true) w3 (by simp [execOp, go_sem, Act.eval, e83]) (Below.refl _ _) rfl
  case fin =>
  intro A_ w3 hs hd hlow hS hok
  obtain ⟨_, hy68, g68, rfl, r68⟩ := hok 5 68 _ (by decide) rfl rfl
  obtain ⟨_, hy77, g77, rfl, r77⟩ := hok 14 77 _ (by decide) rfl rfl
  obtain rfl : A_ = ⟨#[.agg #[.int .i64 k, .int .i64 n, .int .i64 a, .int .i64 c, .int .i64 h, .int .i64 t, .int .i64 i, .int .i64 p], .agg #[.int .i64 k2, .int .i64 n2, .int .i64 a2, .int .i64 c2, .int .i64 h2, .int .i64 t2, .int .i64 i2, .int .i64 p2], .agg #[.int .i64 qc, .int .i64 qh, .int .i64 qt, .int .i64 qk, .int .i64 qi], .agg #[.int .i64 qc2, .int .i64 qh2, .int .i64 qt2, .int .i64 qk2, .int .i64 qi2], .int .i64 at_, .pointer (some ⟨w.heap.size, 0, none⟩), .pointer (some ⟨w.heap.size + 1, 0, none⟩), .pointer (some ⟨w.heap.size + 1 + 1, 0, none⟩), .pointer (some ⟨w.heap.size + 1 + 1 + 1, 0, none⟩), undef, .bool true, .pointer (some ⟨U.heap.size, 0, none⟩), .pointer (some ⟨U5.heap.size, 0, none⟩), .slice (some ⟨g13, 0, none⟩) 5 5, .agg #[.int .i64 k, .int .i64 n, .int .i64 a, .int .i64 c, .int .i64 h, .int .i64 t, .int .i64 i, .int .i64 p], .agg #[.int .i64 qc, .int .i64 qh, .int .i64 qt, .int .i64 qk, .int .i64 qi], .int .i64 at_, .int .i64 2, undef, undef, undef, .bool false, .bool false, undef, undef, undef, undef, undef, undef, .bool false, .bool false, undef, undef, undef, undef, undef, undef, .bool true, .bool true, .pointer (some ⟨w.heap.size + 1, 2, none⟩), .int .i64 a2, .pointer (some ⟨U.heap.size, 2, none⟩), .pointer (some ⟨w.heap.size + 1 + 1 + 1, 0, none⟩), .agg #[.int .i64 qc2, .int .i64 qh2, .int .i64 qt2], .pointer (some ⟨U5.heap.size, 0, none⟩), .agg #[.int .i64 k, .int .i64 n, .int .i64 a, .int .i64 c, .int .i64 h, .int .i64 t, .int .i64 i, .int .i64 p], .agg #[.int .i64 k2, .int .i64 n2, .int .i64 a2, .int .i64 c2, .int .i64 h2, .int .i64 t2, .int .i64 i2, .int .i64 p2], .int .i64 R1, .agg #[.int .i64 k, .int .i64 n, .int .i64 a, .int .i64 c, .int .i64 h, .int .i64 t, .int .i64 i, .int .i64 p], .agg #[.int .i64 k2, .int .i64 n2, .int .i64 a2, .int .i64 c2, .int .i64 h2, .int .i64 t2, .int .i64 i2, .int .i64 p2], .int .i64 R1, .bool false, .bool false, .agg #[.int .i64 k, .int .i64 n, .int .i64 a, .int .i64 c, .int .i64 h, .int .i64 t, .int .i64 i, .int .i64 p], .agg #[.int .i64 k, .int .i64 n, .int .i64 a2, .int .i64 c, .int .i64 h, .int .i64 t, .int .i64 i, .int .i64 p], .int .i64 R2, .agg #[.int .i64 k, .int .i64 n, .int .i64 a, .int .i64 c, .int .i64 h, .int .i64 t, .int .i64 i, .int .i64 p], .agg #[.int .i64 k, .int .i64 n, .int .i64 a2, .int .i64 c, .int .i64 h, .int .i64 t, .int .i64 i, .int .i64 p], .int .i64 R2, .bool false, .bool false, .agg #[.int .i64 qc, .int .i64 qh, .int .i64 qt, .int .i64 qk, .int .i64 qi], .slice (some ⟨g13, 0, none⟩) 5 5, .agg #[.int .i64 qc, .int .i64 qh, .int .i64 qt, .int .i64 qk, .int .i64 qi], .agg #[.int .i64 qc2, .int .i64 qh2, .int .i64 qt2, .int .i64 qk2, .int .i64 qi2], .int .i64 S1, .slice (some ⟨g13, 0, none⟩) 5 5, .agg #[.int .i64 qc2, .int .i64 qh2, .int .i64 qt2, .int .i64 qk2, .int .i64 qi2], .slice (some ⟨g68, 0, none⟩) 5 5, .int .i64 S1, .bool true, .bool true, .agg #[.int .i64 qc, .int .i64 qh, .int .i64 qt, .int .i64 qk, .int .i64 qi], .agg #[.int .i64 qc2, .int .i64 qh2, .int .i64 qt2, .int .i64 qk, .int .i64 qi], .int .i64 S2, .slice (some ⟨g13, 0, none⟩) 5 5, .agg #[.int .i64 qc2, .int .i64 qh2, .int .i64 qt2, .int .i64 qk, .int .i64 qi], .slice (some ⟨g77, 0, none⟩) 5 5, .int .i64 S2, .bool true, .bool true, .bool true, .bool true, .bool true], []⟩ := act_ext hd hs (fun j hj => match j, hj with | 0, _ => (hlow 0 (by decide)).trans rfl | 1, _ => (hlow 1 (by decide)).trans rfl | 2, _ => (hlow 2 (by decide)).trans rfl | 3, _ => (hlow 3 (by decide)).trans rfl | 4, _ => (hlow 4 (by decide)).trans rfl | 5, _ => (hlow 5 (by decide)).trans rfl | 6, _ => (hlow 6 (by decide)).trans rfl | 7, _ => (hlow 7 (by decide)).trans rfl | 8, _ => (hlow 8 (by decide)).trans rfl | 9, _ => (hlow 9 (by decide)).trans rfl | 10, _ => RgX.val_at (hok 21 10 _ (by decide) rfl rfl) | 11, _ => (hlow 11 (by decide)).trans rfl | 12, _ => (hlow 12 (by decide)).trans rfl | 13, _ => (hlow 13 (by decide)).trans rfl | 14, _ => (hlow 14 (by decide)).trans rfl | 15, _ => (hlow 15 (by decide)).trans rfl | 16, _ => (hlow 16 (by decide)).trans rfl | 17, _ => (hlow 17 (by decide)).trans rfl | 18, _ => (hlow 18 (by decide)).trans rfl | 19, _ => (hlow 19 (by decide)).trans rfl | 20, _ => (hlow 20 (by decide)).trans rfl | 21, _ => (hlow 21 (by decide)).trans rfl | 22, _ => (hlow 22 (by decide)).trans rfl | 23, _ => (hlow 23 (by decide)).trans rfl | 24, _ => (hlow 24 (by decide)).trans rfl | 25, _ => (hlow 25 (by decide)).trans rfl | 26, _ => (hlow 26 (by decide)).trans rfl | 27, _ => (hlow 27 (by decide)).trans rfl | 28, _ => (hlow 28 (by decide)).trans rfl | 29, _ => (hlow 29 (by decide)).trans rfl | 30, _ => (hlow 30 (by decide)).trans rfl | 31, _ => (hlow 31 (by decide)).trans rfl | 32, _ => (hlow 32 (by decide)).trans rfl | 33, _ => (hlow 33 (by decide)).trans rfl | 34, _ => (hlow 34 (by decide)).trans rfl | 35, _ => (hlow 35 (by decide)).trans rfl | 36, _ => (hlow 36 (by decide)).trans rfl | 37, _ => (hlow 37 (by decide)).trans rfl | 38, _ => (hlow 38 (by decide)).trans rfl | 39, _ => (hlow 39 (by decide)).trans rfl | 40, _ => (hlow 40 (by decide)).trans rfl | 41, _ => (hlow 41 (by decide)).trans rfl | 42, _ => (hlow 42 (by decide)).trans rfl | 43, _ => (hlow 43 (by decide)).trans rfl | 44, _ => (hlow 44 (by decide)).trans rfl | 45, _ => (hlow 45 (by decide)).trans rfl | 46, _ => (hlow 46 (by decide)).trans rfl | 47, _ => (hlow 47 (by decide)).trans rfl | 48, _ => (hlow 48 (by decide)).trans rfl | 49, _ => (hlow 49 (by decide)).trans rfl | 50, _ => (hlow 50 (by decide)).trans rfl | 51, _ => (hlow 51 (by decide)).trans rfl | 52, _ => (hlow 52 (by decide)).trans rfl | 53, _ => (hlow 53 (by decide)).trans rfl | 54, _ => (hlow 54 (by decide)).trans rfl | 55, _ => (hlow 55 (by decide)).trans rfl | 56, _ => (hlow 56 (by decide)).trans rfl | 57, _ => (hlow 57 (by decide)).trans rfl | 58, _ => (hlow 58 (by decide)).trans rfl | 59, _ => (hlow 59 (by decide)).trans rfl | 60, _ => (hlow 60 (by decide)).trans rfl | 61, _ => (hlow 61 (by decide)).trans rfl | 62, _ => (hlow 62 (by decide)).trans rfl | 63, _ => RgX.val_at (hok 0 63 _ (by decide) rfl rfl) | 64, _ => RgX.val_at (hok 1 64 _ (by decide) rfl rfl) | 65, _ => RgX.val_at (hok 2 65 _ (by decide) rfl rfl) | 66, _ => RgX.val_at (hok 3 66 _ (by decide) rfl rfl) | 67, _ => RgX.val_at (hok 4 67 _ (by decide) rfl rfl) | 68, _ => hy68 | 69, _ => RgX.val_at (hok 6 69 _ (by decide) rfl rfl) | 70, _ => RgX.val_at (hok 7 70 _ (by decide) rfl rfl) | 71, _ => RgX.val_at (hok 8 71 _ (by decide) rfl rfl) | 72, _ => RgX.val_at (hok 9 72 _ (by decide) rfl rfl) | 73, _ => RgX.val_at (hok 10 73 _ (by decide) rfl rfl) | 74, _ => RgX.val_at (hok 11 74 _ (by decide) rfl rfl) | 75, _ => RgX.val_at (hok 12 75 _ (by decide) rfl rfl) | 76, _ => RgX.val_at (hok 13 76 _ (by decide) rfl rfl) | 77, _ => hy77 | 78, _ => RgX.val_at (hok 15 78 _ (by decide) rfl rfl) | 79, _ => RgX.val_at (hok 16 79 _ (by decide) rfl rfl) | 80, _ => RgX.val_at (hok 17 80 _ (by decide) rfl rfl) | 81, _ => RgX.val_at (hok 18 81 _ (by decide) rfl rfl) | 82, _ => RgX.val_at (hok 19 82 _ (by decide) rfl rfl) | 83, _ => RgX.val_at (hok 20 83 _ (by decide) rfl rfl) | n + 84, h => absurd h (by show ¬ n + 84 < 84; omega))
  clear hs hd hlow hok hy68 hy77
  go_wp2_with fail
  go_ret
  exact ⟨rfl, HB3.out.trans (hS.mono HB3.out.size)⟩
set_option maxHeartbeats 4000000 in
set_option maxRecDepth 100000 in
theorem walk_3 (k n a c h t i p k2 n2 a2 c2 h2 t2 i2 p2 qc qh qt qk qi qc2 qh2 qt2 qk2 qi2 at_ R1 R2 S1 S2 : Int) (w : World)
    (HA : Hid (∀ V, Calls Tryd.prog 5 #[.int .i64 at_, .int .i64 4] V fun e w' => e = .returned (.int .i64 3) ∧ V = w'))
    (HC1 : Hid (∀ V, Calls Tryd.prog 6 #[.agg #[.int .i64 k, .int .i64 n, .int .i64 a, .int .i64 c, .int .i64 h, .int .i64 t, .int .i64 i, .int .i64 p], .agg #[.int .i64 k2, .int .i64 n2, .int .i64 a2, .int .i64 c2, .int .i64 h2, .int .i64 t2, .int .i64 i2, .int .i64 p2]] V fun e w' => e = .returned (.int .i64 R1) ∧ Below V.heap.size V w'))
    (HC2 : Hid (∀ V, Calls Tryd.prog 6 #[.agg #[.int .i64 k, .int .i64 n, .int .i64 a, .int .i64 c, .int .i64 h, .int .i64 t, .int .i64 i, .int .i64 p], .agg #[.int .i64 k, .int .i64 n, .int .i64 a, .int .i64 c2, .int .i64 h2, .int .i64 t2, .int .i64 i2, .int .i64 p2]] V fun e w' => e = .returned (.int .i64 R2) ∧ Below V.heap.size V w'))
    (HR1 : Hid (∀ V, Calls Tryd.prog 7 #[.agg #[.int .i64 k, .int .i64 n, .int .i64 a, .int .i64 c, .int .i64 h, .int .i64 t, .int .i64 i, .int .i64 p], .agg #[.int .i64 k2, .int .i64 n2, .int .i64 a2, .int .i64 c2, .int .i64 h2, .int .i64 t2, .int .i64 i2, .int .i64 p2]] V fun e w' => e = .returned (.int .i64 R1) ∧ Below V.heap.size V w'))
    (HR2 : Hid (∀ V, Calls Tryd.prog 7 #[.agg #[.int .i64 k, .int .i64 n, .int .i64 a, .int .i64 c, .int .i64 h, .int .i64 t, .int .i64 i, .int .i64 p], .agg #[.int .i64 k, .int .i64 n, .int .i64 a, .int .i64 c2, .int .i64 h2, .int .i64 t2, .int .i64 i2, .int .i64 p2]] V fun e w' => e = .returned (.int .i64 R2) ∧ Below V.heap.size V w'))
    (HQ1 : Hid (∀ V, Calls Tryd.prog 9 #[.agg #[.int .i64 qc, .int .i64 qh, .int .i64 qt, .int .i64 qk, .int .i64 qi], .agg #[.int .i64 qc2, .int .i64 qh2, .int .i64 qt2, .int .i64 qk2, .int .i64 qi2]] V fun e w' => e = .returned (.int .i64 S1) ∧ Below V.heap.size V w'))
    (HQ2 : Hid (∀ V, Calls Tryd.prog 9 #[.agg #[.int .i64 qc, .int .i64 qh, .int .i64 qt, .int .i64 qk, .int .i64 qi], .agg #[.int .i64 qc, .int .i64 qh, .int .i64 qt, .int .i64 qk, .int .i64 qi]] V fun e w' => e = .returned (.int .i64 S2) ∧ Below V.heap.size V w'))
    (HL1 : Hid (∀ (V : World) (g1 g2 : Nat), V.heap[g1]? = some (.cells #[.int .i64 qc, .int .i64 qh, .int .i64 qt, .int .i64 qk, .int .i64 qi] 3 (0, 0)) → V.heap[g2]? = some (.cells #[.int .i64 qc2, .int .i64 qh2, .int .i64 qt2, .int .i64 qk2, .int .i64 qi2] 3 (0, 0)) → Calls Tryd.prog 10 #[.slice (some ⟨g1, 0, none⟩) 5 5, .slice (some ⟨g2, 0, none⟩) 5 5] V fun e w' => e = .returned (.int .i64 S1) ∧ Below V.heap.size V w'))
    (HL2 : Hid (∀ (V : World) (g1 g2 : Nat), V.heap[g1]? = some (.cells #[.int .i64 qc, .int .i64 qh, .int .i64 qt, .int .i64 qk, .int .i64 qi] 3 (0, 0)) → V.heap[g2]? = some (.cells #[.int .i64 qc, .int .i64 qh, .int .i64 qt, .int .i64 qk, .int .i64 qi] 3 (0, 0)) → Calls Tryd.prog 10 #[.slice (some ⟨g1, 0, none⟩) 5 5, .slice (some ⟨g2, 0, none⟩) 5 5] V fun e w' => e = .returned (.int .i64 S2) ∧ Below V.heap.size V w'))
    (HL : Hid (∀ V, Below w.heap.size w V → Calls Tryd.prog 11 #[] V fun e w' => e = .returned (.bool true) ∧ Below V.heap.size V w')) :
    Calls Tryd.prog 3 #[.agg #[.int .i64 k, .int .i64 n, .int .i64 a, .int .i64 c, .int .i64 h, .int .i64 t, .int .i64 i, .int .i64 p], .agg #[.int .i64 k2, .int .i64 n2, .int .i64 a2, .int .i64 c2, .int .i64 h2, .int .i64 t2, .int .i64 i2, .int .i64 p2], .agg #[.int .i64 qc, .int .i64 qh, .int .i64 qt, .int .i64 qk, .int .i64 qi], .agg #[.int .i64 qc2, .int .i64 qh2, .int .i64 qt2, .int .i64 qk2, .int .i64 qi2], .int .i64 at_] w fun e w' => e = .returned (.bool true) ∧ Below w.heap.size w w' := by
  obtain ⟨U, hU, hb0, ka, kb, kp, kq, hz⟩ := four_boxes w (.cells #[.int .i64 k, .int .i64 n, .int .i64 a, .int .i64 c, .int .i64 h, .int .i64 t, .int .i64 i, .int .i64 p] 27) (.cells #[.int .i64 k2, .int .i64 n2, .int .i64 a2, .int .i64 c2, .int .i64 h2, .int .i64 t2, .int .i64 i2, .int .i64 p2] 27) (.cells #[.int .i64 qc, .int .i64 qh, .int .i64 qt, .int .i64 qk, .int .i64 qi] 29) (.cells #[.int .i64 qc2, .int .i64 qh2, .int .i64 qt2, .int .i64 qk2, .int .i64 qi2] 29)
  obtain ⟨U5, hU5⟩ : ∃ V, U.alloc (.cells #[.int .i64 k, .int .i64 n, .int .i64 a, .int .i64 c, .int .i64 h, .int .i64 t, .int .i64 i, .int .i64 p] 27) = V := ⟨_, rfl⟩
  obtain ⟨U6, hU6⟩ : ∃ V, U5.alloc (.cells #[.int .i64 qc, .int .i64 qh, .int .i64 qt, .int .i64 qk, .int .i64 qi] 29) = V := ⟨_, rfl⟩
  have hb5 : Below U.heap.size U U5 := hU5 ▸ one_box U _
  have hb6 : Below U5.heap.size U5 U6 := hU6 ▸ one_box U5 _
  have hz5 : U5.heap.size = U.heap.size + 1 := by rw [← hU5]; simp
  have hz6 : U6.heap.size = U.heap.size + 2 := by rw [← hU6]; simp; omega
  have kc5 : U5.heap[U.heap.size]? = some (.cells #[.int .i64 k, .int .i64 n, .int .i64 a, .int .i64 c, .int .i64 h, .int .i64 t, .int .i64 i, .int .i64 p] 27 (0, 0)) := by rw [← hU5]; exact new_at rfl
  have ka5 := (hb5.block (w.heap.size) (by omega)).trans ka
  have kb5 := (hb5.block (w.heap.size + 1) (by omega)).trans kb
  have kp5 := (hb5.block (w.heap.size + 1 + 1) (by omega)).trans kp
  have kq5 := (hb5.block (w.heap.size + 1 + 1 + 1) (by omega)).trans kq
  have ka6 := (hb6.block (w.heap.size) (by omega)).trans ka5
  have kb6 := (hb6.block (w.heap.size + 1) (by omega)).trans kb5
  have kp6 := (hb6.block (w.heap.size + 1 + 1) (by omega)).trans kp5
  have kq6 := (hb6.block (w.heap.size + 1 + 1 + 1) (by omega)).trans kq5
  have kc6 := (hb6.block (U.heap.size) (by omega)).trans kc5
  have kd6 : U6.heap[U5.heap.size]? = some (.cells #[.int .i64 qc, .int .i64 qh, .int .i64 qt, .int .i64 qk, .int .i64 qi] 29 (0, 0)) := by rw [← hU6]; exact new_at rfl
  have ka7 : (U6.setCell ⟨U.heap.size, 3, none⟩ (.int .i64 c2)).heap[w.heap.size]? = some (.cells #[.int .i64 k, .int .i64 n, .int .i64 a, .int .i64 c, .int .i64 h, .int .i64 t, .int .i64 i, .int .i64 p] 27 (0, 0)) := (other_set (by omega)).trans ka6
  have kb7 : (U6.setCell ⟨U.heap.size, 3, none⟩ (.int .i64 c2)).heap[w.heap.size + 1]? = some (.cells #[.int .i64 k2, .int .i64 n2, .int .i64 a2, .int .i64 c2, .int .i64 h2, .int .i64 t2, .int .i64 i2, .int .i64 p2] 27 (0, 0)) := (other_set (by omega)).trans kb6
  have kp7 : (U6.setCell ⟨U.heap.size, 3, none⟩ (.int .i64 c2)).heap[w.heap.size + 1 + 1]? = some (.cells #[.int .i64 qc, .int .i64 qh, .int .i64 qt, .int .i64 qk, .int .i64 qi] 29 (0, 0)) := (other_set (by omega)).trans kp6
  have kq7 : (U6.setCell ⟨U.heap.size, 3, none⟩ (.int .i64 c2)).heap[w.heap.size + 1 + 1 + 1]? = some (.cells #[.int .i64 qc2, .int .i64 qh2, .int .i64 qt2, .int .i64 qk2, .int .i64 qi2] 29 (0, 0)) := (other_set (by omega)).trans kq6
  have kc7 : (U6.setCell ⟨U.heap.size, 3, none⟩ (.int .i64 c2)).heap[U.heap.size]? = some (.cells #[.int .i64 k, .int .i64 n, .int .i64 a, .int .i64 c2, .int .i64 h, .int .i64 t, .int .i64 i, .int .i64 p] 27 (0, 0)) := cell_set kc6
  have kd7 : (U6.setCell ⟨U.heap.size, 3, none⟩ (.int .i64 c2)).heap[U5.heap.size]? = some (.cells #[.int .i64 qc, .int .i64 qh, .int .i64 qt, .int .i64 qk, .int .i64 qi] 29 (0, 0)) := (other_set (by omega)).trans kd6
  have hs7 : (U6.setCell ⟨U.heap.size, 3, none⟩ (.int .i64 c2)).heap.size = U.heap.size + 2 := by simp [World.setCell]; omega
  have ka8 : ((U6.setCell ⟨U.heap.size, 3, none⟩ (.int .i64 c2)).setCell ⟨U.heap.size, 4, none⟩ (.int .i64 h2)).heap[w.heap.size]? = some (.cells #[.int .i64 k, .int .i64 n, .int .i64 a, .int .i64 c, .int .i64 h, .int .i64 t, .int .i64 i, .int .i64 p] 27 (0, 0)) := (other_set (by omega)).trans ka7
  have kb8 : ((U6.setCell ⟨U.heap.size, 3, none⟩ (.int .i64 c2)).setCell ⟨U.heap.size, 4, none⟩ (.int .i64 h2)).heap[w.heap.size + 1]? = some (.cells #[.int .i64 k2, .int .i64 n2, .int .i64 a2, .int .i64 c2, .int .i64 h2, .int .i64 t2, .int .i64 i2, .int .i64 p2] 27 (0, 0)) := (other_set (by omega)).trans kb7
  have kp8 : ((U6.setCell ⟨U.heap.size, 3, none⟩ (.int .i64 c2)).setCell ⟨U.heap.size, 4, none⟩ (.int .i64 h2)).heap[w.heap.size + 1 + 1]? = some (.cells #[.int .i64 qc, .int .i64 qh, .int .i64 qt, .int .i64 qk, .int .i64 qi] 29 (0, 0)) := (other_set (by omega)).trans kp7
  have kq8 : ((U6.setCell ⟨U.heap.size, 3, none⟩ (.int .i64 c2)).setCell ⟨U.heap.size, 4, none⟩ (.int .i64 h2)).heap[w.heap.size + 1 + 1 + 1]? = some (.cells #[.int .i64 qc2, .int .i64 qh2, .int .i64 qt2, .int .i64 qk2, .int .i64 qi2] 29 (0, 0)) := (other_set (by omega)).trans kq7
  have kc8 : ((U6.setCell ⟨U.heap.size, 3, none⟩ (.int .i64 c2)).setCell ⟨U.heap.size, 4, none⟩ (.int .i64 h2)).heap[U.heap.size]? = some (.cells #[.int .i64 k, .int .i64 n, .int .i64 a, .int .i64 c2, .int .i64 h2, .int .i64 t, .int .i64 i, .int .i64 p] 27 (0, 0)) := cell_set kc7
  have kd8 : ((U6.setCell ⟨U.heap.size, 3, none⟩ (.int .i64 c2)).setCell ⟨U.heap.size, 4, none⟩ (.int .i64 h2)).heap[U5.heap.size]? = some (.cells #[.int .i64 qc, .int .i64 qh, .int .i64 qt, .int .i64 qk, .int .i64 qi] 29 (0, 0)) := (other_set (by omega)).trans kd7
  have hs8 : ((U6.setCell ⟨U.heap.size, 3, none⟩ (.int .i64 c2)).setCell ⟨U.heap.size, 4, none⟩ (.int .i64 h2)).heap.size = U.heap.size + 2 := by rw [← hs7]; simp [World.setCell]
  have ka9 : (((U6.setCell ⟨U.heap.size, 3, none⟩ (.int .i64 c2)).setCell ⟨U.heap.size, 4, none⟩ (.int .i64 h2)).setCell ⟨U.heap.size, 5, none⟩ (.int .i64 t2)).heap[w.heap.size]? = some (.cells #[.int .i64 k, .int .i64 n, .int .i64 a, .int .i64 c, .int .i64 h, .int .i64 t, .int .i64 i, .int .i64 p] 27 (0, 0)) := (other_set (by omega)).trans ka8
  have kb9 : (((U6.setCell ⟨U.heap.size, 3, none⟩ (.int .i64 c2)).setCell ⟨U.heap.size, 4, none⟩ (.int .i64 h2)).setCell ⟨U.heap.size, 5, none⟩ (.int .i64 t2)).heap[w.heap.size + 1]? = some (.cells #[.int .i64 k2, .int .i64 n2, .int .i64 a2, .int .i64 c2, .int .i64 h2, .int .i64 t2, .int .i64 i2, .int .i64 p2] 27 (0, 0)) := (other_set (by omega)).trans kb8
  have kp9 : (((U6.setCell ⟨U.heap.size, 3, none⟩ (.int .i64 c2)).setCell ⟨U.heap.size, 4, none⟩ (.int .i64 h2)).setCell ⟨U.heap.size, 5, none⟩ (.int .i64 t2)).heap[w.heap.size + 1 + 1]? = some (.cells #[.int .i64 qc, .int .i64 qh, .int .i64 qt, .int .i64 qk, .int .i64 qi] 29 (0, 0)) := (other_set (by omega)).trans kp8
  have kq9 : (((U6.setCell ⟨U.heap.size, 3, none⟩ (.int .i64 c2)).setCell ⟨U.heap.size, 4, none⟩ (.int .i64 h2)).setCell ⟨U.heap.size, 5, none⟩ (.int .i64 t2)).heap[w.heap.size + 1 + 1 + 1]? = some (.cells #[.int .i64 qc2, .int .i64 qh2, .int .i64 qt2, .int .i64 qk2, .int .i64 qi2] 29 (0, 0)) := (other_set (by omega)).trans kq8
  have kc9 : (((U6.setCell ⟨U.heap.size, 3, none⟩ (.int .i64 c2)).setCell ⟨U.heap.size, 4, none⟩ (.int .i64 h2)).setCell ⟨U.heap.size, 5, none⟩ (.int .i64 t2)).heap[U.heap.size]? = some (.cells #[.int .i64 k, .int .i64 n, .int .i64 a, .int .i64 c2, .int .i64 h2, .int .i64 t2, .int .i64 i, .int .i64 p] 27 (0, 0)) := cell_set kc8
  have kd9 : (((U6.setCell ⟨U.heap.size, 3, none⟩ (.int .i64 c2)).setCell ⟨U.heap.size, 4, none⟩ (.int .i64 h2)).setCell ⟨U.heap.size, 5, none⟩ (.int .i64 t2)).heap[U5.heap.size]? = some (.cells #[.int .i64 qc, .int .i64 qh, .int .i64 qt, .int .i64 qk, .int .i64 qi] 29 (0, 0)) := (other_set (by omega)).trans kd8
  have hs9 : (((U6.setCell ⟨U.heap.size, 3, none⟩ (.int .i64 c2)).setCell ⟨U.heap.size, 4, none⟩ (.int .i64 h2)).setCell ⟨U.heap.size, 5, none⟩ (.int .i64 t2)).heap.size = U.heap.size + 2 := by rw [← hs8]; simp [World.setCell]
  have ka10 : ((((U6.setCell ⟨U.heap.size, 3, none⟩ (.int .i64 c2)).setCell ⟨U.heap.size, 4, none⟩ (.int .i64 h2)).setCell ⟨U.heap.size, 5, none⟩ (.int .i64 t2)).setCell ⟨U.heap.size, 6, none⟩ (.int .i64 i2)).heap[w.heap.size]? = some (.cells #[.int .i64 k, .int .i64 n, .int .i64 a, .int .i64 c, .int .i64 h, .int .i64 t, .int .i64 i, .int .i64 p] 27 (0, 0)) := (other_set (by omega)).trans ka9
  have kb10 : ((((U6.setCell ⟨U.heap.size, 3, none⟩ (.int .i64 c2)).setCell ⟨U.heap.size, 4, none⟩ (.int .i64 h2)).setCell ⟨U.heap.size, 5, none⟩ (.int .i64 t2)).setCell ⟨U.heap.size, 6, none⟩ (.int .i64 i2)).heap[w.heap.size + 1]? = some (.cells #[.int .i64 k2, .int .i64 n2, .int .i64 a2, .int .i64 c2, .int .i64 h2, .int .i64 t2, .int .i64 i2, .int .i64 p2] 27 (0, 0)) := (other_set (by omega)).trans kb9
  have kp10 : ((((U6.setCell ⟨U.heap.size, 3, none⟩ (.int .i64 c2)).setCell ⟨U.heap.size, 4, none⟩ (.int .i64 h2)).setCell ⟨U.heap.size, 5, none⟩ (.int .i64 t2)).setCell ⟨U.heap.size, 6, none⟩ (.int .i64 i2)).heap[w.heap.size + 1 + 1]? = some (.cells #[.int .i64 qc, .int .i64 qh, .int .i64 qt, .int .i64 qk, .int .i64 qi] 29 (0, 0)) := (other_set (by omega)).trans kp9
  have kq10 : ((((U6.setCell ⟨U.heap.size, 3, none⟩ (.int .i64 c2)).setCell ⟨U.heap.size, 4, none⟩ (.int .i64 h2)).setCell ⟨U.heap.size, 5, none⟩ (.int .i64 t2)).setCell ⟨U.heap.size, 6, none⟩ (.int .i64 i2)).heap[w.heap.size + 1 + 1 + 1]? = some (.cells #[.int .i64 qc2, .int .i64 qh2, .int .i64 qt2, .int .i64 qk2, .int .i64 qi2] 29 (0, 0)) := (other_set (by omega)).trans kq9
  have kc10 : ((((U6.setCell ⟨U.heap.size, 3, none⟩ (.int .i64 c2)).setCell ⟨U.heap.size, 4, none⟩ (.int .i64 h2)).setCell ⟨U.heap.size, 5, none⟩ (.int .i64 t2)).setCell ⟨U.heap.size, 6, none⟩ (.int .i64 i2)).heap[U.heap.size]? = some (.cells #[.int .i64 k, .int .i64 n, .int .i64 a, .int .i64 c2, .int .i64 h2, .int .i64 t2, .int .i64 i2, .int .i64 p] 27 (0, 0)) := cell_set kc9
  have kd10 : ((((U6.setCell ⟨U.heap.size, 3, none⟩ (.int .i64 c2)).setCell ⟨U.heap.size, 4, none⟩ (.int .i64 h2)).setCell ⟨U.heap.size, 5, none⟩ (.int .i64 t2)).setCell ⟨U.heap.size, 6, none⟩ (.int .i64 i2)).heap[U5.heap.size]? = some (.cells #[.int .i64 qc, .int .i64 qh, .int .i64 qt, .int .i64 qk, .int .i64 qi] 29 (0, 0)) := (other_set (by omega)).trans kd9
  have hs10 : ((((U6.setCell ⟨U.heap.size, 3, none⟩ (.int .i64 c2)).setCell ⟨U.heap.size, 4, none⟩ (.int .i64 h2)).setCell ⟨U.heap.size, 5, none⟩ (.int .i64 t2)).setCell ⟨U.heap.size, 6, none⟩ (.int .i64 i2)).heap.size = U.heap.size + 2 := by rw [← hs9]; simp [World.setCell]
  have ka11 : (((((U6.setCell ⟨U.heap.size, 3, none⟩ (.int .i64 c2)).setCell ⟨U.heap.size, 4, none⟩ (.int .i64 h2)).setCell ⟨U.heap.size, 5, none⟩ (.int .i64 t2)).setCell ⟨U.heap.size, 6, none⟩ (.int .i64 i2)).setCell ⟨U.heap.size, 7, none⟩ (.int .i64 p2)).heap[w.heap.size]? = some (.cells #[.int .i64 k, .int .i64 n, .int .i64 a, .int .i64 c, .int .i64 h, .int .i64 t, .int .i64 i, .int .i64 p] 27 (0, 0)) := (other_set (by omega)).trans ka10
  have kb11 : (((((U6.setCell ⟨U.heap.size, 3, none⟩ (.int .i64 c2)).setCell ⟨U.heap.size, 4, none⟩ (.int .i64 h2)).setCell ⟨U.heap.size, 5, none⟩ (.int .i64 t2)).setCell ⟨U.heap.size, 6, none⟩ (.int .i64 i2)).setCell ⟨U.heap.size, 7, none⟩ (.int .i64 p2)).heap[w.heap.size + 1]? = some (.cells #[.int .i64 k2, .int .i64 n2, .int .i64 a2, .int .i64 c2, .int .i64 h2, .int .i64 t2, .int .i64 i2, .int .i64 p2] 27 (0, 0)) := (other_set (by omega)).trans kb10
  have kp11 : (((((U6.setCell ⟨U.heap.size, 3, none⟩ (.int .i64 c2)).setCell ⟨U.heap.size, 4, none⟩ (.int .i64 h2)).setCell ⟨U.heap.size, 5, none⟩ (.int .i64 t2)).setCell ⟨U.heap.size, 6, none⟩ (.int .i64 i2)).setCell ⟨U.heap.size, 7, none⟩ (.int .i64 p2)).heap[w.heap.size + 1 + 1]? = some (.cells #[.int .i64 qc, .int .i64 qh, .int .i64 qt, .int .i64 qk, .int .i64 qi] 29 (0, 0)) := (other_set (by omega)).trans kp10
  have kq11 : (((((U6.setCell ⟨U.heap.size, 3, none⟩ (.int .i64 c2)).setCell ⟨U.heap.size, 4, none⟩ (.int .i64 h2)).setCell ⟨U.heap.size, 5, none⟩ (.int .i64 t2)).setCell ⟨U.heap.size, 6, none⟩ (.int .i64 i2)).setCell ⟨U.heap.size, 7, none⟩ (.int .i64 p2)).heap[w.heap.size + 1 + 1 + 1]? = some (.cells #[.int .i64 qc2, .int .i64 qh2, .int .i64 qt2, .int .i64 qk2, .int .i64 qi2] 29 (0, 0)) := (other_set (by omega)).trans kq10
  have kc11 : (((((U6.setCell ⟨U.heap.size, 3, none⟩ (.int .i64 c2)).setCell ⟨U.heap.size, 4, none⟩ (.int .i64 h2)).setCell ⟨U.heap.size, 5, none⟩ (.int .i64 t2)).setCell ⟨U.heap.size, 6, none⟩ (.int .i64 i2)).setCell ⟨U.heap.size, 7, none⟩ (.int .i64 p2)).heap[U.heap.size]? = some (.cells #[.int .i64 k, .int .i64 n, .int .i64 a, .int .i64 c2, .int .i64 h2, .int .i64 t2, .int .i64 i2, .int .i64 p2] 27 (0, 0)) := cell_set kc10
  have kd11 : (((((U6.setCell ⟨U.heap.size, 3, none⟩ (.int .i64 c2)).setCell ⟨U.heap.size, 4, none⟩ (.int .i64 h2)).setCell ⟨U.heap.size, 5, none⟩ (.int .i64 t2)).setCell ⟨U.heap.size, 6, none⟩ (.int .i64 i2)).setCell ⟨U.heap.size, 7, none⟩ (.int .i64 p2)).heap[U5.heap.size]? = some (.cells #[.int .i64 qc, .int .i64 qh, .int .i64 qt, .int .i64 qk, .int .i64 qi] 29 (0, 0)) := (other_set (by omega)).trans kd10
  have hs11 : (((((U6.setCell ⟨U.heap.size, 3, none⟩ (.int .i64 c2)).setCell ⟨U.heap.size, 4, none⟩ (.int .i64 h2)).setCell ⟨U.heap.size, 5, none⟩ (.int .i64 t2)).setCell ⟨U.heap.size, 6, none⟩ (.int .i64 i2)).setCell ⟨U.heap.size, 7, none⟩ (.int .i64 p2)).heap.size = U.heap.size + 2 := by rw [← hs10]; simp [World.setCell]
  have hbF : Below w.heap.size w (((((U6.setCell ⟨U.heap.size, 3, none⟩ (.int .i64 c2)).setCell ⟨U.heap.size, 4, none⟩ (.int .i64 h2)).setCell ⟨U.heap.size, 5, none⟩ (.int .i64 t2)).setCell ⟨U.heap.size, 6, none⟩ (.int .i64 i2)).setCell ⟨U.heap.size, 7, none⟩ (.int .i64 p2)) := (((((((hb0.trans (hb5.mono hb0.size)).trans (hb6.mono (by omega)))).setCell (by show w.heap.size ≤ U.heap.size; omega) _).setCell (by show w.heap.size ≤ U.heap.size; omega) _).setCell (by show w.heap.size ≤ U.heap.size; omega) _).setCell (by show w.heap.size ≤ U.heap.size; omega) _).setCell (by show w.heap.size ≤ U.heap.size; omega) _
  have HF := Lib.hid (And.intro ka11 (And.intro kb11 (And.intro kp11 (And.intro kq11 (And.intro kc11 (And.intro kd11 (And.intro hs11 hbF)))))))
  have HZ := Lib.hid (And.intro hz hz5)
  obtain ⟨ua0, ua1, ua2, ua3, ua4, ua5, ua6, ua7⟩ := row8 ka
  obtain ⟨vp0, vp1, vp2, vp3, vp4⟩ := row5 kp5
  obtain ⟨xb0, xb1, xb2, xb3, xb4, xb5, xb6, xb7⟩ := row8 kb6
  obtain ⟨xc0, xc1, xc2, xc3, xc4, xc5, xc6, xc7⟩ := row8 kc6
  have fz6 := froz kc6 3
  have fz7 := froz kc7 4
  have fz8 := froz kc8 5
  have fz9 := froz kc9 6
  have fz10 := froz kc10 7
  obtain ⟨z7c0, z7c1, z7c2, z7c3, z7c4, z7c5, z7c6, z7c7⟩ := row8 kc7
  obtain ⟨z8c0, z8c1, z8c2, z8c3, z8c4, z8c5, z8c6, z8c7⟩ := row8 kc8
  obtain ⟨z9c0, z9c1, z9c2, z9c3, z9c4, z9c5, z9c6, z9c7⟩ := row8 kc9
  obtain ⟨z10c0, z10c1, z10c2, z10c3, z10c4, z10c5, z10c6, z10c7⟩ := row8 kc10
  clear ka kb kp kq kc5 ka5 kb5 kp5 kq5 ka6 ka7 ka8 ka9 ka10 ka11 kb6 kb7 kb8 kb9 kb10 kb11 kp6 kp7 kp8 kp9 kp10 kp11 kq6 kq7 kq8 kq9 kq10 kq11 kc6 kc7 kc8 kc9 kc10 kc11 kd6 kd7 kd8 kd9 kd10 kd11 hs7 hs8 hs9 hs10 hs11 hb0 hb5 hb6 hbF hz hz5 hz6
  go_enter Tryd.func3, Tryd.ntmps3
  go_wp2_with (go_at_call 5; refine (HA.out _).mono ?_; rintro e w1 ⟨rfl, rfl⟩)
  clear hU hU5 hU6 ua0 ua1 ua2 ua3 ua4 ua5 ua6 ua7 vp0 vp1 vp2 vp3 vp4 xb0 xb1 xb2 xb3 xb4 xb5 xb6 xb7 xc0 xc1 xc2 xc3 xc4 xc5 xc6 xc7 fz6 fz7 fz8 fz9 fz10 z7c0 z7c1 z7c2 z7c3 z7c4 z7c5 z7c6 z7c7 z8c0 z8c1 z8c2 z8c3 z8c4 z8c5 z8c6 z8c7 z9c0 z9c1 z9c2 z9c3 z9c4 z9c5 z9c6 z9c7 z10c0 z10c1 z10c2 z10c3 z10c4 z10c5 z10c6 z10c7
  obtain ⟨ka, kb, kp, kq, kc, kd, hs, hbF⟩ := HF.out
  obtain ⟨hz, hz5⟩ := HZ.out
  obtain ⟨W8, hW8⟩ : ∃ V, (((((U6.setCell ⟨U.heap.size, 3, none⟩ (.int .i64 c2)).setCell ⟨U.heap.size, 4, none⟩ (.int .i64 h2)).setCell ⟨U.heap.size, 5, none⟩ (.int .i64 t2)).setCell ⟨U.heap.size, 6, none⟩ (.int .i64 i2)).setCell ⟨U.heap.size, 7, none⟩ (.int .i64 p2)) = V := ⟨_, rfl⟩
  clear HF HZ
  rw [hW8] at ka kb kp kq kc kd hs hbF ⊢
  clear hW8
  have HB := Lib.hid hbF
  have HK := Lib.hid (fun (V : World) (hV : Below W8.heap.size W8 V) => And.intro (row8 ((hV.block _ (by omega)).trans ka)) (And.intro (row8 ((hV.block _ (by omega)).trans kb)) (And.intro (row5 ((hV.block _ (by omega)).trans kp)) (And.intro (row5 ((hV.block _ (by omega)).trans kq)) (And.intro (row8 ((hV.block _ (by omega)).trans kc)) (row5 ((hV.block _ (by omega)).trans kd)))))))
  clear ka kb kp kq kc kd hbF hs hz hz5
  refine RgX.region 16 (fun i => ( 45 + i)) (fun ix_ => match ix_ with | 0 => .v (.agg #[.int .i64 k, .int .i64 n, .int .i64 a, .int .i64 c, .int .i64 h, .int .i64 t, .int .i64 i, .int .i64 p]) | 1 => .v (.agg #[.int .i64 k2, .int .i64 n2, .int .i64 a2, .int .i64 c2, .int .i64 h2, .int .i64 t2, .int .i64 i2, .int .i64 p2]) | 2 => .v (.int .i64 R1) | 3 => .v (.agg #[.int .i64 k, .int .i64 n, .int .i64 a, .int .i64 c, .int .i64 h, .int .i64 t, .int .i64 i, .int .i64 p]) | 4 => .v (.agg #[.int .i64 k2, .int .i64 n2, .int .i64 a2, .int .i64 c2, .int .i64 h2, .int .i64 t2, .int .i64 i2, .int .i64 p2]) | 5 => .v (.int .i64 R1) | 6 => .v (.bool false) | 7 => .v (.bool false) | 8 => .v (.agg #[.int .i64 k, .int .i64 n, .int .i64 a, .int .i64 c, .int .i64 h, .int .i64 t, .int .i64 i, .int .i64 p]) | 9 => .v (.agg #[.int .i64 k, .int .i64 n, .int .i64 a, .int .i64 c2, .int .i64 h2, .int .i64 t2, .int .i64 i2, .int .i64 p2]) | 10 => .v (.int .i64 R2) | 11 => .v (.agg #[.int .i64 k, .int .i64 n, .int .i64 a, .int .i64 c, .int .i64 h, .int .i64 t, .int .i64 i, .int .i64 p]) | 12 => .v (.agg #[.int .i64 k, .int .i64 n, .int .i64 a, .int .i64 c2, .int .i64 h2, .int .i64 t2, .int .i64 i2, .int .i64 p2]) | 13 => .v (.int .i64 R2) | 14 => .v (.bool false) | 15 => .v (.bool false) | _ => .any) (by kernel_rfl) rfl (by kernel_rfl)  (fun i hi => by show ( 45 + i) < 84; (repeat' split) <;> omega) (fun i j hi hj => by show ( 45 + i) = ( 45 + j) → i = j; (repeat' split) <;> omega) ?step ?fin
  case step =>
    intro L_ A_ w3 ix op_ hI ho hdep
    have hi : ix < 16 := (Array.getElem?_eq_some_iff.1 ho).1
    have hcase : ix = 0 ∨ ix = 1 ∨ ix = 2 ∨ ix = 3 ∨ ix = 4 ∨ ix = 5 ∨ ix = 6 ∨ ix = 7 ∨ ix = 8 ∨ ix = 9 ∨ ix = 10 ∨ ix = 11 ∨ ix = 12 ∨ ix = 13 ∨ ix = 14 ∨ ix = 15 := by omega
    have hh := hI.held
    clear hi
    rcases hcase with rfl | rfl | rfl | rfl | rfl | rfl | rfl | rfl | rfl | rfl | rfl | rfl | rfl | rfl | rfl | rfl
    · simp only [List.getElem?_toArray, List.getElem?_cons_zero, Option.some.injEq] at ho
      subst ho
      refine ⟨rfl, ?_⟩
      have e5 : A_.tmps[5]?.getD undef = .pointer (some ⟨w.heap.size, 0, none⟩) := by rw [hI.low 5 (by decide)]; rfl
      clear hI hdep
      obtain ⟨⟨fa0, fa1, fa2, fa3, fa4, fa5, fa6, fa7⟩, ⟨fb0, fb1, fb2, fb3, fb4, fb5, fb6, fb7⟩, ⟨fp0, fp1, fp2, fp3, fp4⟩, ⟨fq0, fq1, fq2, fq3, fq4⟩, ⟨fc0, fc1, fc2, fc3, fc4, fc5, fc6, fc7⟩, fd0, fd1, fd2, fd3, fd4⟩ := HK.out w3 hh
      exact .run rfl (.agg #[.int .i64 k, .int .i64 n, .int .i64 a, .int .i64 c, .int .i64 h, .int .i64 t, .int .i64 i, .int .i64 p]) w3 (by simp [execOp, go_sem, Act.eval, *]) (Below.refl _ _) rfl
    · simp only [List.getElem?_toArray, List.getElem?_cons_succ, List.getElem?_cons_zero, Option.some.injEq] at ho
      subst ho
      refine ⟨rfl, ?_⟩
      have e6 : A_.tmps[6]?.getD undef = .pointer (some ⟨w.heap.size + 1, 0, none⟩) := by rw [hI.low 6 (by decide)]; rfl
      clear hI hdep
      obtain ⟨⟨fa0, fa1, fa2, fa3, fa4, fa5, fa6, fa7⟩, ⟨fb0, fb1, fb2, fb3, fb4, fb5, fb6, fb7⟩, ⟨fp0, fp1, fp2, fp3, fp4⟩, ⟨fq0, fq1, fq2, fq3, fq4⟩, ⟨fc0, fc1, fc2, fc3, fc4, fc5, fc6, fc7⟩, fd0, fd1, fd2, fd3, fd4⟩ := HK.out w3 hh
      exact .run rfl (.agg #[.int .i64 k2, .int .i64 n2, .int .i64 a2, .int .i64 c2, .int .i64 h2, .int .i64 t2, .int .i64 i2, .int .i64 p2]) w3 (by simp [execOp, go_sem, Act.eval, *]) (Below.refl _ _) rfl
    · simp only [List.getElem?_toArray, List.getElem?_cons_succ, List.getElem?_cons_zero, Option.some.injEq] at ho
      subst ho
      refine ⟨rfl, ?_⟩
      have e45 : A_.tmps[45]?.getD undef = .agg #[.int .i64 k, .int .i64 n, .int .i64 a, .int .i64 c, .int .i64 h, .int .i64 t, .int .i64 i, .int .i64 p] := getD_of (hI.val_ (i := 0) rfl rfl (by decide) (hdep ⟨0, .data⟩ (by simp) rfl))
      have e46 : A_.tmps[46]?.getD undef = .agg #[.int .i64 k2, .int .i64 n2, .int .i64 a2, .int .i64 c2, .int .i64 h2, .int .i64 t2, .int .i64 i2, .int .i64 p2] := getD_of (hI.val_ (i := 1) rfl rfl (by decide) (hdep ⟨1, .data⟩ (by simp) rfl))
      clear hI hdep
      exact .call rfl 6 #[.agg #[.int .i64 k, .int .i64 n, .int .i64 a, .int .i64 c, .int .i64 h, .int .i64 t, .int .i64 i, .int .i64 p], .agg #[.int .i64 k2, .int .i64 n2, .int .i64 a2, .int .i64 c2, .int .i64 h2, .int .i64 t2, .int .i64 i2, .int .i64 p2]] (by simp [go_sem, Act.eval, e45, e46]) ((HC1.out w3).mono fun _ _ ⟨h1_, h2_⟩ => ⟨⟨_, h1_, rfl⟩, h2_⟩)
    · simp only [List.getElem?_toArray, List.getElem?_cons_succ, List.getElem?_cons_zero, Option.some.injEq] at ho
      subst ho
      refine ⟨rfl, ?_⟩
      have e5 : A_.tmps[5]?.getD undef = .pointer (some ⟨w.heap.size, 0, none⟩) := by rw [hI.low 5 (by decide)]; rfl
      clear hI hdep
      obtain ⟨⟨fa0, fa1, fa2, fa3, fa4, fa5, fa6, fa7⟩, ⟨fb0, fb1, fb2, fb3, fb4, fb5, fb6, fb7⟩, ⟨fp0, fp1, fp2, fp3, fp4⟩, ⟨fq0, fq1, fq2, fq3, fq4⟩, ⟨fc0, fc1, fc2, fc3, fc4, fc5, fc6, fc7⟩, fd0, fd1, fd2, fd3, fd4⟩ := HK.out w3 hh
      exact .run rfl (.agg #[.int .i64 k, .int .i64 n, .int .i64 a, .int .i64 c, .int .i64 h, .int .i64 t, .int .i64 i, .int .i64 p]) w3 (by simp [execOp, go_sem, Act.eval, *]) (Below.refl _ _) rfl
    · simp only [List.getElem?_toArray, List.getElem?_cons_succ, List.getElem?_cons_zero, Option.some.injEq] at ho
      subst ho
      refine ⟨rfl, ?_⟩
      have e6 : A_.tmps[6]?.getD undef = .pointer (some ⟨w.heap.size + 1, 0, none⟩) := by rw [hI.low 6 (by decide)]; rfl
      clear hI hdep
      obtain ⟨⟨fa0, fa1, fa2, fa3, fa4, fa5, fa6, fa7⟩, ⟨fb0, fb1, fb2, fb3, fb4, fb5, fb6, fb7⟩, ⟨fp0, fp1, fp2, fp3, fp4⟩, ⟨fq0, fq1, fq2, fq3, fq4⟩, ⟨fc0, fc1, fc2, fc3, fc4, fc5, fc6, fc7⟩, fd0, fd1, fd2, fd3, fd4⟩ := HK.out w3 hh
      exact .run rfl (.agg #[.int .i64 k2, .int .i64 n2, .int .i64 a2, .int .i64 c2, .int .i64 h2, .int .i64 t2, .int .i64 i2, .int .i64 p2]) w3 (by simp [execOp, go_sem, Act.eval, *]) (Below.refl _ _) rfl
    · simp only [List.getElem?_toArray, List.getElem?_cons_succ, List.getElem?_cons_zero, Option.some.injEq] at ho
      subst ho
      refine ⟨rfl, ?_⟩
      have e48 : A_.tmps[48]?.getD undef = .agg #[.int .i64 k, .int .i64 n, .int .i64 a, .int .i64 c, .int .i64 h, .int .i64 t, .int .i64 i, .int .i64 p] := getD_of (hI.val_ (i := 3) rfl rfl (by decide) (hdep ⟨3, .data⟩ (by simp) rfl))
      have e49 : A_.tmps[49]?.getD undef = .agg #[.int .i64 k2, .int .i64 n2, .int .i64 a2, .int .i64 c2, .int .i64 h2, .int .i64 t2, .int .i64 i2, .int .i64 p2] := getD_of (hI.val_ (i := 4) rfl rfl (by decide) (hdep ⟨4, .data⟩ (by simp) rfl))
      clear hI hdep
      exact .call rfl 7 #[.agg #[.int .i64 k, .int .i64 n, .int .i64 a, .int .i64 c, .int .i64 h, .int .i64 t, .int .i64 i, .int .i64 p], .agg #[.int .i64 k2, .int .i64 n2, .int .i64 a2, .int .i64 c2, .int .i64 h2, .int .i64 t2, .int .i64 i2, .int .i64 p2]] (by simp [go_sem, Act.eval, e48, e49]) ((HR1.out w3).mono fun _ _ ⟨h1_, h2_⟩ => ⟨⟨_, h1_, rfl⟩, h2_⟩)
    · simp only [List.getElem?_toArray, List.getElem?_cons_succ, List.getElem?_cons_zero, Option.some.injEq] at ho
      subst ho
      refine ⟨rfl, ?_⟩
      have e47 : A_.tmps[47]?.getD undef = .int .i64 R1 := getD_of (hI.val_ (i := 2) rfl rfl (by decide) (hdep ⟨2, .data⟩ (by simp) rfl))
      have e50 : A_.tmps[50]?.getD undef = .int .i64 R1 := getD_of (hI.val_ (i := 5) rfl rfl (by decide) (hdep ⟨5, .data⟩ (by simp) rfl))
      clear hI hdep
      exact .run rfl (.bool false) w3 (by simp [execOp, go_sem, Act.eval, *]) (Below.refl _ _) rfl
    · simp only [List.getElem?_toArray, List.getElem?_cons_succ, List.getElem?_cons_zero, Option.some.injEq] at ho
      subst ho
      refine ⟨rfl, ?_⟩
      have e51 : A_.tmps[51]?.getD undef = .bool false := getD_of (hI.val_ (i := 6) rfl rfl (by decide) (hdep ⟨6, .data⟩ (by simp) rfl))
      clear hI hdep
      exact .run rfl (.bool false) w3 (by simp [execOp, go_sem, Act.eval, e51]) (Below.refl _ _) rfl
    · simp only [List.getElem?_toArray, List.getElem?_cons_succ, List.getElem?_cons_zero, Option.some.injEq] at ho
      subst ho
      refine ⟨rfl, ?_⟩
      have q52 : A_.tmps[52]? = some (.bool false) := hI.val_ (i := 7) rfl rfl (by decide) (hdep ⟨7, .guard⟩ (by simp) rfl)
      have e5 : A_.tmps[5]?.getD undef = .pointer (some ⟨w.heap.size, 0, none⟩) := by rw [hI.low 5 (by decide)]; rfl
      clear hI hdep
      obtain ⟨⟨fa0, fa1, fa2, fa3, fa4, fa5, fa6, fa7⟩, ⟨fb0, fb1, fb2, fb3, fb4, fb5, fb6, fb7⟩, ⟨fp0, fp1, fp2, fp3, fp4⟩, ⟨fq0, fq1, fq2, fq3, fq4⟩, ⟨fc0, fc1, fc2, fc3, fc4, fc5, fc6, fc7⟩, fd0, fd1, fd2, fd3, fd4⟩ := HK.out w3 hh
      exact .run ((wanted_some rfl rfl q52).trans rfl) (.agg #[.int .i64 k, .int .i64 n, .int .i64 a, .int .i64 c, .int .i64 h, .int .i64 t, .int .i64 i, .int .i64 p]) w3 (by simp [execOp, go_sem, Act.eval, *]) (Below.refl _ _) rfl
    · simp only [List.getElem?_toArray, List.getElem?_cons_succ, List.getElem?_cons_zero, Option.some.injEq] at ho
      subst ho
      refine ⟨rfl, ?_⟩
      have q52 : A_.tmps[52]? = some (.bool false) := hI.val_ (i := 7) rfl rfl (by decide) (hdep ⟨7, .guard⟩ (by simp) rfl)
      have e11 : A_.tmps[11]?.getD undef = .pointer (some ⟨U.heap.size, 0, none⟩) := by rw [hI.low 11 (by decide)]; rfl
      clear hI hdep
      obtain ⟨⟨fa0, fa1, fa2, fa3, fa4, fa5, fa6, fa7⟩, ⟨fb0, fb1, fb2, fb3, fb4, fb5, fb6, fb7⟩, ⟨fp0, fp1, fp2, fp3, fp4⟩, ⟨fq0, fq1, fq2, fq3, fq4⟩, ⟨fc0, fc1, fc2, fc3, fc4, fc5, fc6, fc7⟩, fd0, fd1, fd2, fd3, fd4⟩ := HK.out w3 hh
      exact .run ((wanted_some rfl rfl q52).trans rfl) (.agg #[.int .i64 k, .int .i64 n, .int .i64 a, .int .i64 c2, .int .i64 h2, .int .i64 t2, .int .i64 i2, .int .i64 p2]) w3 (by simp [execOp, go_sem, Act.eval, *]) (Below.refl _ _) rfl
    · simp only [List.getElem?_toArray, List.getElem?_cons_succ, List.getElem?_cons_zero, Option.some.injEq] at ho
      subst ho
      refine ⟨rfl, ?_⟩
      have q52 : A_.tmps[52]? = some (.bool false) := hI.val_ (i := 7) rfl rfl (by decide) (hdep ⟨7, .guard⟩ (by simp) rfl)
      have e53 : A_.tmps[53]?.getD undef = .agg #[.int .i64 k, .int .i64 n, .int .i64 a, .int .i64 c, .int .i64 h, .int .i64 t, .int .i64 i, .int .i64 p] := getD_of (hI.val_ (i := 8) rfl rfl (by decide) (hdep ⟨8, .data⟩ (by simp) rfl))
      have e54 : A_.tmps[54]?.getD undef = .agg #[.int .i64 k, .int .i64 n, .int .i64 a, .int .i64 c2, .int .i64 h2, .int .i64 t2, .int .i64 i2, .int .i64 p2] := getD_of (hI.val_ (i := 9) rfl rfl (by decide) (hdep ⟨9, .data⟩ (by simp) rfl))
      clear hI hdep
      exact .call ((wanted_some rfl rfl q52).trans rfl) 6 #[.agg #[.int .i64 k, .int .i64 n, .int .i64 a, .int .i64 c, .int .i64 h, .int .i64 t, .int .i64 i, .int .i64 p], .agg #[.int .i64 k, .int .i64 n, .int .i64 a, .int .i64 c2, .int .i64 h2, .int .i64 t2, .int .i64 i2, .int .i64 p2]] (by simp [go_sem, Act.eval, e53, e54]) ((HC2.out w3).mono fun _ _ ⟨h1_, h2_⟩ => ⟨⟨_, h1_, rfl⟩, h2_⟩)
    · simp only [List.getElem?_toArray, List.getElem?_cons_succ, List.getElem?_cons_zero, Option.some.injEq] at ho
      subst ho
      refine ⟨rfl, ?_⟩
      have q52 : A_.tmps[52]? = some (.bool false) := hI.val_ (i := 7) rfl rfl (by decide) (hdep ⟨7, .guard⟩ (by simp) rfl)
      have e5 : A_.tmps[5]?.getD undef = .pointer (some ⟨w.heap.size, 0, none⟩) := by rw [hI.low 5 (by decide)]; rfl
      clear hI hdep
      obtain ⟨⟨fa0, fa1, fa2, fa3, fa4, fa5, fa6, fa7⟩, ⟨fb0, fb1, fb2, fb3, fb4, fb5, fb6, fb7⟩, ⟨fp0, fp1, fp2, fp3, fp4⟩, ⟨fq0, fq1, fq2, fq3, fq4⟩, ⟨fc0, fc1, fc2, fc3, fc4, fc5, fc6, fc7⟩, fd0, fd1, fd2, fd3, fd4⟩ := HK.out w3 hh
      exact .run ((wanted_some rfl rfl q52).trans rfl) (.agg #[.int .i64 k, .int .i64 n, .int .i64 a, .int .i64 c, .int .i64 h, .int .i64 t, .int .i64 i, .int .i64 p]) w3 (by simp [execOp, go_sem, Act.eval, *]) (Below.refl _ _) rfl
    · simp only [List.getElem?_toArray, List.getElem?_cons_succ, List.getElem?_cons_zero, Option.some.injEq] at ho
      subst ho
      refine ⟨rfl, ?_⟩
      have q52 : A_.tmps[52]? = some (.bool false) := hI.val_ (i := 7) rfl rfl (by decide) (hdep ⟨7, .guard⟩ (by simp) rfl)
      have e11 : A_.tmps[11]?.getD undef = .pointer (some ⟨U.heap.size, 0, none⟩) := by rw [hI.low 11 (by decide)]; rfl
      clear hI hdep
      obtain ⟨⟨fa0, fa1, fa2, fa3, fa4, fa5, fa6, fa7⟩, ⟨fb0, fb1, fb2, fb3, fb4, fb5, fb6, fb7⟩, ⟨fp0, fp1, fp2, fp3, fp4⟩, ⟨fq0, fq1, fq2, fq3, fq4⟩, ⟨fc0, fc1, fc2, fc3, fc4, fc5, fc6, fc7⟩, fd0, fd1, fd2, fd3, fd4⟩ := HK.out w3 hh
      exact .run ((wanted_some rfl rfl q52).trans rfl) (.agg #[.int .i64 k, .int .i64 n, .int .i64 a, .int .i64 c2, .int .i64 h2, .int .i64 t2, .int .i64 i2, .int .i64 p2]) w3 (by simp [execOp, go_sem, Act.eval, *]) (Below.refl _ _) rfl
    · simp only [List.getElem?_toArray, List.getElem?_cons_succ, List.getElem?_cons_zero, Option.some.injEq] at ho
      subst ho
      refine ⟨rfl, ?_⟩
      have q52 : A_.tmps[52]? = some (.bool false) := hI.val_ (i := 7) rfl rfl (by decide) (hdep ⟨7, .guard⟩ (by simp) rfl)
      have e56 : A_.tmps[56]?.getD undef = .agg #[.int .i64 k, .int .i64 n, .int .i64 a, .int .i64 c, .int .i64 h, .int .i64 t, .int .i64 i, .int .i64 p] := getD_of (hI.val_ (i := 11) rfl rfl (by decide) (hdep ⟨11, .data⟩ (by simp) rfl))
      have e57 : A_.tmps[57]?.getD undef = .agg #[.int .i64 k, .int .i64 n, .int .i64 a, .int .i64 c2, .int .i64 h2, .int .i64 t2, .int .i64 i2, .int .i64 p2] := getD_of (hI.val_ (i := 12) rfl rfl (by decide) (hdep ⟨12, .data⟩ (by simp) rfl))
      clear hI hdep
      exact .call ((wanted_some rfl rfl q52).trans rfl) 7 #[.agg #[.int .i64 k, .int .i64 n, .int .i64 a, .int .i64 c, .int .i64 h, .int .i64 t, .int .i64 i, .int .i64 p], .agg #[.int .i64 k, .int .i64 n, .int .i64 a, .int .i64 c2, .int .i64 h2, .int .i64 t2, .int .i64 i2, .int .i64 p2]] (by simp [go_sem, Act.eval, e56, e57]) ((HR2.out w3).mono fun _ _ ⟨h1_, h2_⟩ => ⟨⟨_, h1_, rfl⟩, h2_⟩)
    · simp only [List.getElem?_toArray, List.getElem?_cons_succ, List.getElem?_cons_zero, Option.some.injEq] at ho
      subst ho
      refine ⟨rfl, ?_⟩
      have q52 : A_.tmps[52]? = some (.bool false) := hI.val_ (i := 7) rfl rfl (by decide) (hdep ⟨7, .guard⟩ (by simp) rfl)
      have e55 : A_.tmps[55]?.getD undef = .int .i64 R2 := getD_of (hI.val_ (i := 10) rfl rfl (by decide) (hdep ⟨10, .data⟩ (by simp) rfl))
      have e58 : A_.tmps[58]?.getD undef = .int .i64 R2 := getD_of (hI.val_ (i := 13) rfl rfl (by decide) (hdep ⟨13, .data⟩ (by simp) rfl))
      clear hI hdep
      exact .run ((wanted_some rfl rfl q52).trans rfl) (.bool false) w3 (by simp [execOp, go_sem, Act.eval, *]) (Below.refl _ _) rfl
    · simp only [List.getElem?_toArray, List.getElem?_cons_succ, List.getElem?_cons_zero, Option.some.injEq] at ho
      subst ho
      refine ⟨rfl, ?_⟩
      have e52 : A_.tmps[52]?.getD undef = .bool false := getD_of (hI.val_ (i := 7) rfl rfl (by decide) (hdep ⟨7, .data⟩ (by simp) rfl))
      have e59 : A_.tmps[59]?.getD undef = .bool false := getD_of (hI.val_ (i := 14) rfl rfl (by decide) (hdep ⟨14, .data⟩ (by simp) rfl))
      clear hI hdep
      exact .run rfl (.bool false) w3 (by simp [execOp, go_sem, Act.eval, e52, e59]) (Below.refl _ _) rfl
  case fin =>
  intro A_ w3 hs hd hlow hS hok
  obtain rfl : A_ = ⟨#[.agg #[.int .i64 k, .int .i64 n, .int .i64 a, .int .i64 c, .int .i64 h, .int .i64 t, .int .i64 i, .int .i64 p], .agg #[.int .i64 k2, .int .i64 n2, .int .i64 a2, .int .i64 c2, .int .i64 h2, .int .i64 t2, .int .i64 i2, .int .i64 p2], .agg #[.int .i64 qc, .int .i64 qh, .int .i64 qt, .int .i64 qk, .int .i64 qi], .agg #[.int .i64 qc2, .int .i64 qh2, .int .i64 qt2, .int .i64 qk2, .int .i64 qi2], .int .i64 at_, .pointer (some ⟨w.heap.size, 0, none⟩), .pointer (some ⟨w.heap.size + 1, 0, none⟩), .pointer (some ⟨w.heap.size + 1 + 1, 0, none⟩), .pointer (some ⟨w.heap.size + 1 + 1 + 1, 0, none⟩), undef, .bool false, .pointer (some ⟨U.heap.size, 0, none⟩), .pointer (some ⟨U5.heap.size, 0, none⟩), undef, .agg #[.int .i64 k, .int .i64 n, .int .i64 a, .int .i64 c, .int .i64 h, .int .i64 t, .int .i64 i, .int .i64 p], .agg #[.int .i64 qc, .int .i64 qh, .int .i64 qt, .int .i64 qk, .int .i64 qi], .int .i64 at_, .int .i64 3, .pointer (some ⟨w.heap.size + 1, 3, none⟩), .agg #[.int .i64 c2, .int .i64 h2, .int .i64 t2, .int .i64 i2, .int .i64 p2], .pointer (some ⟨U.heap.size, 3, none⟩), .bool false, .bool false, undef, undef, undef, undef, undef, undef, .bool false, .bool false, undef, undef, undef, undef, undef, undef, .bool false, .bool false, undef, undef, undef, undef, undef, undef, .agg #[.int .i64 k, .int .i64 n, .int .i64 a, .int .i64 c, .int .i64 h, .int .i64 t, .int .i64 i, .int .i64 p], .agg #[.int .i64 k2, .int .i64 n2, .int .i64 a2, .int .i64 c2, .int .i64 h2, .int .i64 t2, .int .i64 i2, .int .i64 p2], .int .i64 R1, .agg #[.int .i64 k, .int .i64 n, .int .i64 a, .int .i64 c, .int .i64 h, .int .i64 t, .int .i64 i, .int .i64 p], .agg #[.int .i64 k2, .int .i64 n2, .int .i64 a2, .int .i64 c2, .int .i64 h2, .int .i64 t2, .int .i64 i2, .int .i64 p2], .int .i64 R1, .bool false, .bool false, .agg #[.int .i64 k, .int .i64 n, .int .i64 a, .int .i64 c, .int .i64 h, .int .i64 t, .int .i64 i, .int .i64 p], .agg #[.int .i64 k, .int .i64 n, .int .i64 a, .int .i64 c2, .int .i64 h2, .int .i64 t2, .int .i64 i2, .int .i64 p2], .int .i64 R2, .agg #[.int .i64 k, .int .i64 n, .int .i64 a, .int .i64 c, .int .i64 h, .int .i64 t, .int .i64 i, .int .i64 p], .agg #[.int .i64 k, .int .i64 n, .int .i64 a, .int .i64 c2, .int .i64 h2, .int .i64 t2, .int .i64 i2, .int .i64 p2], .int .i64 R2, .bool false, .bool false, undef, undef, undef, undef, undef, undef, undef, undef, undef, undef, undef, undef, undef, undef, undef, undef, undef, undef, undef, undef, undef, undef, undef], []⟩ := act_ext hd hs (fun j hj => match j, hj with | 0, _ => (hlow 0 (by decide)).trans rfl | 1, _ => (hlow 1 (by decide)).trans rfl | 2, _ => (hlow 2 (by decide)).trans rfl | 3, _ => (hlow 3 (by decide)).trans rfl | 4, _ => (hlow 4 (by decide)).trans rfl | 5, _ => (hlow 5 (by decide)).trans rfl | 6, _ => (hlow 6 (by decide)).trans rfl | 7, _ => (hlow 7 (by decide)).trans rfl | 8, _ => (hlow 8 (by decide)).trans rfl | 9, _ => (hlow 9 (by decide)).trans rfl | 10, _ => (hlow 10 (by decide)).trans rfl | 11, _ => (hlow 11 (by decide)).trans rfl | 12, _ => (hlow 12 (by decide)).trans rfl | 13, _ => (hlow 13 (by decide)).trans rfl | 14, _ => (hlow 14 (by decide)).trans rfl | 15, _ => (hlow 15 (by decide)).trans rfl | 16, _ => (hlow 16 (by decide)).trans rfl | 17, _ => (hlow 17 (by decide)).trans rfl | 18, _ => (hlow 18 (by decide)).trans rfl | 19, _ => (hlow 19 (by decide)).trans rfl | 20, _ => (hlow 20 (by decide)).trans rfl | 21, _ => (hlow 21 (by decide)).trans rfl | 22, _ => (hlow 22 (by decide)).trans rfl | 23, _ => (hlow 23 (by decide)).trans rfl | 24, _ => (hlow 24 (by decide)).trans rfl | 25, _ => (hlow 25 (by decide)).trans rfl | 26, _ => (hlow 26 (by decide)).trans rfl | 27, _ => (hlow 27 (by decide)).trans rfl | 28, _ => (hlow 28 (by decide)).trans rfl | 29, _ => (hlow 29 (by decide)).trans rfl | 30, _ => (hlow 30 (by decide)).trans rfl | 31, _ => (hlow 31 (by decide)).trans rfl | 32, _ => (hlow 32 (by decide)).trans rfl | 33, _ => (hlow 33 (by decide)).trans rfl | 34, _ => (hlow 34 (by decide)).trans rfl | 35, _ => (hlow 35 (by decide)).trans rfl | 36, _ => (hlow 36 (by decide)).trans rfl | 37, _ => (hlow 37 (by decide)).trans rfl | 38, _ => (hlow 38 (by decide)).trans rfl | 39, _ => (hlow 39 (by decide)).trans rfl | 40, _ => (hlow 40 (by decide)).trans rfl | 41, _ => (hlow 41 (by decide)).trans rfl | 42, _ => (hlow 42 (by decide)).trans rfl | 43, _ => (hlow 43 (by decide)).trans rfl | 44, _ => (hlow 44 (by decide)).trans rfl | 45, _ => RgX.val_at (hok 0 45 _ (by decide) rfl rfl) | 46, _ => RgX.val_at (hok 1 46 _ (by decide) rfl rfl) | 47, _ => RgX.val_at (hok 2 47 _ (by decide) rfl rfl) | 48, _ => RgX.val_at (hok 3 48 _ (by decide) rfl rfl) | 49, _ => RgX.val_at (hok 4 49 _ (by decide) rfl rfl) | 50, _ => RgX.val_at (hok 5 50 _ (by decide) rfl rfl) | 51, _ => RgX.val_at (hok 6 51 _ (by decide) rfl rfl) | 52, _ => RgX.val_at (hok 7 52 _ (by decide) rfl rfl) | 53, _ => RgX.val_at (hok 8 53 _ (by decide) rfl rfl) | 54, _ => RgX.val_at (hok 9 54 _ (by decide) rfl rfl) | 55, _ => RgX.val_at (hok 10 55 _ (by decide) rfl rfl) | 56, _ => RgX.val_at (hok 11 56 _ (by decide) rfl rfl) | 57, _ => RgX.val_at (hok 12 57 _ (by decide) rfl rfl) | 58, _ => RgX.val_at (hok 13 58 _ (by decide) rfl rfl) | 59, _ => RgX.val_at (hok 14 59 _ (by decide) rfl rfl) | 60, _ => RgX.val_at (hok 15 60 _ (by decide) rfl rfl) | 61, _ => (hlow 61 (by decide)).trans rfl | 62, _ => (hlow 62 (by decide)).trans rfl | 63, _ => (hlow 63 (by decide)).trans rfl | 64, _ => (hlow 64 (by decide)).trans rfl | 65, _ => (hlow 65 (by decide)).trans rfl | 66, _ => (hlow 66 (by decide)).trans rfl | 67, _ => (hlow 67 (by decide)).trans rfl | 68, _ => (hlow 68 (by decide)).trans rfl | 69, _ => (hlow 69 (by decide)).trans rfl | 70, _ => (hlow 70 (by decide)).trans rfl | 71, _ => (hlow 71 (by decide)).trans rfl | 72, _ => (hlow 72 (by decide)).trans rfl | 73, _ => (hlow 73 (by decide)).trans rfl | 74, _ => (hlow 74 (by decide)).trans rfl | 75, _ => (hlow 75 (by decide)).trans rfl | 76, _ => (hlow 76 (by decide)).trans rfl | 77, _ => (hlow 77 (by decide)).trans rfl | 78, _ => (hlow 78 (by decide)).trans rfl | 79, _ => (hlow 79 (by decide)).trans rfl | 80, _ => (hlow 80 (by decide)).trans rfl | 81, _ => (hlow 81 (by decide)).trans rfl | 82, _ => (hlow 82 (by decide)).trans rfl | 83, _ => (hlow 83 (by decide)).trans rfl | n + 84, h => absurd h (by show ¬ n + 84 < 84; omega))
  clear hs hd hlow hok 
  obtain ⟨⟨fa0, fa1, fa2, fa3, fa4, fa5, fa6, fa7⟩, ⟨fb0, fb1, fb2, fb3, fb4, fb5, fb6, fb7⟩, ⟨fp0, fp1, fp2, fp3, fp4⟩, ⟨fq0, fq1, fq2, fq3, fq4⟩, ⟨fc0, fc1, fc2, fc3, fc4, fc5, fc6, fc7⟩, fd0, fd1, fd2, fd3, fd4⟩ := HK.out w3 hS
  have HB2 := Lib.hid (HB.out.trans (hS.mono HB.out.size))
  have HS := Lib.hid hS
  go_wp2_with fail
  refine (queKey_any _ _ _ _ _ _).mono ?_
  rintro e w9 ⟨⟨g13, rfl, k13⟩, hb9⟩
  have HB3 := Lib.hid (HB2.out.trans (hb9.mono HB2.out.size))
  have HK2 := Lib.hid (fun (V : World) (hV : Below w9.heap.size w9 V) => HK.out V ((HS.out.trans (hb9.mono HS.out.size)).trans (hV.mono (Nat.le_trans HS.out.size hb9.size))))
  have H13 := Lib.hid (fun (V : World) (hV : Below w9.heap.size w9 V) => (hV.block _ (heap_lt k13)).trans k13)
  clear fa0 fa1 fa2 fa3 fa4 fa5 fa6 fa7 fb0 fb1 fb2 fb3 fb4 fb5 fb6 fb7 fp0 fp1 fp2 fp3 fp4 fq0 fq1 fq2 fq3 fq4 fc0 fc1 fc2 fc3 fc4 fc5 fc6 fc7 fd0 fd1 fd2 fd3 fd4 k13 hb9 hS
  go_wp2_with fail
  refine RgX.region 22 (fun i => (if i = 21 then 10 else 63 + i)) (fun ix_ => match ix_ with | 0 => .v (.agg #[.int .i64 qc, .int .i64 qh, .int .i64 qt, .int .i64 qk, .int .i64 qi]) | 1 => .v (.agg #[.int .i64 qc2, .int .i64 qh2, .int .i64 qt2, .int .i64 qk2, .int .i64 qi2]) | 2 => .v (.int .i64 S1) | 3 => .v (.slice (some ⟨g13, 0, none⟩) 5 5) | 4 => .v (.agg #[.int .i64 qc2, .int .i64 qh2, .int .i64 qt2, .int .i64 qk2, .int .i64 qi2]) | 5 => .row #[.int .i64 qc2, .int .i64 qh2, .int .i64 qt2, .int .i64 qk2, .int .i64 qi2] 3 5 | 6 => .v (.int .i64 S1) | 7 => .v (.bool true) | 8 => .v (.bool true) | 9 => .v (.agg #[.int .i64 qc, .int .i64 qh, .int .i64 qt, .int .i64 qk, .int .i64 qi]) | 10 => .v (.agg #[.int .i64 qc, .int .i64 qh, .int .i64 qt, .int .i64 qk, .int .i64 qi]) | 11 => .v (.int .i64 S2) | 12 => .v (.slice (some ⟨g13, 0, none⟩) 5 5) | 13 => .v (.agg #[.int .i64 qc, .int .i64 qh, .int .i64 qt, .int .i64 qk, .int .i64 qi]) | 14 => .row #[.int .i64 qc, .int .i64 qh, .int .i64 qt, .int .i64 qk, .int .i64 qi] 3 5 | 15 => .v (.int .i64 S2) | 16 => .v (.bool true) | 17 => .v (.bool true) | 18 => .v (.bool true) | 19 => .v (.bool true) | 20 => .v (.bool true) | 21 => .v (.bool true) | _ => .any) (by kernel_rfl) rfl (by kernel_rfl)  (fun i hi => by show (if i = 21 then 10 else 63 + i) < 84; (repeat' split) <;> omega) (fun i j hi hj => by show (if i = 21 then 10 else 63 + i) = (if j = 21 then 10 else 63 + j) → i = j; (repeat' split) <;> omega) ?step ?fin
  case step =>
    intro L_ A_ w3 ix op_ hI ho hdep
    have hi : ix < 22 := (Array.getElem?_eq_some_iff.1 ho).1
    have hcase : ix = 0 ∨ ix = 1 ∨ ix = 2 ∨ ix = 3 ∨ ix = 4 ∨ ix = 5 ∨ ix = 6 ∨ ix = 7 ∨ ix = 8 ∨ ix = 9 ∨ ix = 10 ∨ ix = 11 ∨ ix = 12 ∨ ix = 13 ∨ ix = 14 ∨ ix = 15 ∨ ix = 16 ∨ ix = 17 ∨ ix = 18 ∨ ix = 19 ∨ ix = 20 ∨ ix = 21 := by omega
    have hh := hI.held
    clear hi
    rcases hcase with rfl | rfl | rfl | rfl | rfl | rfl | rfl | rfl | rfl | rfl | rfl | rfl | rfl | rfl | rfl | rfl | rfl | rfl | rfl | rfl | rfl | rfl
    · simp only [List.getElem?_toArray, List.getElem?_cons_zero, Option.some.injEq] at ho
      subst ho
      refine ⟨rfl, ?_⟩
      have e7 : A_.tmps[7]?.getD undef = .pointer (some ⟨w.heap.size + 1 + 1, 0, none⟩) := by rw [hI.low 7 (by decide)]; rfl
      clear hI hdep
      obtain ⟨⟨fa0, fa1, fa2, fa3, fa4, fa5, fa6, fa7⟩, ⟨fb0, fb1, fb2, fb3, fb4, fb5, fb6, fb7⟩, ⟨fp0, fp1, fp2, fp3, fp4⟩, ⟨fq0, fq1, fq2, fq3, fq4⟩, ⟨fc0, fc1, fc2, fc3, fc4, fc5, fc6, fc7⟩, fd0, fd1, fd2, fd3, fd4⟩ := HK2.out w3 hh
      exact .run rfl (.agg #[.int .i64 qc, .int .i64 qh, .int .i64 qt, .int .i64 qk, .int .i64 qi]) w3 (by simp [execOp, go_sem, Act.eval, *]) (Below.refl _ _) rfl
    · simp only [List.getElem?_toArray, List.getElem?_cons_succ, List.getElem?_cons_zero, Option.some.injEq] at ho
      subst ho
      refine ⟨rfl, ?_⟩
      have e8 : A_.tmps[8]?.getD undef = .pointer (some ⟨w.heap.size + 1 + 1 + 1, 0, none⟩) := by rw [hI.low 8 (by decide)]; rfl
      clear hI hdep
      obtain ⟨⟨fa0, fa1, fa2, fa3, fa4, fa5, fa6, fa7⟩, ⟨fb0, fb1, fb2, fb3, fb4, fb5, fb6, fb7⟩, ⟨fp0, fp1, fp2, fp3, fp4⟩, ⟨fq0, fq1, fq2, fq3, fq4⟩, ⟨fc0, fc1, fc2, fc3, fc4, fc5, fc6, fc7⟩, fd0, fd1, fd2, fd3, fd4⟩ := HK2.out w3 hh
      exact .run rfl (.agg #[.int .i64 qc2, .int .i64 qh2, .int .i64 qt2, .int .i64 qk2, .int .i64 qi2]) w3 (by simp [execOp, go_sem, Act.eval, *]) (Below.refl _ _) rfl
    · simp only [List.getElem?_toArray, List.getElem?_cons_succ, List.getElem?_cons_zero, Option.some.injEq] at ho
      subst ho
      refine ⟨rfl, ?_⟩
      have e63 : A_.tmps[63]?.getD undef = .agg #[.int .i64 qc, .int .i64 qh, .int .i64 qt, .int .i64 qk, .int .i64 qi] := getD_of (hI.val_ (i := 0) rfl rfl (by decide) (hdep ⟨0, .data⟩ (by simp) rfl))
      have e64 : A_.tmps[64]?.getD undef = .agg #[.int .i64 qc2, .int .i64 qh2, .int .i64 qt2, .int .i64 qk2, .int .i64 qi2] := getD_of (hI.val_ (i := 1) rfl rfl (by decide) (hdep ⟨1, .data⟩ (by simp) rfl))
      clear hI hdep
      exact .call rfl 9 #[.agg #[.int .i64 qc, .int .i64 qh, .int .i64 qt, .int .i64 qk, .int .i64 qi], .agg #[.int .i64 qc2, .int .i64 qh2, .int .i64 qt2, .int .i64 qk2, .int .i64 qi2]] (by simp [go_sem, Act.eval, e63, e64]) ((HQ1.out w3).mono fun _ _ ⟨h1_, h2_⟩ => ⟨⟨_, h1_, rfl⟩, h2_⟩)
    · simp only [List.getElem?_toArray, List.getElem?_cons_succ, List.getElem?_cons_zero, Option.some.injEq] at ho
      subst ho
      refine ⟨rfl, ?_⟩
      have e13 : A_.tmps[13]?.getD undef = .slice (some ⟨g13, 0, none⟩) 5 5 := by rw [hI.low 13 (by decide)]; rfl
      clear hI hdep
      exact .run rfl (.slice (some ⟨g13, 0, none⟩) 5 5) w3 (by simp [execOp, go_sem, Act.eval, e13]) (Below.refl _ _) rfl
    · simp only [List.getElem?_toArray, List.getElem?_cons_succ, List.getElem?_cons_zero, Option.some.injEq] at ho
      subst ho
      refine ⟨rfl, ?_⟩
      have e8 : A_.tmps[8]?.getD undef = .pointer (some ⟨w.heap.size + 1 + 1 + 1, 0, none⟩) := by rw [hI.low 8 (by decide)]; rfl
      clear hI hdep
      obtain ⟨⟨fa0, fa1, fa2, fa3, fa4, fa5, fa6, fa7⟩, ⟨fb0, fb1, fb2, fb3, fb4, fb5, fb6, fb7⟩, ⟨fp0, fp1, fp2, fp3, fp4⟩, ⟨fq0, fq1, fq2, fq3, fq4⟩, ⟨fc0, fc1, fc2, fc3, fc4, fc5, fc6, fc7⟩, fd0, fd1, fd2, fd3, fd4⟩ := HK2.out w3 hh
      exact .run rfl (.agg #[.int .i64 qc2, .int .i64 qh2, .int .i64 qt2, .int .i64 qk2, .int .i64 qi2]) w3 (by simp [execOp, go_sem, Act.eval, *]) (Below.refl _ _) rfl
    · simp only [List.getElem?_toArray, List.getElem?_cons_succ, List.getElem?_cons_zero, Option.some.injEq] at ho
      subst ho
      refine ⟨rfl, ?_⟩
      have e67 : A_.tmps[67]?.getD undef = .agg #[.int .i64 qc2, .int .i64 qh2, .int .i64 qt2, .int .i64 qk2, .int .i64 qi2] := getD_of (hI.val_ (i := 4) rfl rfl (by decide) (hdep ⟨4, .data⟩ (by simp) rfl))
      clear hI hdep
      exact .call rfl 8 #[.agg #[.int .i64 qc2, .int .i64 qh2, .int .i64 qt2, .int .i64 qk2, .int .i64 qi2]] (by simp [go_sem, Act.eval, e67]) (queKey_row _ _ _ _ _ w3)
    · simp only [List.getElem?_toArray, List.getElem?_cons_succ, List.getElem?_cons_zero, Option.some.injEq] at ho
      subst ho
      refine ⟨rfl, ?_⟩
      have e66 : A_.tmps[66]?.getD undef = .slice (some ⟨g13, 0, none⟩) 5 5 := getD_of (hI.val_ (i := 3) rfl rfl (by decide) (hdep ⟨3, .data⟩ (by simp) rfl))
      obtain ⟨_, e68, g68, rfl, r68⟩ := hI.get_ (i := 5) (j := 68) rfl rfl (by decide) (hdep ⟨5, .data⟩ (by simp) rfl)
      clear hI hdep
      exact .call rfl 10 #[.slice (some ⟨g13, 0, none⟩) 5 5, .slice (some ⟨g68, 0, none⟩) 5 5] (by simp [go_sem, Act.eval, e66, e68]) ((HL1.out w3 g13 g68 (H13.out w3 hh) r68).mono fun _ _ ⟨h1_, h2_⟩ => ⟨⟨_, h1_, rfl⟩, h2_⟩)
    · simp only [List.getElem?_toArray, List.getElem?_cons_succ, List.getElem?_cons_zero, Option.some.injEq] at ho
      subst ho
      refine ⟨rfl, ?_⟩
      have e65 : A_.tmps[65]?.getD undef = .int .i64 S1 := getD_of (hI.val_ (i := 2) rfl rfl (by decide) (hdep ⟨2, .data⟩ (by simp) rfl))
      have e69 : A_.tmps[69]?.getD undef = .int .i64 S1 := getD_of (hI.val_ (i := 6) rfl rfl (by decide) (hdep ⟨6, .data⟩ (by simp) rfl))
      clear hI hdep
      exact .run rfl (.bool true) w3 (by simp [execOp, go_sem, Act.eval, *]) (Below.refl _ _) rfl
    · simp only [List.getElem?_toArray, List.getElem?_cons_succ, List.getElem?_cons_zero, Option.some.injEq] at ho
      subst ho
      refine ⟨rfl, ?_⟩
      have e70 : A_.tmps[70]?.getD undef = .bool true := getD_of (hI.val_ (i := 7) rfl rfl (by decide) (hdep ⟨7, .data⟩ (by simp) rfl))
      clear hI hdep
      exact .run rfl (.bool true) w3 (by simp [execOp, go_sem, Act.eval, e70]) (Below.refl _ _) rfl
    · simp only [List.getElem?_toArray, List.getElem?_cons_succ, List.getElem?_cons_zero, Option.some.injEq] at ho
      subst ho
      refine ⟨rfl, ?_⟩
      have q71 : A_.tmps[71]? = some (.bool true) := hI.val_ (i := 8) rfl rfl (by decide) (hdep ⟨8, .guard⟩ (by simp) rfl)
      have e7 : A_.tmps[7]?.getD undef = .pointer (some ⟨w.heap.size + 1 + 1, 0, none⟩) := by rw [hI.low 7 (by decide)]; rfl
      clear hI hdep
      obtain ⟨⟨fa0, fa1, fa2, fa3, fa4, fa5, fa6, fa7⟩, ⟨fb0, fb1, fb2, fb3, fb4, fb5, fb6, fb7⟩, ⟨fp0, fp1, fp2, fp3, fp4⟩, ⟨fq0, fq1, fq2, fq3, fq4⟩, ⟨fc0, fc1, fc2, fc3, fc4, fc5, fc6, fc7⟩, fd0, fd1, fd2, fd3, fd4⟩ := HK2.out w3 hh
      exact .run ((wanted_some rfl rfl q71).trans rfl) (.agg #[.int .i64 qc, .int .i64 qh, .int .i64 qt, .int .i64 qk, .int .i64 qi]) w3 (by simp [execOp, go_sem, Act.eval, *]) (Below.refl _ _) rfl
    · simp only [List.getElem?_toArray, List.getElem?_cons_succ, List.getElem?_cons_zero, Option.some.injEq] at ho
      subst ho
      refine ⟨rfl, ?_⟩
      have q71 : A_.tmps[71]? = some (.bool true) := hI.val_ (i := 8) rfl rfl (by decide) (hdep ⟨8, .guard⟩ (by simp) rfl)
      have e12 : A_.tmps[12]?.getD undef = .pointer (some ⟨U5.heap.size, 0, none⟩) := by rw [hI.low 12 (by decide)]; rfl
      clear hI hdep
      obtain ⟨⟨fa0, fa1, fa2, fa3, fa4, fa5, fa6, fa7⟩, ⟨fb0, fb1, fb2, fb3, fb4, fb5, fb6, fb7⟩, ⟨fp0, fp1, fp2, fp3, fp4⟩, ⟨fq0, fq1, fq2, fq3, fq4⟩, ⟨fc0, fc1, fc2, fc3, fc4, fc5, fc6, fc7⟩, fd0, fd1, fd2, fd3, fd4⟩ := HK2.out w3 hh
      exact .run ((wanted_some rfl rfl q71).trans rfl) (.agg #[.int .i64 qc, .int .i64 qh, .int .i64 qt, .int .i64 qk, .int .i64 qi]) w3 (by simp [execOp, go_sem, Act.eval, *]) (Below.refl _ _) rfl
    · simp only [List.getElem?_toArray, List.getElem?_cons_succ, List.getElem?_cons_zero, Option.some.injEq] at ho
      subst ho
      refine ⟨rfl, ?_⟩
      have q71 : A_.tmps[71]? = some (.bool true) := hI.val_ (i := 8) rfl rfl (by decide) (hdep ⟨8, .guard⟩ (by simp) rfl)
      have e72 : A_.tmps[72]?.getD undef = .agg #[.int .i64 qc, .int .i64 qh, .int .i64 qt, .int .i64 qk, .int .i64 qi] := getD_of (hI.val_ (i := 9) rfl rfl (by decide) (hdep ⟨9, .data⟩ (by simp) rfl))
      have e73 : A_.tmps[73]?.getD undef = .agg #[.int .i64 qc, .int .i64 qh, .int .i64 qt, .int .i64 qk, .int .i64 qi] := getD_of (hI.val_ (i := 10) rfl rfl (by decide) (hdep ⟨10, .data⟩ (by simp) rfl))
      clear hI hdep
      exact .call ((wanted_some rfl rfl q71).trans rfl) 9 #[.agg #[.int .i64 qc, .int .i64 qh, .int .i64 qt, .int .i64 qk, .int .i64 qi], .agg #[.int .i64 qc, .int .i64 qh, .int .i64 qt, .int .i64 qk, .int .i64 qi]] (by simp [go_sem, Act.eval, e72, e73]) ((HQ2.out w3).mono fun _ _ ⟨h1_, h2_⟩ => ⟨⟨_, h1_, rfl⟩, h2_⟩)
    · simp only [List.getElem?_toArray, List.getElem?_cons_succ, List.getElem?_cons_zero, Option.some.injEq] at ho
      subst ho
      refine ⟨rfl, ?_⟩
      have q71 : A_.tmps[71]? = some (.bool true) := hI.val_ (i := 8) rfl rfl (by decide) (hdep ⟨8, .guard⟩ (by simp) rfl)
      have e13 : A_.tmps[13]?.getD undef = .slice (some ⟨g13, 0, none⟩) 5 5 := by rw [hI.low 13 (by decide)]; rfl
      clear hI hdep
      exact .run ((wanted_some rfl rfl q71).trans rfl) (.slice (some ⟨g13, 0, none⟩) 5 5) w3 (by simp [execOp, go_sem, Act.eval, e13]) (Below.refl _ _) rfl
    · simp only [List.getElem?_toArray, List.getElem?_cons_succ, List.getElem?_cons_zero, Option.some.injEq] at ho
      subst ho
      refine ⟨rfl, ?_⟩
      have q71 : A_.tmps[71]? = some (.bool true) := hI.val_ (i := 8) rfl rfl (by decide) (hdep ⟨8, .guard⟩ (by simp) rfl)
      have e12 : A_.tmps[12]?.getD undef = .pointer (some ⟨U5.heap.size, 0, none⟩) := by rw [hI.low 12 (by decide)]; rfl
      clear hI hdep
      obtain ⟨⟨fa0, fa1, fa2, fa3, fa4, fa5, fa6, fa7⟩, ⟨fb0, fb1, fb2, fb3, fb4, fb5, fb6, fb7⟩, ⟨fp0, fp1, fp2, fp3, fp4⟩, ⟨fq0, fq1, fq2, fq3, fq4⟩, ⟨fc0, fc1, fc2, fc3, fc4, fc5, fc6, fc7⟩, fd0, fd1, fd2, fd3, fd4⟩ := HK2.out w3 hh
      exact .run ((wanted_some rfl rfl q71).trans rfl) (.agg #[.int .i64 qc, .int .i64 qh, .int .i64 qt, .int .i64 qk, .int .i64 qi]) w3 (by simp [execOp, go_sem, Act.eval, *]) (Below.refl _ _) rfl
    · simp only [List.getElem?_toArray, List.getElem?_cons_succ, List.getElem?_cons_zero, Option.some.injEq] at ho
      subst ho
      refine ⟨rfl, ?_⟩
      have q71 : A_.tmps[71]? = some (.bool true) := hI.val_ (i := 8) rfl rfl (by decide) (hdep ⟨8, .guard⟩ (by simp) rfl)
      have e76 : A_.tmps[76]?.getD undef = .agg #[.int .i64 qc, .int .i64 qh, .int .i64 qt, .int .i64 qk, .int .i64 qi] := getD_of (hI.val_ (i := 13) rfl rfl (by decide) (hdep ⟨13, .data⟩ (by simp) rfl))
      clear hI hdep
      exact .call ((wanted_some rfl rfl q71).trans rfl) 8 #[.agg #[.int .i64 qc, .int .i64 qh, .int .i64 qt, .int .i64 qk, .int .i64 qi]] (by simp [go_sem, Act.eval, e76]) (queKey_row _ _ _ _ _ w3)
    · simp only [List.getElem?_toArray, List.getElem?_cons_succ, List.getElem?_cons_zero, Option.some.injEq] at ho
      subst ho
      refine ⟨rfl, ?_⟩
      have q71 : A_.tmps[71]? = some (.bool true) := hI.val_ (i := 8) rfl rfl (by decide) (hdep ⟨8, .guard⟩ (by simp) rfl)
      have e75 : A_.tmps[75]?.getD undef = .slice (some ⟨g13, 0, none⟩) 5 5 := getD_of (hI.val_ (i := 12) rfl rfl (by decide) (hdep ⟨12, .data⟩ (by simp) rfl))
      obtain ⟨_, e77, g77, rfl, r77⟩ := hI.get_ (i := 14) (j := 77) rfl rfl (by decide) (hdep ⟨14, .data⟩ (by simp) rfl)
      clear hI hdep
      exact .call ((wanted_some rfl rfl q71).trans rfl) 10 #[.slice (some ⟨g13, 0, none⟩) 5 5, .slice (some ⟨g77, 0, none⟩) 5 5] (by simp [go_sem, Act.eval, e75, e77]) ((HL2.out w3 g13 g77 (H13.out w3 hh) r77).mono fun _ _ ⟨h1_, h2_⟩ => ⟨⟨_, h1_, rfl⟩, h2_⟩)
    · simp only [List.getElem?_toArray, List.getElem?_cons_succ, List.getElem?_cons_zero, Option.some.injEq] at ho
      subst ho
      refine ⟨rfl, ?_⟩
      have q71 : A_.tmps[71]? = some (.bool true) := hI.val_ (i := 8) rfl rfl (by decide) (hdep ⟨8, .guard⟩ (by simp) rfl)
      have e74 : A_.tmps[74]?.getD undef = .int .i64 S2 := getD_of (hI.val_ (i := 11) rfl rfl (by decide) (hdep ⟨11, .data⟩ (by simp) rfl))
      have e78 : A_.tmps[78]?.getD undef = .int .i64 S2 := getD_of (hI.val_ (i := 15) rfl rfl (by decide) (hdep ⟨15, .data⟩ (by simp) rfl))
      clear hI hdep
      exact .run ((wanted_some rfl rfl q71).trans rfl) (.bool true) w3 (by simp [execOp, go_sem, Act.eval, *]) (Below.refl _ _) rfl
    · simp only [List.getElem?_toArray, List.getElem?_cons_succ, List.getElem?_cons_zero, Option.some.injEq] at ho
      subst ho
      refine ⟨rfl, ?_⟩
      have e71 : A_.tmps[71]?.getD undef = .bool true := getD_of (hI.val_ (i := 8) rfl rfl (by decide) (hdep ⟨8, .data⟩ (by simp) rfl))
      have e79 : A_.tmps[79]?.getD undef = .bool true := getD_of (hI.val_ (i := 16) rfl rfl (by decide) (hdep ⟨16, .data⟩ (by simp) rfl))
      clear hI hdep
      exact .run rfl (.bool true) w3 (by simp [execOp, go_sem, Act.eval, e71, e79]) (Below.refl _ _) rfl
    · simp only [List.getElem?_toArray, List.getElem?_cons_succ, List.getElem?_cons_zero, Option.some.injEq] at ho
      subst ho
      refine ⟨rfl, ?_⟩
      have e80 : A_.tmps[80]?.getD undef = .bool true := getD_of (hI.val_ (i := 17) rfl rfl (by decide) (hdep ⟨17, .data⟩ (by simp) rfl))
      clear hI hdep
      exact .run rfl (.bool true) w3 (by simp [execOp, go_sem, Act.eval, e80]) (Below.refl _ _) rfl
    · simp only [List.getElem?_toArray, List.getElem?_cons_succ, List.getElem?_cons_zero, Option.some.injEq] at ho
      subst ho
      refine ⟨rfl, ?_⟩
      have q81 : A_.tmps[81]? = some (.bool true) := hI.val_ (i := 18) rfl rfl (by decide) (hdep ⟨18, .guard⟩ (by simp) rfl)
      clear hI hdep
      exact .call ((wanted_some rfl rfl q81).trans rfl) 11 #[] (by simp [go_sem]) ((HL.out w3 (HB3.out.trans (hh.mono HB3.out.size))).mono fun _ _ ⟨h1_, h2_⟩ => ⟨⟨_, h1_, rfl⟩, h2_⟩)
    · simp only [List.getElem?_toArray, List.getElem?_cons_succ, List.getElem?_cons_zero, Option.some.injEq] at ho
      subst ho
      refine ⟨rfl, ?_⟩
      have e81 : A_.tmps[81]?.getD undef = .bool true := getD_of (hI.val_ (i := 18) rfl rfl (by decide) (hdep ⟨18, .data⟩ (by simp) rfl))
      have e82 : A_.tmps[82]?.getD undef = .bool true := getD_of (hI.val_ (i := 19) rfl rfl (by decide) (hdep ⟨19, .data⟩ (by simp) rfl))
      clear hI hdep
      exact .run rfl (.bool true) w3 (by simp [execOp, go_sem, Act.eval, e81, e82]) (Below.refl _ _) rfl
    · simp only [List.getElem?_toArray, List.getElem?_cons_succ, List.getElem?_cons_zero, Option.some.injEq] at ho
      subst ho
      refine ⟨rfl, ?_⟩
      have e83 : A_.tmps[83]?.getD undef = .bool true := getD_of (hI.val_ (i := 20) rfl rfl (by decide) (hdep ⟨20, .data⟩ (by simp) rfl))
      clear hI hdep
      exact .run rfl (.bool true) w3 (by simp [execOp, go_sem, Act.eval, e83]) (Below.refl _ _) rfl
  case fin =>
  intro A_ w3 hs hd hlow hS hok
  obtain ⟨_, hy68, g68, rfl, r68⟩ := hok 5 68 _ (by decide) rfl rfl
  obtain ⟨_, hy77, g77, rfl, r77⟩ := hok 14 77 _ (by decide) rfl rfl
  obtain rfl : A_ = ⟨#[.agg #[.int .i64 k, .int .i64 n, .int .i64 a, .int .i64 c, .int .i64 h, .int .i64 t, .int .i64 i, .int .i64 p], .agg #[.int .i64 k2, .int .i64 n2, .int .i64 a2, .int .i64 c2, .int .i64 h2, .int .i64 t2, .int .i64 i2, .int .i64 p2], .agg #[.int .i64 qc, .int .i64 qh, .int .i64 qt, .int .i64 qk, .int .i64 qi], .agg #[.int .i64 qc2, .int .i64 qh2, .int .i64 qt2, .int .i64 qk2, .int .i64 qi2], .int .i64 at_, .pointer (some ⟨w.heap.size, 0, none⟩), .pointer (some ⟨w.heap.size + 1, 0, none⟩), .pointer (some ⟨w.heap.size + 1 + 1, 0, none⟩), .pointer (some ⟨w.heap.size + 1 + 1 + 1, 0, none⟩), undef, .bool true, .pointer (some ⟨U.heap.size, 0, none⟩), .pointer (some ⟨U5.heap.size, 0, none⟩), .slice (some ⟨g13, 0, none⟩) 5 5, .agg #[.int .i64 k, .int .i64 n, .int .i64 a, .int .i64 c, .int .i64 h, .int .i64 t, .int .i64 i, .int .i64 p], .agg #[.int .i64 qc, .int .i64 qh, .int .i64 qt, .int .i64 qk, .int .i64 qi], .int .i64 at_, .int .i64 3, .pointer (some ⟨w.heap.size + 1, 3, none⟩), .agg #[.int .i64 c2, .int .i64 h2, .int .i64 t2, .int .i64 i2, .int .i64 p2], .pointer (some ⟨U.heap.size, 3, none⟩), .bool false, .bool false, undef, undef, undef, undef, undef, undef, .bool false, .bool false, undef, undef, undef, undef, undef, undef, .bool false, .bool false, undef, undef, undef, undef, undef, undef, .agg #[.int .i64 k, .int .i64 n, .int .i64 a, .int .i64 c, .int .i64 h, .int .i64 t, .int .i64 i, .int .i64 p], .agg #[.int .i64 k2, .int .i64 n2, .int .i64 a2, .int .i64 c2, .int .i64 h2, .int .i64 t2, .int .i64 i2, .int .i64 p2], .int .i64 R1, .agg #[.int .i64 k, .int .i64 n, .int .i64 a, .int .i64 c, .int .i64 h, .int .i64 t, .int .i64 i, .int .i64 p], .agg #[.int .i64 k2, .int .i64 n2, .int .i64 a2, .int .i64 c2, .int .i64 h2, .int .i64 t2, .int .i64 i2, .int .i64 p2], .int .i64 R1, .bool false, .bool false, .agg #[.int .i64 k, .int .i64 n, .int .i64 a, .int .i64 c, .int .i64 h, .int .i64 t, .int .i64 i, .int .i64 p], .agg #[.int .i64 k, .int .i64 n, .int .i64 a, .int .i64 c2, .int .i64 h2, .int .i64 t2, .int .i64 i2, .int .i64 p2], .int .i64 R2, .agg #[.int .i64 k, .int .i64 n, .int .i64 a, .int .i64 c, .int .i64 h, .int .i64 t, .int .i64 i, .int .i64 p], .agg #[.int .i64 k, .int .i64 n, .int .i64 a, .int .i64 c2, .int .i64 h2, .int .i64 t2, .int .i64 i2, .int .i64 p2], .int .i64 R2, .bool false, .bool false, .agg #[.int .i64 qc, .int .i64 qh, .int .i64 qt, .int .i64 qk, .int .i64 qi], .slice (some ⟨g13, 0, none⟩) 5 5, .agg #[.int .i64 qc, .int .i64 qh, .int .i64 qt, .int .i64 qk, .int .i64 qi], .agg #[.int .i64 qc2, .int .i64 qh2, .int .i64 qt2, .int .i64 qk2, .int .i64 qi2], .int .i64 S1, .slice (some ⟨g13, 0, none⟩) 5 5, .agg #[.int .i64 qc2, .int .i64 qh2, .int .i64 qt2, .int .i64 qk2, .int .i64 qi2], .slice (some ⟨g68, 0, none⟩) 5 5, .int .i64 S1, .bool true, .bool true, .agg #[.int .i64 qc, .int .i64 qh, .int .i64 qt, .int .i64 qk, .int .i64 qi], .agg #[.int .i64 qc, .int .i64 qh, .int .i64 qt, .int .i64 qk, .int .i64 qi], .int .i64 S2, .slice (some ⟨g13, 0, none⟩) 5 5, .agg #[.int .i64 qc, .int .i64 qh, .int .i64 qt, .int .i64 qk, .int .i64 qi], .slice (some ⟨g77, 0, none⟩) 5 5, .int .i64 S2, .bool true, .bool true, .bool true, .bool true, .bool true], []⟩ := act_ext hd hs (fun j hj => match j, hj with | 0, _ => (hlow 0 (by decide)).trans rfl | 1, _ => (hlow 1 (by decide)).trans rfl | 2, _ => (hlow 2 (by decide)).trans rfl | 3, _ => (hlow 3 (by decide)).trans rfl | 4, _ => (hlow 4 (by decide)).trans rfl | 5, _ => (hlow 5 (by decide)).trans rfl | 6, _ => (hlow 6 (by decide)).trans rfl | 7, _ => (hlow 7 (by decide)).trans rfl | 8, _ => (hlow 8 (by decide)).trans rfl | 9, _ => (hlow 9 (by decide)).trans rfl | 10, _ => RgX.val_at (hok 21 10 _ (by decide) rfl rfl) | 11, _ => (hlow 11 (by decide)).trans rfl | 12, _ => (hlow 12 (by decide)).trans rfl | 13, _ => (hlow 13 (by decide)).trans rfl | 14, _ => (hlow 14 (by decide)).trans rfl | 15, _ => (hlow 15 (by decide)).trans rfl | 16, _ => (hlow 16 (by decide)).trans rfl | 17, _ => (hlow 17 (by decide)).trans rfl | 18, _ => (hlow 18 (by decide)).trans rfl | 19, _ => (hlow 19 (by decide)).trans rfl | 20, _ => (hlow 20 (by decide)).trans rfl | 21, _ => (hlow 21 (by decide)).trans rfl | 22, _ => (hlow 22 (by decide)).trans rfl | 23, _ => (hlow 23 (by decide)).trans rfl | 24, _ => (hlow 24 (by decide)).trans rfl | 25, _ => (hlow 25 (by decide)).trans rfl | 26, _ => (hlow 26 (by decide)).trans rfl | 27, _ => (hlow 27 (by decide)).trans rfl | 28, _ => (hlow 28 (by decide)).trans rfl | 29, _ => (hlow 29 (by decide)).trans rfl | 30, _ => (hlow 30 (by decide)).trans rfl | 31, _ => (hlow 31 (by decide)).trans rfl | 32, _ => (hlow 32 (by decide)).trans rfl | 33, _ => (hlow 33 (by decide)).trans rfl | 34, _ => (hlow 34 (by decide)).trans rfl | 35, _ => (hlow 35 (by decide)).trans rfl | 36, _ => (hlow 36 (by decide)).trans rfl | 37, _ => (hlow 37 (by decide)).trans rfl | 38, _ => (hlow 38 (by decide)).trans rfl | 39, _ => (hlow 39 (by decide)).trans rfl | 40, _ => (hlow 40 (by decide)).trans rfl | 41, _ => (hlow 41 (by decide)).trans rfl | 42, _ => (hlow 42 (by decide)).trans rfl | 43, _ => (hlow 43 (by decide)).trans rfl | 44, _ => (hlow 44 (by decide)).trans rfl | 45, _ => (hlow 45 (by decide)).trans rfl | 46, _ => (hlow 46 (by decide)).trans rfl | 47, _ => (hlow 47 (by decide)).trans rfl | 48, _ => (hlow 48 (by decide)).trans rfl | 49, _ => (hlow 49 (by decide)).trans rfl | 50, _ => (hlow 50 (by decide)).trans rfl | 51, _ => (hlow 51 (by decide)).trans rfl | 52, _ => (hlow 52 (by decide)).trans rfl | 53, _ => (hlow 53 (by decide)).trans rfl | 54, _ => (hlow 54 (by decide)).trans rfl | 55, _ => (hlow 55 (by decide)).trans rfl | 56, _ => (hlow 56 (by decide)).trans rfl | 57, _ => (hlow 57 (by decide)).trans rfl | 58, _ => (hlow 58 (by decide)).trans rfl | 59, _ => (hlow 59 (by decide)).trans rfl | 60, _ => (hlow 60 (by decide)).trans rfl | 61, _ => (hlow 61 (by decide)).trans rfl | 62, _ => (hlow 62 (by decide)).trans rfl | 63, _ => RgX.val_at (hok 0 63 _ (by decide) rfl rfl) | 64, _ => RgX.val_at (hok 1 64 _ (by decide) rfl rfl) | 65, _ => RgX.val_at (hok 2 65 _ (by decide) rfl rfl) | 66, _ => RgX.val_at (hok 3 66 _ (by decide) rfl rfl) | 67, _ => RgX.val_at (hok 4 67 _ (by decide) rfl rfl) | 68, _ => hy68 | 69, _ => RgX.val_at (hok 6 69 _ (by decide) rfl rfl) | 70, _ => RgX.val_at (hok 7 70 _ (by decide) rfl rfl) | 71, _ => RgX.val_at (hok 8 71 _ (by decide) rfl rfl) | 72, _ => RgX.val_at (hok 9 72 _ (by decide) rfl rfl) | 73, _ => RgX.val_at (hok 10 73 _ (by decide) rfl rfl) | 74, _ => RgX.val_at (hok 11 74 _ (by decide) rfl rfl) | 75, _ => RgX.val_at (hok 12 75 _ (by decide) rfl rfl) | 76, _ => RgX.val_at (hok 13 76 _ (by decide) rfl rfl) | 77, _ => hy77 | 78, _ => RgX.val_at (hok 15 78 _ (by decide) rfl rfl) | 79, _ => RgX.val_at (hok 16 79 _ (by decide) rfl rfl) | 80, _ => RgX.val_at (hok 17 80 _ (by decide) rfl rfl) | 81, _ => RgX.val_at (hok 18 81 _ (by decide) rfl rfl) | 82, _ => RgX.val_at (hok 19 82 _ (by decide) rfl rfl) | 83, _ => RgX.val_at (hok 20 83 _ (by decide) rfl rfl) | n + 84, h => absurd h (by show ¬ n + 84 < 84; omega))
  clear hs hd hlow hok hy68 hy77
  go_wp2_with fail
  go_ret
  exact ⟨rfl, HB3.out.trans (hS.mono HB3.out.size)⟩
theorem walk (k n a c h t i p k2 n2 a2 c2 h2 t2 i2 p2 qc qh qt qk qi qc2 qh2 qt2 qk2 qi2 at_ : Int) (w : World) (wn : I64 at_) (hT : TN w) :
    Calls Tryd.prog 3 #[.agg #[.int .i64 k, .int .i64 n, .int .i64 a, .int .i64 c, .int .i64 h, .int .i64 t, .int .i64 i, .int .i64 p], .agg #[.int .i64 k2, .int .i64 n2, .int .i64 a2, .int .i64 c2, .int .i64 h2, .int .i64 t2, .int .i64 i2, .int .i64 p2], .agg #[.int .i64 qc, .int .i64 qh, .int .i64 qt, .int .i64 qk, .int .i64 qi], .agg #[.int .i64 qc2, .int .i64 qh2, .int .i64 qt2, .int .i64 qk2, .int .i64 qi2], .int .i64 at_] w fun e w' => e = .returned (.bool true) ∧ Below w.heap.size w w' := by
  have HL := Lib.hid (fun (V : World) (hV : Below w.heap.size w V) => lives_any V (hT.below hV))
  have HA := Lib.hid (fun V => around_any at_ 4 wn (by omega) (by omega) V)
  have ha := around_in at_ 4 (by omega)
  have hc : around at_ 4 = 0 ∨ around at_ 4 = 1 ∨ around at_ 4 = 2 ∨ around at_ 4 = 3 := by omega
  clear ha
  rcases hc with e | e | e | e <;> rw [e] at HA
  · exact walk_0 k n a c h t i p k2 n2 a2 c2 h2 t2 i2 p2 qc qh qt qk qi qc2 qh2 qt2 qk2 qi2 at_ _ _ _ _ w HA (Lib.hid (fun V => cmpEv_any ⟨k, n, a, ⟨c, h, t, i, p⟩⟩ ⟨k2, n2, a2, ⟨c2, h2, t2, i2, p2⟩⟩ V)) (Lib.hid (fun V => cmpEv_any ⟨k, n, a, ⟨c, h, t, i, p⟩⟩ ⟨k2, n, a, ⟨c, h, t, i, p⟩⟩ V)) (Lib.hid (fun V => cmpEvR_any k n a c h t i p k2 n2 a2 c2 h2 t2 i2 p2 V)) (Lib.hid (fun V => cmpEvR_any k n a c h t i p k2 n a c h t i p V)) (Lib.hid (fun V => cmpQue_any ⟨qc, qh, qt, qk, qi⟩ ⟨qc2, qh2, qt2, qk2, qi2⟩ V)) (Lib.hid (fun V => cmpQue_any ⟨qc, qh, qt, qk, qi⟩ ⟨qc, qh, qt, qk2, qi⟩ V)) (Lib.hid (fun (V : World) (g1 g2 : Nat) (k1 : V.heap[g1]? = some (.cells #[.int .i64 qc, .int .i64 qh, .int .i64 qt, .int .i64 qk, .int .i64 qi] 3 (0, 0))) (k2 : V.heap[g2]? = some (.cells #[.int .i64 qc2, .int .i64 qh2, .int .i64 qt2, .int .i64 qk2, .int .i64 qi2] 3 (0, 0))) => lists_any (n := 5) [qc, qh, qt, qk, qi] [qc2, qh2, qt2, qk2, qi2] V k1 k2 rfl rfl (by omega))) (Lib.hid (fun (V : World) (g1 g2 : Nat) (k1 : V.heap[g1]? = some (.cells #[.int .i64 qc, .int .i64 qh, .int .i64 qt, .int .i64 qk, .int .i64 qi] 3 (0, 0))) (k2 : V.heap[g2]? = some (.cells #[.int .i64 qc, .int .i64 qh, .int .i64 qt, .int .i64 qk2, .int .i64 qi] 3 (0, 0))) => lists_any (n := 5) [qc, qh, qt, qk, qi] [qc, qh, qt, qk2, qi] V k1 k2 rfl rfl (by omega))) HL
  · exact walk_1 k n a c h t i p k2 n2 a2 c2 h2 t2 i2 p2 qc qh qt qk qi qc2 qh2 qt2 qk2 qi2 at_ _ _ _ _ w HA (Lib.hid (fun V => cmpEv_any ⟨k, n, a, ⟨c, h, t, i, p⟩⟩ ⟨k2, n2, a2, ⟨c2, h2, t2, i2, p2⟩⟩ V)) (Lib.hid (fun V => cmpEv_any ⟨k, n, a, ⟨c, h, t, i, p⟩⟩ ⟨k, n2, a, ⟨c, h, t, i, p⟩⟩ V)) (Lib.hid (fun V => cmpEvR_any k n a c h t i p k2 n2 a2 c2 h2 t2 i2 p2 V)) (Lib.hid (fun V => cmpEvR_any k n a c h t i p k n2 a c h t i p V)) (Lib.hid (fun V => cmpQue_any ⟨qc, qh, qt, qk, qi⟩ ⟨qc2, qh2, qt2, qk2, qi2⟩ V)) (Lib.hid (fun V => cmpQue_any ⟨qc, qh, qt, qk, qi⟩ ⟨qc, qh, qt, qk, qi2⟩ V)) (Lib.hid (fun (V : World) (g1 g2 : Nat) (k1 : V.heap[g1]? = some (.cells #[.int .i64 qc, .int .i64 qh, .int .i64 qt, .int .i64 qk, .int .i64 qi] 3 (0, 0))) (k2 : V.heap[g2]? = some (.cells #[.int .i64 qc2, .int .i64 qh2, .int .i64 qt2, .int .i64 qk2, .int .i64 qi2] 3 (0, 0))) => lists_any (n := 5) [qc, qh, qt, qk, qi] [qc2, qh2, qt2, qk2, qi2] V k1 k2 rfl rfl (by omega))) (Lib.hid (fun (V : World) (g1 g2 : Nat) (k1 : V.heap[g1]? = some (.cells #[.int .i64 qc, .int .i64 qh, .int .i64 qt, .int .i64 qk, .int .i64 qi] 3 (0, 0))) (k2 : V.heap[g2]? = some (.cells #[.int .i64 qc, .int .i64 qh, .int .i64 qt, .int .i64 qk, .int .i64 qi2] 3 (0, 0))) => lists_any (n := 5) [qc, qh, qt, qk, qi] [qc, qh, qt, qk, qi2] V k1 k2 rfl rfl (by omega))) HL
  · exact walk_2 k n a c h t i p k2 n2 a2 c2 h2 t2 i2 p2 qc qh qt qk qi qc2 qh2 qt2 qk2 qi2 at_ _ _ _ _ w HA (Lib.hid (fun V => cmpEv_any ⟨k, n, a, ⟨c, h, t, i, p⟩⟩ ⟨k2, n2, a2, ⟨c2, h2, t2, i2, p2⟩⟩ V)) (Lib.hid (fun V => cmpEv_any ⟨k, n, a, ⟨c, h, t, i, p⟩⟩ ⟨k, n, a2, ⟨c, h, t, i, p⟩⟩ V)) (Lib.hid (fun V => cmpEvR_any k n a c h t i p k2 n2 a2 c2 h2 t2 i2 p2 V)) (Lib.hid (fun V => cmpEvR_any k n a c h t i p k n a2 c h t i p V)) (Lib.hid (fun V => cmpQue_any ⟨qc, qh, qt, qk, qi⟩ ⟨qc2, qh2, qt2, qk2, qi2⟩ V)) (Lib.hid (fun V => cmpQue_any ⟨qc, qh, qt, qk, qi⟩ ⟨qc2, qh2, qt2, qk, qi⟩ V)) (Lib.hid (fun (V : World) (g1 g2 : Nat) (k1 : V.heap[g1]? = some (.cells #[.int .i64 qc, .int .i64 qh, .int .i64 qt, .int .i64 qk, .int .i64 qi] 3 (0, 0))) (k2 : V.heap[g2]? = some (.cells #[.int .i64 qc2, .int .i64 qh2, .int .i64 qt2, .int .i64 qk2, .int .i64 qi2] 3 (0, 0))) => lists_any (n := 5) [qc, qh, qt, qk, qi] [qc2, qh2, qt2, qk2, qi2] V k1 k2 rfl rfl (by omega))) (Lib.hid (fun (V : World) (g1 g2 : Nat) (k1 : V.heap[g1]? = some (.cells #[.int .i64 qc, .int .i64 qh, .int .i64 qt, .int .i64 qk, .int .i64 qi] 3 (0, 0))) (k2 : V.heap[g2]? = some (.cells #[.int .i64 qc2, .int .i64 qh2, .int .i64 qt2, .int .i64 qk, .int .i64 qi] 3 (0, 0))) => lists_any (n := 5) [qc, qh, qt, qk, qi] [qc2, qh2, qt2, qk, qi] V k1 k2 rfl rfl (by omega))) HL
  · exact walk_3 k n a c h t i p k2 n2 a2 c2 h2 t2 i2 p2 qc qh qt qk qi qc2 qh2 qt2 qk2 qi2 at_ _ _ _ _ w HA (Lib.hid (fun V => cmpEv_any ⟨k, n, a, ⟨c, h, t, i, p⟩⟩ ⟨k2, n2, a2, ⟨c2, h2, t2, i2, p2⟩⟩ V)) (Lib.hid (fun V => cmpEv_any ⟨k, n, a, ⟨c, h, t, i, p⟩⟩ ⟨k, n, a, ⟨c2, h2, t2, i2, p2⟩⟩ V)) (Lib.hid (fun V => cmpEvR_any k n a c h t i p k2 n2 a2 c2 h2 t2 i2 p2 V)) (Lib.hid (fun V => cmpEvR_any k n a c h t i p k n a c2 h2 t2 i2 p2 V)) (Lib.hid (fun V => cmpQue_any ⟨qc, qh, qt, qk, qi⟩ ⟨qc2, qh2, qt2, qk2, qi2⟩ V)) (Lib.hid (fun V => cmpQue_any ⟨qc, qh, qt, qk, qi⟩ ⟨qc, qh, qt, qk, qi⟩ V)) (Lib.hid (fun (V : World) (g1 g2 : Nat) (k1 : V.heap[g1]? = some (.cells #[.int .i64 qc, .int .i64 qh, .int .i64 qt, .int .i64 qk, .int .i64 qi] 3 (0, 0))) (k2 : V.heap[g2]? = some (.cells #[.int .i64 qc2, .int .i64 qh2, .int .i64 qt2, .int .i64 qk2, .int .i64 qi2] 3 (0, 0))) => lists_any (n := 5) [qc, qh, qt, qk, qi] [qc2, qh2, qt2, qk2, qi2] V k1 k2 rfl rfl (by omega))) (Lib.hid (fun (V : World) (g1 g2 : Nat) (k1 : V.heap[g1]? = some (.cells #[.int .i64 qc, .int .i64 qh, .int .i64 qt, .int .i64 qk, .int .i64 qi] 3 (0, 0))) (k2 : V.heap[g2]? = some (.cells #[.int .i64 qc, .int .i64 qh, .int .i64 qt, .int .i64 qk, .int .i64 qi] 3 (0, 0))) => lists_any (n := 5) [qc, qh, qt, qk, qi] [qc, qh, qt, qk, qi] V k1 k2 rfl rfl (by omega))) HL
end Go.Proofs.YtggallpnbbidfaaDoor.LawNamesEvents
