/-
  The machine's push and pop. No condition but the lengths.
-/
import Derived.Test.YtgdefhlcgmibcaaVmP
namespace Go.Proofs.Ytgdefhlcgmibcaa
open Go Go.RowKit Go.Proofs
attribute [local go_sem] Oper.semAt_some

theorem row_ne {w : World} {t t' : TypeId} {sz sz' n m base base' : Nat} {vs us : List Value} {x y : Value} (h : w.ownsRow base t sz x n vs) (k : w.ownsRow base' t' sz' y m us) (hne : t ≠ t') : ∀ b, x.ownBlock = some b → y.ownBlock ≠ some b := fun b hb => by
  rcases k.2 with ⟨rfl, _⟩ | ⟨g, cap, cur, rfl, _, h2, _⟩
  · intro e; cases e
  · intro e
    injection e with e
    subst e
    exact ne_ty h h2 hne hb
theorem ty_im : 3 ≠ 78 := by decide
theorem ty_am : 63 ≠ 78 := by decide
theorem ty_ia : 3 ≠ 63 := by decide
/-- The machine, stored into: its rows stand. -/
theorem own_st {w w' : World} {g : Nat} {T : Array Value} {t : TypeId} {sz n base : Nat} {x : Value} {vs : List Value} (h : w.ownsRow base t sz x n vs) (hg : w.heap[g]? = some (.cells T 78 (0, 0))) (ho : ∀ b, b ≠ g → w'.heap[b]? = w.heap[b]?) (ht : t ≠ 78) : w'.ownsRow base t sz x n vs := own_other' h ho (ne_ty h hg ht)
theorem keepV_st {B : Nat} {w w' : World} {g : Nat} {T : Array Value} (hg : w.heap[g]? = some (.cells T 78 (0, 0))) (ho : ∀ b, b ≠ g → w'.heap[b]? = w.heap[b]?) (hb : Below g w w') (hB : B ≤ g) : KeepV B w w' := ⟨hb.mono hB, fun b C t hC _ _ h3 => ho b (fun e => by subst e; rw [hg] at hC; injection hC with hC; injection hC with _ hC; exact h3 hC.symm)⟩
set_option maxHeartbeats 1000000 in
set_option maxRecDepth 100000 in
theorem push_c {F : MFix} {B g : Nat} {s : VM.St} {w : World} (h : MAt F B w g s) (x : Int) (hl : s.stack.length < 100000) :
    Calls Try.prog 43 #[.pointer (some ⟨g, 0, none⟩), .int .i64 x] w fun e w' => (∃ v, e = .returned v) ∧ MAt F B w' g { s with stack := s.stack ++ [x] } ∧ KeepV B w w' := by
  obtain ⟨T, V, K, A, vc, kc, ac, h1, h2, h3, h4, h5, h6, h7⟩ := h
  obtain ⟨i0, hi, hy0, hy1, hy2⟩ := dk_info dk_int
  have hgw := blk_lt h1
  have hcK := mcell h1 h2.stack
  obtain ⟨Y, hY⟩ : ∃ Y, w.alloc (.cells #[.int .i64 x] 3) = Y := ⟨_, rfl⟩
  have hbY : Below w.heap.size w Y := hY ▸ dk_box w _
  have hzY : Y.heap.size = w.heap.size + 1 := by rw [← hY]; simp
  have HS := Lib.hid (show ∀ (i : Nat) (u : Value), [Value.int .i64 x][i]? = some u → Y.cell? ((⟨w.heap.size, 0, none⟩ : Addr).add i) = some u from fun i u hu => by
    match i, hu with
    | 0, hu => injection hu with hu; subst hu; rw [← hY]; exact cell_of_row _ _ 0 _ _ (0, 0) (dk_new_at rfl))
  have H1 := Lib.hid (show ∀ u ∈ [Value.int .i64 x], u.oneCell' = true by intro u hu; simp at hu; rw [hu]; rfl)
  obtain ⟨n, hn⟩ : ∃ n, s.stack.length = n := ⟨_, rfl⟩
  have HM := Lib.hid (And.intro (show n + 1 ≤ maxLen by simp only [maxLen]; omega) (show (n + 1) * 8 ≤ 140737488355328 by omega))
  have HO := Lib.hid (And.intro (dk_own_keep h4 hbY) (show B ≤ Y.heap.size by omega))
  rw [hn] at hcK HO h4 h7
  have HI := Lib.hid (And.intro hi (And.intro hy0 (And.intro hy1 hy2)))
  have hgY := (hbY.block g hgw).trans h1
  have HH := Lib.hid (And.intro h1 (And.intro h2 (And.intro (dk_own_keep h3 hbY) (And.intro (dk_own_keep h5 hbY) (And.intro h6 h7)))))
  have HN := Lib.hid hn
  have HY := Lib.hid (And.intro hbY hgY)
  have HG := Lib.hid (ne_ty HO.out.1 hgY ty_im)
  clear h1 h2 h3 h4 h5 h6 h7 hi hy0 hy1 hy2 hn hbY hgY
  have HT := Lib.hid (show ∀ (A : Option Addr) (m c : Nat), 36 + (Value.slice A m c).cells.size ≤ T.size ∧ (Try.prog.info? 22).map (·.size) = some (Value.slice A m c).cells.size ∧ (Value.slice A m c).cells.all (·.oneCell') = true ∧ T.setIfInBounds 36 (.slice A m c) = (T.toList.take 36 ++ (Value.slice A m c).cells.toList ++ T.toList.drop (36 + (Value.slice A m c).cells.size)).toArray from fun A m c => ⟨by have := HH.out.2.1.size; show 36 + 1 ≤ _; omega, vm_sz_ints, (by simp [Value.cells, Value.oneCell']), seg_one (T := T) (j := 36) rfl (by have := HH.out.2.1.size; omega)⟩)
  go_enter Try.func43, Try.ntmps43
  go_wp2_with (first | (at_builtin; refine wpList_append_own_at _ rfl _ _ 22 rfl B 3 i0 _ 1 8 Try.underlying22 HI.out.1 HI.out.2.1 HI.out.2.2.1 HI.out.2.2.2 rfl (by decide) _ n (DK.intsC s.stack) rfl HO.out.1 ⟨w.heap.size, 0, none⟩ 1 1 [.int .i64 x] rfl rfl HS.out H1.out HM.out.1 HM.out.2 HO.out.2 ?_; intro vv u2 ho2 hg2 _ hat2; obtain ⟨K2, kc2, rfl⟩ := dk_own_slice ho2; replace hg2 : Y.grownBy u2 (Value.slice K n kc).ownBlock := hg2; replace hat2 : (Value.slice K2 (n + 1) kc2).ownBlock = (Value.slice K n kc).ownBlock ∨ (Value.slice K2 (n + 1) kc2).ownBlock = some Y.heap.size := hat2; have HG2 := Lib.hid (And.intro (grown_blk HY.out.2 hg2 HG.out) (And.intro ho2 (And.intro hg2 hat2))); clear hg2 ho2 hat2) | (refine RgX.wpList_store_seg rfl 22 _ _ rfl g 36 (.slice K2 (n + 1) kc2) rfl rfl 78 T HG2.out.1 (HT.out _ _ _).2.1 (HT.out _ _ _).1 (HT.out _ _ _).2.2.1 (T.setIfInBounds 36 (.slice K2 (n + 1) kc2)) (HT.out _ _ _).2.2.2 ?_; intro u3 k3 o3 z3 b3; have H3 := Lib.hid (And.intro k3 (And.intro o3 (And.intro z3 b3))); clear k3 o3 z3 b3))
  go_end0
  obtain ⟨hg2b, ho2, hg2, hat2⟩ := HG2.out
  obtain ⟨k3, o3, z3, b3⟩ := H3.out
  obtain ⟨h1, h2, h3, h5, h6, h7⟩ := HH.out
  have hKV : KeepV B w u2 := (KeepV.of_below HY.out.1 (by omega)).trans (grown_keepV HO.out.1 hg2 HO.out.2 (.inl rfl))
  have hKV3 : KeepV B w u3 := hKV.trans (keepV_st hg2b o3 b3 h6)
  have v2 := own_st (grown_own h3 hg2 (fun b hb hc => h7 b hc hb)) hg2b o3 ty_im
  have a2 := own_st (grown_own h5 hg2 (row_ne HO.out.1 h5 ty_ia)) hg2b o3 ty_am
  have k2 := own_st ho2 hg2b o3 ty_im
  refine ⟨⟨_, rfl⟩, ⟨T.setIfInBounds 36 (.slice K2 (n + 1) kc2), V, K2, A, vc, kc2, ac, k3, ?_, v2, ?_, a2, h6, ?_⟩, hKV3⟩
  · have := h2.set_stack (.slice K2 (n + 1) kc2) (s.stack ++ [x])
    rw [show (s.stack ++ [x]).length = n + 1 by rw [List.length_append, HN.out]; rfl]
    exact this
  · rw [show (s.stack ++ [x]).length = n + 1 by rw [List.length_append, HN.out]; rfl, show DK.intsC (s.stack ++ [x]) = DK.intsC s.stack ++ [.int .i64 x] by unfold DK.intsC; simp]
    exact k2
  · intro b hb hc
    have hc : (Value.slice K2 (s.stack ++ [x]).length kc2).ownBlock = some b := hc
    rw [show (s.stack ++ [x]).length = n + 1 by rw [List.length_append, HN.out]; rfl] at hc
    rcases hat2 with e | e
    · exact h7 b hb (e.symm.trans hc)
    · have hlt := (World.ownsRow.lt h3 b hb).2
      rw [e] at hc
      injection hc with hc
      omega
end Go.Proofs.Ytgdefhlcgmibcaa
