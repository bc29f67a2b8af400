/-
  The walk of DiskFollows. No condition.
-/
import Derived.Test.YtgdefhlcgmibcaaVmN
import Derived.Test.YtgdefhlcgmibcaaDkR
namespace Go.Proofs.Ytgdefhlcgmibcaa.LawDiskFollows
open Go Go.RowKit Go.Proofs Go.Proofs.Ytgdefhlcgmibcaa
attribute [local go_sem] Oper.semAt_some

theorem prog_st {C : Array Value} {A : Value} (h : PrC C A) : (Try.prog.info? 53).map (·.size) = some (Value.agg C).cells.size ∧ 0 + (Value.agg C).cells.size ≤ (#[.slice none 0 0, .int .i64 0, .int .i64 0, .int .i64 0, .int .i64 0, .int .i64 0, .int .i64 0, .int .i64 0, .int .i64 0, .int .i64 0, .int .i64 0, .int .i64 0, .int .i64 0, .int .i64 0, .int .i64 0, .int .i64 0, .int .i64 0, .int .i64 0, .int .i64 0, .int .i64 0, .int .i64 0, .int .i64 0, .int .i64 0, .int .i64 0, .int .i64 0, .int .i64 0, .int .i64 0, .int .i64 0, .int .i64 0, .int .i64 0, .int .i64 0, .int .i64 0, .int .i64 0, .int .i64 0, .int .i64 0, .int .i64 0, .int .i64 0, .int .i64 0, .int .i64 0, .int .i64 0, .int .i64 0, .int .i64 0, .int .i64 0] : Array Value).size ∧ (Value.agg C).cells.all (·.oneCell') = true ∧ C = ((#[.slice none 0 0, .int .i64 0, .int .i64 0, .int .i64 0, .int .i64 0, .int .i64 0, .int .i64 0, .int .i64 0, .int .i64 0, .int .i64 0, .int .i64 0, .int .i64 0, .int .i64 0, .int .i64 0, .int .i64 0, .int .i64 0, .int .i64 0, .int .i64 0, .int .i64 0, .int .i64 0, .int .i64 0, .int .i64 0, .int .i64 0, .int .i64 0, .int .i64 0, .int .i64 0, .int .i64 0, .int .i64 0, .int .i64 0, .int .i64 0, .int .i64 0, .int .i64 0, .int .i64 0, .int .i64 0, .int .i64 0, .int .i64 0, .int .i64 0, .int .i64 0, .int .i64 0, .int .i64 0, .int .i64 0, .int .i64 0, .int .i64 0] : Array Value).toList.take 0 ++ (Value.agg C).cells.toList ++ (#[.slice none 0 0, .int .i64 0, .int .i64 0, .int .i64 0, .int .i64 0, .int .i64 0, .int .i64 0, .int .i64 0, .int .i64 0, .int .i64 0, .int .i64 0, .int .i64 0, .int .i64 0, .int .i64 0, .int .i64 0, .int .i64 0, .int .i64 0, .int .i64 0, .int .i64 0, .int .i64 0, .int .i64 0, .int .i64 0, .int .i64 0, .int .i64 0, .int .i64 0, .int .i64 0, .int .i64 0, .int .i64 0, .int .i64 0, .int .i64 0, .int .i64 0, .int .i64 0, .int .i64 0, .int .i64 0, .int .i64 0, .int .i64 0, .int .i64 0, .int .i64 0, .int .i64 0, .int .i64 0, .int .i64 0, .int .i64 0, .int .i64 0] : Array Value).toList.drop (0 + (Value.agg C).cells.size)).toArray := by
  refine ⟨by show _ = some C.size; rw [h.size]; exact sz_prog, by show 0 + C.size ≤ _; rw [h.size]; show 0 + 43 ≤ 43; omega, by show C.all _ = true; rw [Array.all_eq_true]; intro i hi; exact h.one _ (Array.getElem_mem hi), ?_⟩
  show C = ([] ++ C.toList ++ List.drop (0 + C.size) _).toArray
  rw [h.size]
  show C = ([] ++ C.toList ++ []).toArray
  simp
theorem acsC_at : ∀ (l : List VM.Ac) (k : Nat) (x : VM.Ac), l[k]? = some x → (VM.acsC l)[k * 5]? = some (.int .i64 x.k) ∧ (VM.acsC l)[k * 5 + 1]? = some (.int .i64 x.a) ∧ (VM.acsC l)[k * 5 + 2]? = some (.int .i64 x.b)
  | [], k, x, h => by simp at h
  | y :: l, 0, x, h => by
    simp at h
    subst h
    exact ⟨rfl, rfl, rfl⟩
  | y :: l, k + 1, x, h => by
    have ih := acsC_at l k x (by simpa using h)
    have e : VM.acsC (y :: l) = .int .i64 y.k :: .int .i64 y.a :: .int .i64 y.b :: .int .i64 y.c :: .int .i64 y.d :: VM.acsC l := rfl
    rw [e, show (k + 1) * 5 = k * 5 + 1 + 1 + 1 + 1 + 1 by omega]
    exact ⟨by simpa using ih.1, by simpa using ih.2.1, by simpa using ih.2.2⟩
theorem ac_cells {w : World} {B c : Nat} {A : Option Addr} {l : List VM.Ac} {j : Nat} {x : VM.Ac} (h : w.ownsRow B 63 5 (.slice A l.length c) l.length (VM.acsC l)) (hx : l[j]? = some x) : ∃ g, A = some ⟨g, 0, none⟩ ∧ g < w.heap.size ∧ w.cell? ⟨g, j * 5, none⟩ = some (.int .i64 x.k) ∧ w.cell? ⟨g, j * 5 + 1, none⟩ = some (.int .i64 x.a) ∧ w.cell? ⟨g, j * 5 + 2, none⟩ = some (.int .i64 x.b) := by
  have hj : j < l.length := (List.getElem?_eq_some_iff.1 hx).1
  obtain ⟨g, cur, rfl, _, hg, _, _, _, ht⟩ := own_cells h (by omega)
  obtain ⟨e0, e1, e2⟩ := acsC_at l j x hx
  have key : ∀ (i : Nat) (v : Value), i < l.length * 5 → (VM.acsC l)[i]? = some v → w.cell? ⟨g, i, none⟩ = some v := fun i v hi hv => by
    refine (cell_of_row w g i _ _ (0, 0) hg).trans ?_
    rw [← ht, List.getElem?_take_of_lt hi] at hv
    rw [← Array.getElem?_toList]
    exact hv
  exact ⟨g, rfl, blk_lt hg, key _ _ (by omega) e0, key _ _ (by omega) e1, key _ _ (by omega) e2⟩
theorem wr_step {l : List VM.Ac} {j : Nat} {x : VM.Ac} (hx : l[j]? = some x) : VM.wrOf (l.take (j + 1)) = VM.wrOf (l.take j) ++ (if x.k = 1 then [(x.a, x.b)] else []) := by
  rw [List.take_add_one, hx, VM.wrOf_app]
  congr 1
  unfold VM.wrOf
  by_cases h : x.k = 1
  · simp [h]
  · simp [h]
theorem app_last : ∀ n : Nat, DK.app [0] (VM.wrsOf n) = [(n : Int)]
  | 0 => rfl
  | n + 1 => by
    rw [VM.wrsOf_succ, DK.app_append, app_last n]
    rfl
theorem view_end (n : Nat) : DK.view (DK.queue 1 (VM.wrsOf n)) = [(n : Int)] := by
  rw [DK.queue_eq (k := 1) (fun x hx => by
    unfold VM.wrsOf at hx
    obtain ⟨k, _, rfl⟩ := List.mem_map.1 hx
    exact ⟨Int.le_refl _, by show (0 : Int) < ((1 : Nat) : Int); omega⟩)]
  show DK.app (DK.app _ _) _ = _
  rw [← DK.app_append, List.take_append_drop]
  exact app_last n
set_option maxHeartbeats 1000000 in
set_option maxRecDepth 100000 in
theorem walk (a0 a1 : Int) (w : World) (w0 : (Lit.int .i64 a0).wf = true) (w1 : (Lit.int .i64 a1).wf = true) :
    Calls Try.prog 10 #[.int .i64 a0, .int .i64 a1] w fun e w' => e = .returned (.bool true) ∧ Below w.heap.size w w' := by
  have hc0 : I64 a0 := by have := bounds_i64 w0; unfold I64; omega
  have hc1 : I64 a1 := by have := bounds_i64 w1; unfold I64; omega
  obtain ⟨n, hn⟩ : ∃ n : Nat, around a0 31 = (n : Int) := ⟨_, (Int.toNat_of_nonneg (around_in a0 31 (by omega)).1).symm⟩
  have hn30 : n ≤ 30 := by have := (around_in a0 31 (by omega)).2; omega
  have HA := Lib.hid (fun V => around_any a0 31 hc0 (by omega) (by omega) V)
  rw [hn] at HA
  have HB := Lib.hid (fun V => around_any a1 3 hc1 (by omega) (by omega) V)
  obtain ⟨d, hd⟩ : ∃ d, around a1 3 = d := ⟨_, rfl⟩
  rw [hd] at HB
  clear hc0 hc1 hn hd w0 w1
  go_enter Try.func10, Try.ntmps10
  go_upto_region 2 with (first | (go_at_call 11; refine (HA.out _).mono ?_; rintro e v1 ⟨rfl, rfl⟩; clear HA) | (go_at_call 11; refine (HB.out _).mono ?_; rintro e v1 ⟨rfl, rfl⟩; clear HB) | (go_at_call 28; refine (busy_c n d _).mono ?_; rintro e w1 ⟨⟨b, C, rfl, hC, hb⟩, hb1⟩; have H1 := Lib.hid (And.intro hC (And.intro hb (And.intro hb1 (prog_st hC)))); clear hC hb hb1; obtain ⟨U, hU⟩ : ∃ U, w1.alloc (.cells #[.slice none 0 0, .int .i64 0, .int .i64 0, .int .i64 0, .int .i64 0, .int .i64 0, .int .i64 0, .int .i64 0, .int .i64 0, .int .i64 0, .int .i64 0, .int .i64 0, .int .i64 0, .int .i64 0, .int .i64 0, .int .i64 0, .int .i64 0, .int .i64 0, .int .i64 0, .int .i64 0, .int .i64 0, .int .i64 0, .int .i64 0, .int .i64 0, .int .i64 0, .int .i64 0, .int .i64 0, .int .i64 0, .int .i64 0, .int .i64 0, .int .i64 0, .int .i64 0, .int .i64 0, .int .i64 0, .int .i64 0, .int .i64 0, .int .i64 0, .int .i64 0, .int .i64 0, .int .i64 0, .int .i64 0, .int .i64 0, .int .i64 0] 53) = U := ⟨_, rfl⟩; have HU := Lib.hid (And.intro (show U.heap[w1.heap.size]? = some (.cells #[.slice none 0 0, .int .i64 0, .int .i64 0, .int .i64 0, .int .i64 0, .int .i64 0, .int .i64 0, .int .i64 0, .int .i64 0, .int .i64 0, .int .i64 0, .int .i64 0, .int .i64 0, .int .i64 0, .int .i64 0, .int .i64 0, .int .i64 0, .int .i64 0, .int .i64 0, .int .i64 0, .int .i64 0, .int .i64 0, .int .i64 0, .int .i64 0, .int .i64 0, .int .i64 0, .int .i64 0, .int .i64 0, .int .i64 0, .int .i64 0, .int .i64 0, .int .i64 0, .int .i64 0, .int .i64 0, .int .i64 0, .int .i64 0, .int .i64 0, .int .i64 0, .int .i64 0, .int .i64 0, .int .i64 0, .int .i64 0, .int .i64 0] 53 (0, 0)) from hU ▸ dk_new_at rfl) (show Below w1.heap.size w1 U from hU ▸ dk_box w1 _))) | (refine RgX.wpList_store_seg rfl 53 _ _ rfl w1.heap.size 0 (.agg C) rfl rfl 53 #[.slice none 0 0, .int .i64 0, .int .i64 0, .int .i64 0, .int .i64 0, .int .i64 0, .int .i64 0, .int .i64 0, .int .i64 0, .int .i64 0, .int .i64 0, .int .i64 0, .int .i64 0, .int .i64 0, .int .i64 0, .int .i64 0, .int .i64 0, .int .i64 0, .int .i64 0, .int .i64 0, .int .i64 0, .int .i64 0, .int .i64 0, .int .i64 0, .int .i64 0, .int .i64 0, .int .i64 0, .int .i64 0, .int .i64 0, .int .i64 0, .int .i64 0, .int .i64 0, .int .i64 0, .int .i64 0, .int .i64 0, .int .i64 0, .int .i64 0, .int .i64 0, .int .i64 0, .int .i64 0, .int .i64 0, .int .i64 0, .int .i64 0] HU.out.1 H1.out.2.2.2.1 H1.out.2.2.2.2.1 H1.out.2.2.2.2.2.1 C H1.out.2.2.2.2.2.2 ?_; intro v2 k2 ho2 hz2 hb2))
  have H2 := Lib.hid (And.intro k2 (And.intro ((ho2 b (fun e => by have := blk_lt H1.out.2.1; omega)).trans ((HU.out.2.block b (blk_lt H1.out.2.1)).trans H1.out.2.1)) (H1.out.2.2.1.trans ((HU.out.2.trans hb2).mono H1.out.2.2.1.size))))
  have hz : w1.heap.size < v2.heap.size := blk_lt k2
  clear k2 ho2 hz2 hb2 hU HU
  go_upto_region 4 with fail
  obtain ⟨X, hX⟩ : ∃ X, v2.alloc (.cells #[.int .i64 0, .int .i64 2, .int .i64 0, .int .i64 0, .int .i64 0, .int .i64 0, .int .i64 0, .int .i64 0, .int .i64 0] 55) = X := ⟨_, rfl⟩
  have hbX : Below v2.heap.size v2 X := hX ▸ dk_box v2 _
  have hzX : X.heap.size = v2.heap.size + 1 := by rw [← hX]; simp
  have kX : X.heap[v2.heap.size]? = some (.cells #[.int .i64 0, .int .i64 2, .int .i64 0, .int .i64 0, .int .i64 0, .int .i64 0, .int .i64 0, .int .i64 0, .int .i64 0] 55 (0, 0)) := by rw [← hX]; exact dk_new_at rfl
  rw [hX]
  obtain ⟨Y, hY⟩ : ∃ Y, X.alloc (.cells #[.int .i64 0] 3) = Y := ⟨_, rfl⟩
  have hbY : Below X.heap.size X Y := hY ▸ dk_box X _
  have hbXY : Below v2.heap.size v2 Y := hbX.trans (hbY.mono (by omega))
  have kXC := (hbX.block _ (blk_lt H2.out.1)).trans H2.out.1
  have HY := Lib.hid (And.intro kXC (And.intro ((hbY.block _ (blk_lt kX)).trans kX) (And.intro (show (Try.prog.info? 53).map (·.size) = some C.size by rw [H1.out.1.size]; exact sz_prog) (show (Try.prog.info? 55).map (·.size) = some (#[.int .i64 0, .int .i64 2, .int .i64 0, .int .i64 0, .int .i64 0, .int .i64 0, .int .i64 0, .int .i64 0, .int .i64 0] : Array Value).size by kernel_rfl))))
  have HR := Lib.hid (vmRun_c C b X.heap.size n d H1.out.1 Y ((hbXY.block b (blk_lt H2.out.2.1)).trans H2.out.2.1) (by rw [← hY]; exact dk_new_at rfl) hn30)
  have HW := Lib.hid (H2.out.2.2.trans (hbXY.mono H2.out.2.2.size))
  clear hbX hzX kX hX hbY hbXY kXC
  go_upto_region 5 with (first | (refine wpList_load_row rfl 53 _ rfl w1.heap.size rfl 53 C (0, 0) _ HY.out.1 Try.underlying53 rfl HY.out.2.2.1 ?_) | (refine wpList_load_row rfl 55 _ rfl v2.heap.size rfl 55 #[.int .i64 0, .int .i64 2, .int .i64 0, .int .i64 0, .int .i64 0, .int .i64 0, .int .i64 0, .int .i64 0, .int .i64 0] (0, 0) _ HY.out.2.1 Try.underlying55 rfl HY.out.2.2.2 ?_) | (go_at_call 29; refine HR.out.mono ?_; rintro e v5 ⟨⟨v, rfl, hR⟩, hb5⟩; obtain ⟨V, A, D, vc, ac, m, dc, st, acts, rfl, o51, o52, hw5, hl5⟩ := hR; have H5 := Lib.hid (And.intro o51 (And.intro o52 (And.intro hw5 (And.intro hl5 (HW.out.trans (hb5.mono HW.out.size)))))); clear o51 o52 hw5 hl5 hb5) | (refine RgX.wpList_store_seg rfl 58 _ _ rfl v5.heap.size 0 (.agg #[.slice V 1 vc, .slice A acts.length ac, .int .i64 st, .bool false, .slice D m dc]) rfl rfl 58 _ (dk_new_at rfl) vm_sz_out (by show 0 + 5 ≤ 5; omega) (by simp [Value.cells, Value.oneCell']) #[.slice V 1 vc, .slice A acts.length ac, .int .i64 st, .bool false, .slice D m dc] rfl ?_; intro v6 k6 ho6 hz6 hb6))
  have hb56 : Below v5.heap.size v5 v6 := (dk_box v5 _).trans hb6
  have H6 := Lib.hid (And.intro k6 (And.intro (dk_own_keep H5.out.1 hb56) (And.intro (dk_own_keep H5.out.2.1 hb56) (H5.out.2.2.2.2.trans (hb56.mono H5.out.2.2.2.2.size)))))
  have HA := Lib.hid (And.intro H5.out.2.2.1 H5.out.2.2.2.1)
  have hz56 : v5.heap.size < v6.heap.size := blk_lt k6
  have HNW := Lib.hid (new_any 1 (by omega) v6)
  clear k6 ho6 hz6 hb6 hb56 H5 HR HW HY H2 H1 hY
  go_upto_region 6 with (first | (go_at_call 12; refine HNW.out.mono ?_; rintro e v7 ⟨⟨y, rfl, A2, n2, c2, P2, m2, q2, rfl, j1, j2⟩, hb7⟩; have HJ := Lib.hid (And.intro (show DkAt 0 v7 (.agg #[.slice A2 n2 c2, .slice P2 m2 q2]) (DK.new 1) from ⟨A2, n2, c2, P2, m2, q2, rfl, j1.more (Nat.zero_le _), j2.more (Nat.zero_le _)⟩) hb7); clear j1 j2 hb7) | (refine dk_store rfl _ _ rfl v7.heap.size A2 n2 c2 P2 m2 q2 _ _ rfl rfl (dk_new_at rfl) ?_; intro v8 k8 ho8 hz8 hb8))
  have hb78 : Below v7.heap.size v7 v8 := (dk_box v7 _).trans hb8
  have hb68 := HJ.out.2.trans (hb78.mono HJ.out.2.size)
  have H8 := Lib.hid (And.intro k8 (And.intro (HJ.out.1.keep hb78) (And.intro ((hb68.block _ (blk_lt H6.out.1)).trans H6.out.1) (And.intro (dk_own_keep H6.out.2.1 hb68) (And.intro (dk_own_keep H6.out.2.2.1 hb68) (H6.out.2.2.2.trans (hb68.mono H6.out.2.2.2.size)))))))
  have hlt : v5.heap.size < v7.heap.size := by have := HJ.out.2.size; omega
  have hwl : w.heap.size ≤ v7.heap.size := by have := H6.out.2.2.2.size; have := HJ.out.2.size; omega
  clear k8 ho8 hz8 hb8 hb78 hb68 HNW HJ H6
  go_wp2_with fail
  go_loopw [9] (fun i W => ∃ (j : Nat) (A2 P2 : Option Addr) (n2 c2 m2 q2 : Nat), j ≤ acts.length ∧ i = .int .i64 (j : Int) ∧ Hid (W.heap[v7.heap.size]? = some (.cells #[.slice A2 n2 c2, .slice P2 m2 q2] 26 (0, 0))) ∧ Hid (DkAt 0 W (.agg #[.slice A2 n2 c2, .slice P2 m2 q2]) (DK.queue 1 (VM.wrOf (acts.take j)))) ∧ Hid (W.heap[v5.heap.size]? = some (.cells #[.slice V 1 vc, .slice A acts.length ac, .int .i64 st, .bool false, .slice D m dc] 58 (0, 0))) ∧ Hid (W.ownsRow Y.heap.size 3 1 (.slice V 1 vc) 1 (DK.intsC [(n : Int)])) ∧ Hid (W.ownsRow Y.heap.size 63 5 (.slice A acts.length ac) acts.length (VM.acsC acts)) ∧ Hid (Below w.heap.size w W)) (fun i _ => acts.length - (intOf i).toNat)
  case atStart => exact ⟨0, A2, P2, n2, c2, m2, q2, by omega, rfl, H8.out.1, H8.out.2.1, H8.out.2.2.1, H8.out.2.2.2.1, H8.out.2.2.2.2.1, H8.out.2.2.2.2.2⟩
  case round =>
    clear H8
    obtain ⟨j, Ad, Pd, nn, cd, mm, qd, hj, rfl, HD1, HD2, HO, HV, HT, HB⟩ := hrel
    have HQ := Lib.hid (fun i => And.intro (DK.queue_len 1 (VM.wrOf (acts.take i))) (DK.queue_ok 1 (by omega) (VM.wrOf (acts.take i))))
    by_cases hin : j < acts.length
    · have dj : decide (j < acts.length) = true := decide_eq_true hin
      obtain ⟨x, hx⟩ : ∃ x, acts[j]? = some x := ⟨_, List.getElem?_eq_getElem hin⟩
      obtain ⟨ga, rfl, hga, c0, c1, c2⟩ := ac_cells HT.out hx
      have ce1 := cell_of_row _ _ 1 _ _ (0, 0) HO.out
      simp at ce1
      have hst := wr_step hx
      have hji : (j : Int) < (acts.length : Int) := by omega
      have hl500 := HA.out.2
      clear hx
      by_cases hk : x.k = 1
      · rw [hk] at c0
        rw [if_pos hk] at hst
        have HST := Lib.hid (show DK.write (DK.queue 1 (VM.wrOf (acts.take j))) x.a x.b = DK.queue 1 (VM.wrOf (acts.take (j + 1))) by rw [hst, DK.queue_snoc])
        have HCC := Lib.hid (fun (V3 : World) (h : Below wr.heap.size wr V3) => And.intro ((h.cell (p := ⟨ga, j * 5 + 1, none⟩) hga).trans c1) ((h.cell (p := ⟨ga, j * 5 + 2, none⟩) hga).trans c2))
        clear hst hk
        go_upto_region 10 with fail
        clear c1 c2
        refine RgX.tail 14 (fun i => ( 36 + i)) (fun ix_ => match ix_ with | 0 => .v (.agg #[.slice Ad nn cd, .slice Pd mm qd]) | 1 => .v (.pointer (some ⟨v5.heap.size, 1, none⟩)) | 2 => .v (.slice (some ⟨ga, 0, none⟩) acts.length ac) | 3 => .v (.int .i64 (j : Int)) | 4 => .v (.pointer (some ⟨ga, j * 5, none⟩)) | 5 => .v (.pointer (some ⟨ga, j * 5 + 1, none⟩)) | 6 => .v (.int .i64 x.a) | 7 => .v (.pointer (some ⟨v5.heap.size, 1, none⟩)) | 8 => .v (.slice (some ⟨ga, 0, none⟩) acts.length ac) | 9 => .v (.int .i64 (j : Int)) | 10 => .v (.pointer (some ⟨ga, j * 5, none⟩)) | 11 => .v (.pointer (some ⟨ga, j * 5 + 2, none⟩)) | 12 => .v (.int .i64 x.b) | 13 => .dkv wr.heap.size (DK.write (DK.queue 1 (VM.wrOf (acts.take j))) x.a x.b) | _ => .any) _ (by kernel_rfl) rfl rfl (by kernel_rfl) (by kernel_rfl) (fun i hi => by show ( 36 + i) < 64; (repeat' split) <;> omega) (fun i j hi hj => by show ( 36 + i) = ( 36 + j) → i = j; (repeat' split) <;> omega) ?step ?fin
        case step =>
          intro L_ A_ w3 ix op_ hi hI ho hdep
          have hcase : ix = 0 ∨ ix = 1 ∨ ix = 2 ∨ ix = 3 ∨ ix = 4 ∨ ix = 5 ∨ ix = 6 ∨ ix = 7 ∨ ix = 8 ∨ ix = 9 ∨ ix = 10 ∨ ix = 11 ∨ ix = 12 ∨ ix = 13 := by omega
          have hh := hI.held
          clear hi
          rcases hcase with rfl | rfl | rfl | rfl | rfl | rfl | rfl | rfl | rfl | rfl | rfl | rfl | rfl | rfl
          · simp only [List.getElem?_toArray, List.getElem?_cons_zero, Option.some.injEq] at ho
            subst ho
            refine ⟨rfl, ?_⟩
            have e8 : A_.tmps[8]?.getD undef = .pointer (some ⟨v7.heap.size, 0, none⟩) := by rw [hI.low 8 (by decide)]; rfl
            clear hI hdep
            obtain ⟨d0, d1⟩ := dk_two ((hh.block _ (blk_lt HD1.out)).trans HD1.out); have d2 := cell_of_row _ _ 1 _ _ (0, 0) ((hh.block _ (blk_lt HO.out)).trans HO.out); simp at d2
            exact .run rfl (.agg #[.slice Ad nn cd, .slice Pd mm qd]) w3 (by simp [execOp, go_sem, Act.eval, *]) (Below.refl _ _) rfl
          · simp only [List.getElem?_toArray, List.getElem?_cons_succ, List.getElem?_cons_zero, Option.some.injEq] at ho
            subst ho
            refine ⟨rfl, ?_⟩
            have e7 : A_.tmps[7]?.getD undef = .pointer (some ⟨v5.heap.size, 0, none⟩) := by rw [hI.low 7 (by decide)]; rfl
            clear hI hdep
            exact .run rfl (.pointer (some ⟨v5.heap.size, 1, none⟩)) w3 (by simp [execOp, go_sem, Act.eval, e7]) (Below.refl _ _) rfl
          · simp only [List.getElem?_toArray, List.getElem?_cons_succ, List.getElem?_cons_zero, Option.some.injEq] at ho
            subst ho
            refine ⟨rfl, ?_⟩
            have e37 : A_.tmps[37]?.getD undef = .pointer (some ⟨v5.heap.size, 1, none⟩) := getD_of (hI.val_ (i := 1) rfl rfl (by decide) (hdep ⟨1, .data⟩ (by simp) rfl))
            clear hI hdep
            obtain ⟨d0, d1⟩ := dk_two ((hh.block _ (blk_lt HD1.out)).trans HD1.out); have d2 := cell_of_row _ _ 1 _ _ (0, 0) ((hh.block _ (blk_lt HO.out)).trans HO.out); simp at d2
            exact .run rfl (.slice (some ⟨ga, 0, none⟩) acts.length ac) w3 (by simp [execOp, go_sem, Act.eval, *]) (Below.refl _ _) rfl
          · simp only [List.getElem?_toArray, List.getElem?_cons_succ, List.getElem?_cons_zero, Option.some.injEq] at ho
            subst ho
            refine ⟨rfl, ?_⟩
            have e9 : A_.tmps[9]?.getD undef = .int .i64 (j : Int) := by rw [hI.low 9 (by decide)]; rfl
            clear hI hdep
            exact .run rfl (.int .i64 (j : Int)) w3 (by simp [execOp, go_sem, Act.eval, e9]) (Below.refl _ _) rfl
          · simp only [List.getElem?_toArray, List.getElem?_cons_succ, List.getElem?_cons_zero, Option.some.injEq] at ho
            subst ho
            refine ⟨rfl, ?_⟩
            have e38 : A_.tmps[38]?.getD undef = .slice (some ⟨ga, 0, none⟩) acts.length ac := getD_of (hI.val_ (i := 2) rfl rfl (by decide) (hdep ⟨2, .data⟩ (by simp) rfl))
            have e39 : A_.tmps[39]?.getD undef = .int .i64 (j : Int) := getD_of (hI.val_ (i := 3) rfl rfl (by decide) (hdep ⟨3, .data⟩ (by simp) rfl))
            clear hI hdep
            exact .run rfl (.pointer (some ⟨ga, j * 5, none⟩)) w3 (by simp [execOp, go_sem, Act.eval, e38, e39, hji]) (Below.refl _ _) rfl
          · simp only [List.getElem?_toArray, List.getElem?_cons_succ, List.getElem?_cons_zero, Option.some.injEq] at ho
            subst ho
            refine ⟨rfl, ?_⟩
            have e40 : A_.tmps[40]?.getD undef = .pointer (some ⟨ga, j * 5, none⟩) := getD_of (hI.val_ (i := 4) rfl rfl (by decide) (hdep ⟨4, .data⟩ (by simp) rfl))
            clear hI hdep
            exact .run rfl (.pointer (some ⟨ga, j * 5 + 1, none⟩)) w3 (by simp [execOp, go_sem, Act.eval, e40]) (Below.refl _ _) rfl
          · simp only [List.getElem?_toArray, List.getElem?_cons_succ, List.getElem?_cons_zero, Option.some.injEq] at ho
            subst ho
            refine ⟨rfl, ?_⟩
            have e41 : A_.tmps[41]?.getD undef = .pointer (some ⟨ga, j * 5 + 1, none⟩) := getD_of (hI.val_ (i := 5) rfl rfl (by decide) (hdep ⟨5, .data⟩ (by simp) rfl))
            clear hI hdep
            have c9 := (HCC.out w3 hh).1
            exact .run rfl (.int .i64 x.a) w3 (by simp [execOp, go_sem, Act.eval, e41, c9]) (Below.refl _ _) rfl
          · simp only [List.getElem?_toArray, List.getElem?_cons_succ, List.getElem?_cons_zero, Option.some.injEq] at ho
            subst ho
            refine ⟨rfl, ?_⟩
            have e7 : A_.tmps[7]?.getD undef = .pointer (some ⟨v5.heap.size, 0, none⟩) := by rw [hI.low 7 (by decide)]; rfl
            clear hI hdep
            exact .run rfl (.pointer (some ⟨v5.heap.size, 1, none⟩)) w3 (by simp [execOp, go_sem, Act.eval, e7]) (Below.refl _ _) rfl
          · simp only [List.getElem?_toArray, List.getElem?_cons_succ, List.getElem?_cons_zero, Option.some.injEq] at ho
            subst ho
            refine ⟨rfl, ?_⟩
            have e43 : A_.tmps[43]?.getD undef = .pointer (some ⟨v5.heap.size, 1, none⟩) := getD_of (hI.val_ (i := 7) rfl rfl (by decide) (hdep ⟨7, .data⟩ (by simp) rfl))
            clear hI hdep
            obtain ⟨d0, d1⟩ := dk_two ((hh.block _ (blk_lt HD1.out)).trans HD1.out); have d2 := cell_of_row _ _ 1 _ _ (0, 0) ((hh.block _ (blk_lt HO.out)).trans HO.out); simp at d2
            exact .run rfl (.slice (some ⟨ga, 0, none⟩) acts.length ac) w3 (by simp [execOp, go_sem, Act.eval, *]) (Below.refl _ _) rfl
          · simp only [List.getElem?_toArray, List.getElem?_cons_succ, List.getElem?_cons_zero, Option.some.injEq] at ho
            subst ho
            refine ⟨rfl, ?_⟩
            have e9 : A_.tmps[9]?.getD undef = .int .i64 (j : Int) := by rw [hI.low 9 (by decide)]; rfl
            clear hI hdep
            exact .run rfl (.int .i64 (j : Int)) w3 (by simp [execOp, go_sem, Act.eval, e9]) (Below.refl _ _) rfl
          · simp only [List.getElem?_toArray, List.getElem?_cons_succ, List.getElem?_cons_zero, Option.some.injEq] at ho
            subst ho
            refine ⟨rfl, ?_⟩
            have e44 : A_.tmps[44]?.getD undef = .slice (some ⟨ga, 0, none⟩) acts.length ac := getD_of (hI.val_ (i := 8) rfl rfl (by decide) (hdep ⟨8, .data⟩ (by simp) rfl))
            have e45 : A_.tmps[45]?.getD undef = .int .i64 (j : Int) := getD_of (hI.val_ (i := 9) rfl rfl (by decide) (hdep ⟨9, .data⟩ (by simp) rfl))
            clear hI hdep
            exact .run rfl (.pointer (some ⟨ga, j * 5, none⟩)) w3 (by simp [execOp, go_sem, Act.eval, e44, e45, hji]) (Below.refl _ _) rfl
          · simp only [List.getElem?_toArray, List.getElem?_cons_succ, List.getElem?_cons_zero, Option.some.injEq] at ho
            subst ho
            refine ⟨rfl, ?_⟩
            have e46 : A_.tmps[46]?.getD undef = .pointer (some ⟨ga, j * 5, none⟩) := getD_of (hI.val_ (i := 10) rfl rfl (by decide) (hdep ⟨10, .data⟩ (by simp) rfl))
            clear hI hdep
            exact .run rfl (.pointer (some ⟨ga, j * 5 + 2, none⟩)) w3 (by simp [execOp, go_sem, Act.eval, e46]) (Below.refl _ _) rfl
          · simp only [List.getElem?_toArray, List.getElem?_cons_succ, List.getElem?_cons_zero, Option.some.injEq] at ho
            subst ho
            refine ⟨rfl, ?_⟩
            have e47 : A_.tmps[47]?.getD undef = .pointer (some ⟨ga, j * 5 + 2, none⟩) := getD_of (hI.val_ (i := 11) rfl rfl (by decide) (hdep ⟨11, .data⟩ (by simp) rfl))
            clear hI hdep
            have c9 := (HCC.out w3 hh).2
            exact .run rfl (.int .i64 x.b) w3 (by simp [execOp, go_sem, Act.eval, e47, c9]) (Below.refl _ _) rfl
          · simp only [List.getElem?_toArray, List.getElem?_cons_succ, List.getElem?_cons_zero, Option.some.injEq] at ho
            subst ho
            refine ⟨rfl, ?_⟩
            have e36 : A_.tmps[36]?.getD undef = .agg #[.slice Ad nn cd, .slice Pd mm qd] := getD_of (hI.val_ (i := 0) rfl rfl (by decide) (hdep ⟨0, .data⟩ (by simp) rfl))
            have e42 : A_.tmps[42]?.getD undef = .int .i64 x.a := getD_of (hI.val_ (i := 6) rfl rfl (by decide) (hdep ⟨6, .data⟩ (by simp) rfl))
            have e48 : A_.tmps[48]?.getD undef = .int .i64 x.b := getD_of (hI.val_ (i := 12) rfl rfl (by decide) (hdep ⟨12, .data⟩ (by simp) rfl))
            clear hI hdep
            exact .call rfl 23 #[.agg #[.slice Ad nn cd, .slice Pd mm qd], .int .i64 x.a, .int .i64 x.b] (by simp [go_sem, Act.eval, e36, e42, e48]) (RgX.dkv_calls (write_any x.a x.b w3 (HD2.out.keep hh) (by rw [(HQ.out j).1]; omega) (by have := (HQ.out j).2.pend; omega)) hh.size)
        case fin =>
        intro A_ w3 hs hd hlow hS hok
        obtain ⟨_, hy49, A49, n49, c49, P49, m49, q49, rfl, h49, k49⟩ := hok 13 49 _ (by decide) rfl rfl
        obtain rfl : A_ = ⟨#[.int .i64 a0, .int .i64 a1, undef, undef, .bool false, .pointer (some ⟨w1.heap.size, 0, none⟩), .pointer (some ⟨v2.heap.size, 0, none⟩), .pointer (some ⟨v5.heap.size, 0, none⟩), .pointer (some ⟨v7.heap.size, 0, none⟩), .int .i64 (j : Int), .int .i64 a0, .int .i64 (n : Int), .int .i64 a1, .int .i64 d, .agg C, .pointer (some ⟨v2.heap.size, 1, none⟩), .agg C, .slice (some ⟨X.heap.size, 0, none⟩) 1 1, .agg #[.int .i64 0, .int .i64 2, .int .i64 0, .int .i64 0, .int .i64 0, .int .i64 0, .int .i64 0, .int .i64 0, .int .i64 0], .agg #[.slice (some ⟨X.heap.size, 0, none⟩) 1 1, .int .i64 0, .int .i64 2, .int .i64 0, .int .i64 0, .int .i64 0, .int .i64 0, .int .i64 0, .int .i64 0, .int .i64 0], .agg #[.slice V 1 vc, .slice (some ⟨ga, 0, none⟩) acts.length ac, .int .i64 st, .bool false, .slice D m dc], .agg #[.slice A2 n2 c2, .slice P2 m2 q2], .int .i64 (j : Int), .pointer (some ⟨v5.heap.size, 1, none⟩), .slice (some ⟨ga, 0, none⟩) acts.length ac, .int .i64 (acts.length : Int), .bool true, u27, u28, .pointer (some ⟨v5.heap.size, 1, none⟩), .slice (some ⟨ga, 0, none⟩) acts.length ac, .int .i64 (j : Int), .pointer (some { block := ga, off := j * 5 }), .pointer (some { block := ga, off := j * 5 }), .int .i64 1, .bool true, .agg #[.slice Ad nn cd, .slice Pd mm qd], .pointer (some ⟨v5.heap.size, 1, none⟩), .slice (some ⟨ga, 0, none⟩) acts.length ac, .int .i64 (j : Int), .pointer (some ⟨ga, j * 5, none⟩), .pointer (some ⟨ga, j * 5 + 1, none⟩), .int .i64 x.a, .pointer (some ⟨v5.heap.size, 1, none⟩), .slice (some ⟨ga, 0, none⟩) acts.length ac, .int .i64 (j : Int), .pointer (some ⟨ga, j * 5, none⟩), .pointer (some ⟨ga, j * 5 + 2, none⟩), .int .i64 x.b, .agg #[.slice A49 n49 c49, .slice P49 m49 q49], undef, undef, undef, undef, undef, undef, undef, undef, undef, undef, undef, undef, undef, undef], []⟩ := act_ext hd hs (fun j hj => match j, hj with | 0, _ => (hlow 0 (by decide)).trans rfl | 1, _ => (hlow 1 (by decide)).trans rfl | 2, _ => (hlow 2 (by decide)).trans rfl | 3, _ => (hlow 3 (by decide)).trans rfl | 4, _ => (hlow 4 (by decide)).trans rfl | 5, _ => (hlow 5 (by decide)).trans rfl | 6, _ => (hlow 6 (by decide)).trans rfl | 7, _ => (hlow 7 (by decide)).trans rfl | 8, _ => (hlow 8 (by decide)).trans rfl | 9, _ => (hlow 9 (by decide)).trans rfl | 10, _ => (hlow 10 (by decide)).trans rfl | 11, _ => (hlow 11 (by decide)).trans rfl | 12, _ => (hlow 12 (by decide)).trans rfl | 13, _ => (hlow 13 (by decide)).trans rfl | 14, _ => (hlow 14 (by decide)).trans rfl | 15, _ => (hlow 15 (by decide)).trans rfl | 16, _ => (hlow 16 (by decide)).trans rfl | 17, _ => (hlow 17 (by decide)).trans rfl | 18, _ => (hlow 18 (by decide)).trans rfl | 19, _ => (hlow 19 (by decide)).trans rfl | 20, _ => (hlow 20 (by decide)).trans rfl | 21, _ => (hlow 21 (by decide)).trans rfl | 22, _ => (hlow 22 (by decide)).trans rfl | 23, _ => (hlow 23 (by decide)).trans rfl | 24, _ => (hlow 24 (by decide)).trans rfl | 25, _ => (hlow 25 (by decide)).trans rfl | 26, _ => (hlow 26 (by decide)).trans rfl | 27, _ => (hlow 27 (by decide)).trans rfl | 28, _ => (hlow 28 (by decide)).trans rfl | 29, _ => (hlow 29 (by decide)).trans rfl | 30, _ => (hlow 30 (by decide)).trans rfl | 31, _ => (hlow 31 (by decide)).trans rfl | 32, _ => (hlow 32 (by decide)).trans rfl | 33, _ => (hlow 33 (by decide)).trans rfl | 34, _ => (hlow 34 (by decide)).trans rfl | 35, _ => (hlow 35 (by decide)).trans rfl | 36, _ => RgX.val_at (hok 0 36 _ (by decide) rfl rfl) | 37, _ => RgX.val_at (hok 1 37 _ (by decide) rfl rfl) | 38, _ => RgX.val_at (hok 2 38 _ (by decide) rfl rfl) | 39, _ => RgX.val_at (hok 3 39 _ (by decide) rfl rfl) | 40, _ => RgX.val_at (hok 4 40 _ (by decide) rfl rfl) | 41, _ => RgX.val_at (hok 5 41 _ (by decide) rfl rfl) | 42, _ => RgX.val_at (hok 6 42 _ (by decide) rfl rfl) | 43, _ => RgX.val_at (hok 7 43 _ (by decide) rfl rfl) | 44, _ => RgX.val_at (hok 8 44 _ (by decide) rfl rfl) | 45, _ => RgX.val_at (hok 9 45 _ (by decide) rfl rfl) | 46, _ => RgX.val_at (hok 10 46 _ (by decide) rfl rfl) | 47, _ => RgX.val_at (hok 11 47 _ (by decide) rfl rfl) | 48, _ => RgX.val_at (hok 12 48 _ (by decide) rfl rfl) | 49, _ => hy49 | 50, _ => (hlow 50 (by decide)).trans rfl | 51, _ => (hlow 51 (by decide)).trans rfl | 52, _ => (hlow 52 (by decide)).trans rfl | 53, _ => (hlow 53 (by decide)).trans rfl | 54, _ => (hlow 54 (by decide)).trans rfl | 55, _ => (hlow 55 (by decide)).trans rfl | 56, _ => (hlow 56 (by decide)).trans rfl | 57, _ => (hlow 57 (by decide)).trans rfl | 58, _ => (hlow 58 (by decide)).trans rfl | 59, _ => (hlow 59 (by decide)).trans rfl | 60, _ => (hlow 60 (by decide)).trans rfl | 61, _ => (hlow 61 (by decide)).trans rfl | 62, _ => (hlow 62 (by decide)).trans rfl | 63, _ => (hlow 63 (by decide)).trans rfl | n + 64, h => absurd h (by show ¬ n + 64 < 64; omega))
        clear hs hd hlow hok hy49
        have k1 := (hS.block _ (blk_lt HD1.out)).trans HD1.out
        refine dk_store rfl _ _ rfl v7.heap.size A49 n49 c49 P49 m49 q49 _ _ rfl rfl k1 ?_
        intro u1 kb1 ho1 hz1 hb1
        have hkd : KeepD wr u1 := (KeepD.of_below hS).trans (KeepD.of_store k1 ho1)
        rw [HST.out] at h49 k49
        have e1 : DkAt 0 u1 (.agg #[.slice A49 n49 c49, .slice P49 m49 q49]) (DK.queue 1 (VM.wrOf (acts.take (j + 1)))) := ⟨A49, n49, c49, P49, m49, q49, rfl, Rw.more (Rw.keepD h49 (KeepD.of_store k1 ho1) (by decide)) (Nat.zero_le _), Rw.more (Rw.keepD k49 (KeepD.of_store k1 ho1) (by decide)) (Nat.zero_le _)⟩
        have HX := Lib.hid (And.intro kb1 (And.intro e1 (And.intro ((hkd _ _ _ HO.out (by decide)).trans HO.out) (And.intro (own_keepD HV.out hkd (by decide)) (And.intro (own_keepD HT.out hkd (by decide)) ((HB.out.trans (hS.mono HB.out.size)).trans (hb1.mono hwl)))))))
        clear h49 k49 k1 kb1 ho1 hz1 hb1 hkd e1 hS HD1 HD2 HO HV HT HB HCC HST
        go_wp2_with fail
        go_roundw
        case rel => exact ⟨j + 1, A49, P49, n49, c49, m49, q49, by omega, by go_num, HX.out.1, HX.out.2.1, HX.out.2.2.1, HX.out.2.2.2.1, HX.out.2.2.2.2.1, HX.out.2.2.2.2.2⟩
        case measure => simp [intOf]; omega
      · have hkb : (x.k == 1) = false := by simpa using hk
        rw [if_neg hk, List.append_nil] at hst
        have HST := Lib.hid hst
        clear hst c1 c2
        go_wp2_with fail
        go_roundw
        case rel => exact ⟨j + 1, Ad, Pd, nn, cd, mm, qd, by omega, by go_num, HD1.out, show DkAt _ _ _ _ by rw [HST.out]; exact HD2.out, HO.out, HV.out, HT.out, HB.out⟩
        case measure => simp [intOf]; omega
    · have dj : decide (j < acts.length) = false := decide_eq_false hin
      obtain rfl : j = acts.length := by omega
      have HVE := Lib.hid (show DK.view (DK.queue 1 (VM.wrOf (acts.take acts.length))) = [(n : Int)] by rw [List.take_length, HA.out.1]; exact view_end n)
      have ce1 := cell_of_row _ _ 1 _ _ (0, 0) HO.out
      simp at ce1
      clear hin hj hn30
      go_upto_region 11 with fail
      refine RgX.region 15 (fun i => (if i = 14 then 4 else 50 + i)) (fun ix_ => match ix_ with | 0 => .v (.pointer (some ⟨v5.heap.size, 0, none⟩)) | 1 => .v (.slice V 1 vc) | 2 => .v (.int .i64 (1 : Int)) | 3 => .v (.bool true) | 4 => .v (.bool true) | 5 => .v (.agg #[.slice Ad nn cd, .slice Pd mm qd]) | 6 => .ints 0 (DK.view (DK.queue 1 (VM.wrOf (acts.take acts.length)))) (DK.view (DK.queue 1 (VM.wrOf (acts.take acts.length)))).length | 7 => .v (.pointer (some ⟨v5.heap.size, 0, none⟩)) | 8 => .v (.slice V 1 vc) | 9 => .v (.bool true) | 10 => .v (.bool true) | 11 => .v (.bool true) | 12 => .v (.bool true) | 13 => .v (.bool true) | 14 => .v (.bool true) | _ => .any) (by kernel_rfl) rfl (by kernel_rfl)  (fun i hi => by show (if i = 14 then 4 else 50 + i) < 64; (repeat' split) <;> omega) (fun i j hi hj => by show (if i = 14 then 4 else 50 + i) = (if j = 14 then 4 else 50 + j) → i = j; (repeat' split) <;> omega) ?step ?fin
      case step =>
        intro L_ A_ w3 ix op_ hI ho hdep
        have hi : ix < 15 := (Array.getElem?_eq_some_iff.1 ho).1
        have hcase : ix = 0 ∨ ix = 1 ∨ ix = 2 ∨ ix = 3 ∨ ix = 4 ∨ ix = 5 ∨ ix = 6 ∨ ix = 7 ∨ ix = 8 ∨ ix = 9 ∨ ix = 10 ∨ ix = 11 ∨ ix = 12 ∨ ix = 13 ∨ ix = 14 := by omega
        have hh := hI.held
        clear hi
        rcases hcase with rfl | rfl | rfl | rfl | rfl | rfl | rfl | rfl | rfl | rfl | rfl | rfl | rfl | rfl | rfl
        · simp only [List.getElem?_toArray, List.getElem?_cons_zero, Option.some.injEq] at ho
          subst ho
          refine ⟨rfl, ?_⟩
          have e7 : A_.tmps[7]?.getD undef = .pointer (some ⟨v5.heap.size, 0, none⟩) := by rw [hI.low 7 (by decide)]; rfl
          clear hI hdep
          exact .run rfl (.pointer (some ⟨v5.heap.size, 0, none⟩)) w3 (by simp [execOp, go_sem, Act.eval, e7]) (Below.refl _ _) rfl
        · simp only [List.getElem?_toArray, List.getElem?_cons_succ, List.getElem?_cons_zero, Option.some.injEq] at ho
          subst ho
          refine ⟨rfl, ?_⟩
          have e50 : A_.tmps[50]?.getD undef = .pointer (some ⟨v5.heap.size, 0, none⟩) := getD_of (hI.val_ (i := 0) rfl rfl (by decide) (hdep ⟨0, .data⟩ (by simp) rfl))
          clear hI hdep
          obtain ⟨d0, d1⟩ := dk_two ((hh.block _ (blk_lt HD1.out)).trans HD1.out); have d2 := cell_of_row _ _ 0 _ _ (0, 0) ((hh.block _ (blk_lt HO.out)).trans HO.out); simp at d2
          exact .run rfl (.slice V 1 vc) w3 (by simp [execOp, go_sem, Act.eval, *]) (Below.refl _ _) rfl
        · simp only [List.getElem?_toArray, List.getElem?_cons_succ, List.getElem?_cons_zero, Option.some.injEq] at ho
          subst ho
          refine ⟨rfl, ?_⟩
          have e51 : A_.tmps[51]?.getD undef = .slice V 1 vc := getD_of (hI.val_ (i := 1) rfl rfl (by decide) (hdep ⟨1, .data⟩ (by simp) rfl))
          clear hI hdep
          exact .run rfl (.int .i64 (1 : Int)) w3 (by simp [go_sem, Act.eval, e51]) (Below.refl _ _) rfl
        · simp only [List.getElem?_toArray, List.getElem?_cons_succ, List.getElem?_cons_zero, Option.some.injEq] at ho
          subst ho
          refine ⟨rfl, ?_⟩
          have e52 : A_.tmps[52]?.getD undef = .int .i64 (1 : Int) := getD_of (hI.val_ (i := 2) rfl rfl (by decide) (hdep ⟨2, .data⟩ (by simp) rfl))
          clear hI hdep
          exact .run rfl (.bool true) w3 (by simp [execOp, go_sem, Act.eval, *]) (Below.refl _ _) rfl
        · simp only [List.getElem?_toArray, List.getElem?_cons_succ, List.getElem?_cons_zero, Option.some.injEq] at ho
          subst ho
          refine ⟨rfl, ?_⟩
          have e53 : A_.tmps[53]?.getD undef = .bool true := getD_of (hI.val_ (i := 3) rfl rfl (by decide) (hdep ⟨3, .data⟩ (by simp) rfl))
          clear hI hdep
          exact .run rfl (.bool true) w3 (by simp [execOp, go_sem, Act.eval, e53]) (Below.refl _ _) rfl
        · simp only [List.getElem?_toArray, List.getElem?_cons_succ, List.getElem?_cons_zero, Option.some.injEq] at ho
          subst ho
          refine ⟨rfl, ?_⟩
          have q54 : A_.tmps[54]? = some (.bool true) := hI.val_ (i := 4) rfl rfl (by decide) (hdep ⟨4, .guard⟩ (by simp) rfl)
          have e8 : A_.tmps[8]?.getD undef = .pointer (some ⟨v7.heap.size, 0, none⟩) := by rw [hI.low 8 (by decide)]; rfl
          clear hI hdep
          obtain ⟨d0, d1⟩ := dk_two ((hh.block _ (blk_lt HD1.out)).trans HD1.out); have d2 := cell_of_row _ _ 0 _ _ (0, 0) ((hh.block _ (blk_lt HO.out)).trans HO.out); simp at d2
          exact .run ((wanted_some rfl rfl q54).trans rfl) (.agg #[.slice Ad nn cd, .slice Pd mm qd]) w3 (by simp [execOp, go_sem, Act.eval, *]) (Below.refl _ _) rfl
        · simp only [List.getElem?_toArray, List.getElem?_cons_succ, List.getElem?_cons_zero, Option.some.injEq] at ho
          subst ho
          refine ⟨rfl, ?_⟩
          have q54 : A_.tmps[54]? = some (.bool true) := hI.val_ (i := 4) rfl rfl (by decide) (hdep ⟨4, .guard⟩ (by simp) rfl)
          have e55 : A_.tmps[55]?.getD undef = .agg #[.slice Ad nn cd, .slice Pd mm qd] := getD_of (hI.val_ (i := 5) rfl rfl (by decide) (hdep ⟨5, .data⟩ (by simp) rfl))
          clear hI hdep
          exact .call ((wanted_some rfl rfl q54).trans rfl) 19 #[.agg #[.slice Ad nn cd, .slice Pd mm qd]] (by simp [go_sem, Act.eval, e55]) (view_sp w3 (HD2.out.keep hh) (HQ.out acts.length).2)
        · simp only [List.getElem?_toArray, List.getElem?_cons_succ, List.getElem?_cons_zero, Option.some.injEq] at ho
          subst ho
          refine ⟨rfl, ?_⟩
          have q54 : A_.tmps[54]? = some (.bool true) := hI.val_ (i := 4) rfl rfl (by decide) (hdep ⟨4, .guard⟩ (by simp) rfl)
          have e7 : A_.tmps[7]?.getD undef = .pointer (some ⟨v5.heap.size, 0, none⟩) := by rw [hI.low 7 (by decide)]; rfl
          clear hI hdep
          exact .run ((wanted_some rfl rfl q54).trans rfl) (.pointer (some ⟨v5.heap.size, 0, none⟩)) w3 (by simp [execOp, go_sem, Act.eval, e7]) (Below.refl _ _) rfl
        · simp only [List.getElem?_toArray, List.getElem?_cons_succ, List.getElem?_cons_zero, Option.some.injEq] at ho
          subst ho
          refine ⟨rfl, ?_⟩
          have q54 : A_.tmps[54]? = some (.bool true) := hI.val_ (i := 4) rfl rfl (by decide) (hdep ⟨4, .guard⟩ (by simp) rfl)
          have e57 : A_.tmps[57]?.getD undef = .pointer (some ⟨v5.heap.size, 0, none⟩) := getD_of (hI.val_ (i := 7) rfl rfl (by decide) (hdep ⟨7, .data⟩ (by simp) rfl))
          clear hI hdep
          obtain ⟨d0, d1⟩ := dk_two ((hh.block _ (blk_lt HD1.out)).trans HD1.out); have d2 := cell_of_row _ _ 0 _ _ (0, 0) ((hh.block _ (blk_lt HO.out)).trans HO.out); simp at d2
          exact .run ((wanted_some rfl rfl q54).trans rfl) (.slice V 1 vc) w3 (by simp [execOp, go_sem, Act.eval, *]) (Below.refl _ _) rfl
        · simp only [List.getElem?_toArray, List.getElem?_cons_succ, List.getElem?_cons_zero, Option.some.injEq] at ho
          subst ho
          refine ⟨rfl, ?_⟩
          have q54 : A_.tmps[54]? = some (.bool true) := hI.val_ (i := 4) rfl rfl (by decide) (hdep ⟨4, .guard⟩ (by simp) rfl)
          obtain ⟨_, e56, B56, r56, rfl, h56⟩ := hI.get_ (i := 6) (j := 56) rfl rfl (by decide) (hdep ⟨6, .data⟩ (by simp) rfl)
          have e58 : A_.tmps[58]?.getD undef = .slice V 1 vc := getD_of (hI.val_ (i := 8) rfl rfl (by decide) (hdep ⟨8, .data⟩ (by simp) rfl))
          clear hI hdep
          exact .call ((wanted_some rfl rfl q54).trans rfl) 18 #[.slice B56 (DK.view (DK.queue 1 (VM.wrOf (acts.take acts.length)))).length r56, .slice V 1 vc] (by simp [go_sem, Act.eval, e56, e58]) ((sameInts_eq (b := true) w3 h56 (show Cls Y.heap.size w3 V 1 vc [(n : Int)] from Rw.of_own (dk_own_keep HV.out hh)) (by rw [HVE.out]; simp) (by rw [HVE.out]; simp)).mono fun _ _ ⟨h1_, h2_⟩ => ⟨⟨_, h1_, rfl⟩, h2_⟩)
        · simp only [List.getElem?_toArray, List.getElem?_cons_succ, List.getElem?_cons_zero, Option.some.injEq] at ho
          subst ho
          refine ⟨rfl, ?_⟩
          have e54 : A_.tmps[54]?.getD undef = .bool true := getD_of (hI.val_ (i := 4) rfl rfl (by decide) (hdep ⟨4, .data⟩ (by simp) rfl))
          have e59 : A_.tmps[59]?.getD undef = .bool true := getD_of (hI.val_ (i := 9) rfl rfl (by decide) (hdep ⟨9, .data⟩ (by simp) rfl))
          clear hI hdep
          exact .run rfl (.bool true) w3 (by simp [execOp, go_sem, Act.eval, e54, e59]) (Below.refl _ _) rfl
        · simp only [List.getElem?_toArray, List.getElem?_cons_succ, List.getElem?_cons_zero, Option.some.injEq] at ho
          subst ho
          refine ⟨rfl, ?_⟩
          have e60 : A_.tmps[60]?.getD undef = .bool true := getD_of (hI.val_ (i := 10) rfl rfl (by decide) (hdep ⟨10, .data⟩ (by simp) rfl))
          clear hI hdep
          exact .run rfl (.bool true) w3 (by simp [execOp, go_sem, Act.eval, e60]) (Below.refl _ _) rfl
        · simp only [List.getElem?_toArray, List.getElem?_cons_succ, List.getElem?_cons_zero, Option.some.injEq] at ho
          subst ho
          refine ⟨rfl, ?_⟩
          have q61 : A_.tmps[61]? = some (.bool true) := hI.val_ (i := 11) rfl rfl (by decide) (hdep ⟨11, .guard⟩ (by simp) rfl)
          clear hI hdep
          exact .call ((wanted_some rfl rfl q61).trans rfl) 21 #[] (by simp [go_sem]) ((lives_any w3).mono fun _ _ ⟨h1_, h2_⟩ => ⟨⟨_, h1_, rfl⟩, h2_⟩)
        · simp only [List.getElem?_toArray, List.getElem?_cons_succ, List.getElem?_cons_zero, Option.some.injEq] at ho
          subst ho
          refine ⟨rfl, ?_⟩
          have e61 : A_.tmps[61]?.getD undef = .bool true := getD_of (hI.val_ (i := 11) rfl rfl (by decide) (hdep ⟨11, .data⟩ (by simp) rfl))
          have e62 : A_.tmps[62]?.getD undef = .bool true := getD_of (hI.val_ (i := 12) rfl rfl (by decide) (hdep ⟨12, .data⟩ (by simp) rfl))
          clear hI hdep
          exact .run rfl (.bool true) w3 (by simp [execOp, go_sem, Act.eval, e61, e62]) (Below.refl _ _) rfl
        · simp only [List.getElem?_toArray, List.getElem?_cons_succ, List.getElem?_cons_zero, Option.some.injEq] at ho
          subst ho
          refine ⟨rfl, ?_⟩
          have e63 : A_.tmps[63]?.getD undef = .bool true := getD_of (hI.val_ (i := 13) rfl rfl (by decide) (hdep ⟨13, .data⟩ (by simp) rfl))
          clear hI hdep
          exact .run rfl (.bool true) w3 (by simp [execOp, go_sem, Act.eval, e63]) (Below.refl _ _) rfl
      case fin =>
      intro A_ w3 hs hd hlow hS hok
      obtain ⟨_, hy56, B56, r56, rfl, h56⟩ := hok 6 56 _ (by decide) rfl rfl
      obtain rfl : A_ = ⟨#[.int .i64 a0, .int .i64 a1, undef, undef, .bool true, .pointer (some ⟨w1.heap.size, 0, none⟩), .pointer (some ⟨v2.heap.size, 0, none⟩), .pointer (some ⟨v5.heap.size, 0, none⟩), .pointer (some ⟨v7.heap.size, 0, none⟩), .int .i64 (acts.length : Int), .int .i64 a0, .int .i64 (n : Int), .int .i64 a1, .int .i64 d, .agg C, .pointer (some ⟨v2.heap.size, 1, none⟩), .agg C, .slice (some ⟨X.heap.size, 0, none⟩) 1 1, .agg #[.int .i64 0, .int .i64 2, .int .i64 0, .int .i64 0, .int .i64 0, .int .i64 0, .int .i64 0, .int .i64 0, .int .i64 0], .agg #[.slice (some ⟨X.heap.size, 0, none⟩) 1 1, .int .i64 0, .int .i64 2, .int .i64 0, .int .i64 0, .int .i64 0, .int .i64 0, .int .i64 0, .int .i64 0, .int .i64 0], .agg #[.slice V 1 vc, .slice A acts.length ac, .int .i64 st, .bool false, .slice D m dc], .agg #[.slice A2 n2 c2, .slice P2 m2 q2], .int .i64 (acts.length : Int), .pointer (some ⟨v5.heap.size, 1, none⟩), .slice A acts.length ac, .int .i64 (acts.length : Int), .bool false, u27, u28, u29, u30, u31, u32, u33, u34, u35, u36, u37, u38, u39, u40, u41, u42, u43, u44, u45, u46, u47, u48, u49, .pointer (some ⟨v5.heap.size, 0, none⟩), .slice V 1 vc, .int .i64 (1 : Int), .bool true, .bool true, .agg #[.slice Ad nn cd, .slice Pd mm qd], .slice B56 (DK.view (DK.queue 1 (VM.wrOf (acts.take acts.length)))).length r56, .pointer (some ⟨v5.heap.size, 0, none⟩), .slice V 1 vc, .bool true, .bool true, .bool true, .bool true, .bool true], []⟩ := act_ext hd hs (fun j hj => match j, hj with | 0, _ => (hlow 0 (by decide)).trans rfl | 1, _ => (hlow 1 (by decide)).trans rfl | 2, _ => (hlow 2 (by decide)).trans rfl | 3, _ => (hlow 3 (by decide)).trans rfl | 4, _ => RgX.val_at (hok 14 4 _ (by decide) rfl rfl) | 5, _ => (hlow 5 (by decide)).trans rfl | 6, _ => (hlow 6 (by decide)).trans rfl | 7, _ => (hlow 7 (by decide)).trans rfl | 8, _ => (hlow 8 (by decide)).trans rfl | 9, _ => (hlow 9 (by decide)).trans rfl | 10, _ => (hlow 10 (by decide)).trans rfl | 11, _ => (hlow 11 (by decide)).trans rfl | 12, _ => (hlow 12 (by decide)).trans rfl | 13, _ => (hlow 13 (by decide)).trans rfl | 14, _ => (hlow 14 (by decide)).trans rfl | 15, _ => (hlow 15 (by decide)).trans rfl | 16, _ => (hlow 16 (by decide)).trans rfl | 17, _ => (hlow 17 (by decide)).trans rfl | 18, _ => (hlow 18 (by decide)).trans rfl | 19, _ => (hlow 19 (by decide)).trans rfl | 20, _ => (hlow 20 (by decide)).trans rfl | 21, _ => (hlow 21 (by decide)).trans rfl | 22, _ => (hlow 22 (by decide)).trans rfl | 23, _ => (hlow 23 (by decide)).trans rfl | 24, _ => (hlow 24 (by decide)).trans rfl | 25, _ => (hlow 25 (by decide)).trans rfl | 26, _ => (hlow 26 (by decide)).trans rfl | 27, _ => (hlow 27 (by decide)).trans rfl | 28, _ => (hlow 28 (by decide)).trans rfl | 29, _ => (hlow 29 (by decide)).trans rfl | 30, _ => (hlow 30 (by decide)).trans rfl | 31, _ => (hlow 31 (by decide)).trans rfl | 32, _ => (hlow 32 (by decide)).trans rfl | 33, _ => (hlow 33 (by decide)).trans rfl | 34, _ => (hlow 34 (by decide)).trans rfl | 35, _ => (hlow 35 (by decide)).trans rfl | 36, _ => (hlow 36 (by decide)).trans rfl | 37, _ => (hlow 37 (by decide)).trans rfl | 38, _ => (hlow 38 (by decide)).trans rfl | 39, _ => (hlow 39 (by decide)).trans rfl | 40, _ => (hlow 40 (by decide)).trans rfl | 41, _ => (hlow 41 (by decide)).trans rfl | 42, _ => (hlow 42 (by decide)).trans rfl | 43, _ => (hlow 43 (by decide)).trans rfl | 44, _ => (hlow 44 (by decide)).trans rfl | 45, _ => (hlow 45 (by decide)).trans rfl | 46, _ => (hlow 46 (by decide)).trans rfl | 47, _ => (hlow 47 (by decide)).trans rfl | 48, _ => (hlow 48 (by decide)).trans rfl | 49, _ => (hlow 49 (by decide)).trans rfl | 50, _ => RgX.val_at (hok 0 50 _ (by decide) rfl rfl) | 51, _ => RgX.val_at (hok 1 51 _ (by decide) rfl rfl) | 52, _ => RgX.val_at (hok 2 52 _ (by decide) rfl rfl) | 53, _ => RgX.val_at (hok 3 53 _ (by decide) rfl rfl) | 54, _ => RgX.val_at (hok 4 54 _ (by decide) rfl rfl) | 55, _ => RgX.val_at (hok 5 55 _ (by decide) rfl rfl) | 56, _ => hy56 | 57, _ => RgX.val_at (hok 7 57 _ (by decide) rfl rfl) | 58, _ => RgX.val_at (hok 8 58 _ (by decide) rfl rfl) | 59, _ => RgX.val_at (hok 9 59 _ (by decide) rfl rfl) | 60, _ => RgX.val_at (hok 10 60 _ (by decide) rfl rfl) | 61, _ => RgX.val_at (hok 11 61 _ (by decide) rfl rfl) | 62, _ => RgX.val_at (hok 12 62 _ (by decide) rfl rfl) | 63, _ => RgX.val_at (hok 13 63 _ (by decide) rfl rfl) | n + 64, h => absurd h (by show ¬ n + 64 < 64; omega))
      clear hs hd hlow hok hy56
      go_wp2_with fail
      go_ret
      exact ⟨rfl, HB.out.trans (hS.mono HB.out.size)⟩
end Go.Proofs.Ytgdefhlcgmibcaa.LawDiskFollows
