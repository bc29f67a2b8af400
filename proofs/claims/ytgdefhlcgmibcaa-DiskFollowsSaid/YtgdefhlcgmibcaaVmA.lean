/-
  The machine's act. No condition but the lengths.
-/
import Derived.Test.YtgdefhlcgmibcaaVmU
import Derived.Test.YtgdefhlcgmibcaaRgUc
import Derived.Test.YtgdefhlcgmibcaaRgA
import Derived.Test.YtgdefhlcgmibcaaRgT
import Derived.Deep.Cut
namespace Go.Proofs.Ytgdefhlcgmibcaa
open Go Go.RowKit Go.Proofs
attribute [local go_sem] Oper.semAt_some

set_option maxHeartbeats 1000000 in
set_option maxRecDepth 100000 in
theorem act_c {F : MFix} {B g : Nat} {s : VM.St} {w : World} (h : MAt F B w g s) (ka aa ba ca da : Int) (hl : s.acts.length < 1000) (hB : B ≤ w.heap.size) :
    Calls Try.prog 65 #[.pointer (some ⟨g, 0, none⟩), .agg #[.int .i64 ka, .int .i64 aa, .int .i64 ba, .int .i64 ca, .int .i64 da]] w fun e w' => (∃ v, e = .returned v) ∧ MAt F B w' g { s with acts := s.acts ++ [⟨ka, aa, ba, ca, da⟩] } ∧ KeepV B w w' := by
  obtain ⟨T, V, K, A, vc, kc, ac, hP⟩ := h
  have hP : MPt F B w g s T V K A vc kc ac := hP
  obtain ⟨i0, hi, hy0, hy1, hy2⟩ := dk_info vm_act
  obtain ⟨n, hn⟩ : ∃ n, s.acts.length = n := ⟨_, rfl⟩
  have hgw := blk_lt hP.1
  have hoA := hP.2.2.2.2.1
  have hcA := hP.2.1.acts
  rw [hn] at hoA hcA
  have HT := Lib.hid (show ∀ (A : Option Addr) (m c : Nat), 41 + (Value.slice A m c).cells.size ≤ T.size ∧ (Try.prog.info? 56).map (·.size) = some (Value.slice A m c).cells.size ∧ (Value.slice A m c).cells.all (·.oneCell') = true ∧ T.setIfInBounds 41 (.slice A m c) = (T.toList.take 41 ++ (Value.slice A m c).cells.toList ++ T.toList.drop (41 + (Value.slice A m c).cells.size)).toArray from fun A m c => ⟨(mst hP.2.1.size 41 (by omega) (.slice A m c) rfl rfl).1, vm_sz_acts, (mst hP.2.1.size 41 (by omega) (.slice A m c) rfl rfl).2⟩)
  have HI := Lib.hid (And.intro hi (And.intro hy0 (And.intro hy1 hy2)))
  have HP := Lib.hid hP
  have HO := Lib.hid hoA
  have HC := Lib.hid hcA
  have HN := Lib.hid hn
  have HL := Lib.hid (show n < 1000 by omega)
  clear hP hi hy0 hy1 hy2 hoA hcA hn hl
  go_enter Try.func65, Try.ntmps65
  go_upto_region 1 with fail
  obtain ⟨v1, hv1⟩ : ∃ W, W = w.alloc (.cells #[.int .i64 ka, .int .i64 aa, .int .i64 ba, .int .i64 ca, .int .i64 da] 63) := ⟨_, rfl⟩
  rw [← hv1]
  have hb1 : Below w.heap.size w v1 := hv1 ▸ dk_box w _
  have hz1 : v1.heap.size = w.heap.size + 1 := by rw [hv1]; simp
  have K1 := Lib.hid (And.intro (show v1.heap[w.heap.size]? = some (.cells #[.int .i64 ka, .int .i64 aa, .int .i64 ba, .int .i64 ca, .int .i64 da] 63 (0, 0)) by rw [hv1]; exact dk_new_at rfl) (And.intro ((hb1.block g hgw).trans HP.out.1) (dk_own_keep HO.out hb1)))
  clear hv1
  refine RgX.tail3 10 7 (fun i => ( 4 + i)) (fun ix_ => match ix_ with | 0 => .v (.pointer (some ⟨g, 0, none⟩)) | 1 => .v (.pointer (some ⟨g, 0, none⟩)) | 2 => .v (.pointer (some ⟨g, 0, none⟩)) | 3 => .v (.pointer (some ⟨g, 41, none⟩)) | 4 => .v (.slice A n ac) | 5 => .v (.agg #[.int .i64 ka, .int .i64 aa, .int .i64 ba, .int .i64 ca, .int .i64 da]) | 6 => .row #[.int .i64 ka, .int .i64 aa, .int .i64 ba, .int .i64 ca, .int .i64 da] 63 1 | 7 => .any | 8 => .v (.pointer (some ⟨g, 0, none⟩)) | 9 => .v (.pointer (some ⟨g, 41, none⟩)) | _ => .any) [0, 8, 9] (fun ix_ => match ix_ with | 0 => .pointer (some ⟨g, 0, none⟩) | 8 => .pointer (some ⟨g, 0, none⟩) | 9 => .pointer (some ⟨g, 41, none⟩) | _ => undef) _ _ (fun v w' => ∃ (A' : Option Addr) (c' : Nat), v = .slice A' (n + 1) c' ∧ ∃ V3, Below v1.heap.size v1 V3 ∧ w'.ownsRow B 63 5 (.slice A' (n + 1) c') (n + 1) (VM.acsC s.acts ++ [.int .i64 ka, .int .i64 aa, .int .i64 ba, .int .i64 ca, .int .i64 da]) ∧ V3.grownBy w' (Value.slice A n ac).ownBlock) (by kernel_rfl) rfl rfl (by decide) rfl (by kernel_rfl) (by kernel_rfl) (by kernel_rfl) (by decide) (fun i hi => by show ( 4 + i) < 14; (repeat' split) <;> omega) (fun i j hi hj => by show ( 4 + i) = ( 4 + j) → i = j; (repeat' split) <;> omega) ?step ?app ?flo ?hF ?fin
  case step =>
    intro L_ A_ w3 ix op_ hi hnA hI ho hdep
    have hcase : ix = 0 ∨ ix = 1 ∨ ix = 2 ∨ ix = 3 ∨ ix = 4 ∨ ix = 5 ∨ ix = 6 ∨ ix = 8 ∨ ix = 9 := by omega
    have hh := hI.held
    clear hi hnA
    rcases hcase with rfl | rfl | rfl | rfl | rfl | rfl | rfl | rfl | rfl
    · simp only [List.getElem?_toArray, List.getElem?_cons_zero, Option.some.injEq] at ho
      subst ho
      refine ⟨rfl, ?_⟩
      have e0 : A_.tmps[0]?.getD undef = .pointer (some ⟨g, 0, none⟩) := by rw [hI.low 0 (by decide)]; rfl
      clear hI hdep
      exact .run rfl (.pointer (some ⟨g, 0, none⟩)) w3 (by simp [execOp, go_sem, Act.eval, e0]) (Below.refl _ _) rfl
    · simp only [List.getElem?_toArray, List.getElem?_cons_succ, List.getElem?_cons_zero, Option.some.injEq] at ho
      subst ho
      refine ⟨rfl, ?_⟩
      have e0 : A_.tmps[0]?.getD undef = .pointer (some ⟨g, 0, none⟩) := by rw [hI.low 0 (by decide)]; rfl
      clear hI hdep
      exact .run rfl (.pointer (some ⟨g, 0, none⟩)) w3 (by simp [execOp, go_sem, Act.eval, e0]) (Below.refl _ _) rfl
    · simp only [List.getElem?_toArray, List.getElem?_cons_succ, List.getElem?_cons_zero, Option.some.injEq] at ho
      subst ho
      refine ⟨rfl, ?_⟩
      have e5 : A_.tmps[5]?.getD undef = .pointer (some ⟨g, 0, none⟩) := getD_of (hI.val_ (i := 1) rfl rfl (by decide) (hdep ⟨1, .data⟩ (by simp) rfl))
      clear hI hdep
      exact .run rfl (.pointer (some ⟨g, 0, none⟩)) w3 (by simp [execOp, go_sem, Act.eval, e5]) (Below.refl _ _) rfl
    · simp only [List.getElem?_toArray, List.getElem?_cons_succ, List.getElem?_cons_zero, Option.some.injEq] at ho
      subst ho
      refine ⟨rfl, ?_⟩
      have e6 : A_.tmps[6]?.getD undef = .pointer (some ⟨g, 0, none⟩) := getD_of (hI.val_ (i := 2) rfl rfl (by decide) (hdep ⟨2, .data⟩ (by simp) rfl))
      clear hI hdep
      exact .run rfl (.pointer (some ⟨g, 41, none⟩)) w3 (by simp [execOp, go_sem, Act.eval, e6]) (Below.refl _ _) rfl
    · simp only [List.getElem?_toArray, List.getElem?_cons_succ, List.getElem?_cons_zero, Option.some.injEq] at ho
      subst ho
      refine ⟨rfl, ?_⟩
      have e7 : A_.tmps[7]?.getD undef = .pointer (some ⟨g, 41, none⟩) := getD_of (hI.val_ (i := 3) rfl rfl (by decide) (hdep ⟨3, .data⟩ (by simp) rfl))
      clear hI hdep
      have d0 := mcell ((hh.block _ (blk_lt K1.out.2.1)).trans K1.out.2.1) HC.out; have d1 := (hh.block _ (blk_lt K1.out.1)).trans K1.out.1; have d2 := cell_of_row _ _ 0 _ _ (0, 0) d1; have d3 := cell_of_row _ _ 1 _ _ (0, 0) d1; have d4 := cell_of_row _ _ 2 _ _ (0, 0) d1; have d5 := cell_of_row _ _ 3 _ _ (0, 0) d1; have d6 := cell_of_row _ _ 4 _ _ (0, 0) d1; simp at d2 d3 d4 d5 d6
      exact .run rfl (.slice A n ac) w3 (by simp [execOp, go_sem, Act.eval, *]) (Below.refl _ _) rfl
    · simp only [List.getElem?_toArray, List.getElem?_cons_succ, List.getElem?_cons_zero, Option.some.injEq] at ho
      subst ho
      refine ⟨rfl, ?_⟩
      have e3 : A_.tmps[3]?.getD undef = .pointer (some ⟨w.heap.size, 0, none⟩) := by rw [hI.low 3 (by decide)]; rfl
      clear hI hdep
      have d0 := mcell ((hh.block _ (blk_lt K1.out.2.1)).trans K1.out.2.1) HC.out; have d1 := (hh.block _ (blk_lt K1.out.1)).trans K1.out.1; have d2 := cell_of_row _ _ 0 _ _ (0, 0) d1; have d3 := cell_of_row _ _ 1 _ _ (0, 0) d1; have d4 := cell_of_row _ _ 2 _ _ (0, 0) d1; have d5 := cell_of_row _ _ 3 _ _ (0, 0) d1; have d6 := cell_of_row _ _ 4 _ _ (0, 0) d1; simp at d2 d3 d4 d5 d6
      exact .run rfl (.agg #[.int .i64 ka, .int .i64 aa, .int .i64 ba, .int .i64 ca, .int .i64 da]) w3 (by simp [execOp, go_sem, Act.eval, *]) (Below.refl _ _) rfl
    · simp only [List.getElem?_toArray, List.getElem?_cons_succ, List.getElem?_cons_zero, Option.some.injEq] at ho
      subst ho
      refine ⟨rfl, ?_⟩
      have e9 : A_.tmps[9]?.getD undef = .agg #[.int .i64 ka, .int .i64 aa, .int .i64 ba, .int .i64 ca, .int .i64 da] := getD_of (hI.val_ (i := 5) rfl rfl (by decide) (hdep ⟨5, .data⟩ (by simp) rfl))
      clear hI hdep
      exact .run rfl (.slice (some ⟨w3.heap.size, 0, none⟩) 1 1) (w3.alloc (.cells #[.int .i64 ka, .int .i64 aa, .int .i64 ba, .int .i64 ca, .int .i64 da] 63)) (by simp [execOp, go_sem, Act.eval, e9]) ((Below.refl _ _).alloc (Nat.le_refl _) _) (RgX.row_new _ _ _ _)
    · simp only [List.getElem?_toArray, List.getElem?_cons_succ, List.getElem?_cons_zero, Option.some.injEq] at ho
      subst ho
      refine ⟨rfl, ?_⟩
      have e4 : A_.tmps[4]?.getD undef = .pointer (some ⟨g, 0, none⟩) := getD_of (hI.val_ (i := 0) rfl rfl (by decide) (hdep ⟨0, .data⟩ (by simp) rfl))
      clear hI hdep
      exact .run rfl (.pointer (some ⟨g, 0, none⟩)) w3 (by simp [execOp, go_sem, Act.eval, e4]) (Below.refl _ _) rfl
    · simp only [List.getElem?_toArray, List.getElem?_cons_succ, List.getElem?_cons_zero, Option.some.injEq] at ho
      subst ho
      refine ⟨rfl, ?_⟩
      have e12 : A_.tmps[12]?.getD undef = .pointer (some ⟨g, 0, none⟩) := getD_of (hI.val_ (i := 8) rfl rfl (by decide) (hdep ⟨8, .data⟩ (by simp) rfl))
      clear hI hdep
      exact .run rfl (.pointer (some ⟨g, 41, none⟩)) w3 (by simp [execOp, go_sem, Act.eval, e12]) (Below.refl _ _) rfl
  case app =>
    intro A_ w3 hs hlow hh hok
    have e8 : A_.tmps[8]?.getD undef = .slice A n ac := getD_of (RgX.val_at (hok 4 8 _ (by decide) (by decide) (by decide) rfl rfl))
    obtain ⟨_, q10, g10, rfl, r10⟩ := hok 6 10 _ (by decide) (by decide) (by decide) rfl rfl
    have e10 : A_.tmps[10]?.getD undef = .slice (some ⟨g10, 0, none⟩) 1 1 := getD_of q10
    clear hs hlow hok
    refine ⟨rfl, rfl, ?_⟩
    refine RgX.app_exec (.tmp 8) (.tmp 10) 56 rfl B 63 i0 _ 5 40 Try.underlying56 HI.out.1 HI.out.2.1 HI.out.2.2.1 HI.out.2.2.2 rfl (by decide) (.slice A n ac) n (VM.acsC s.acts) (by simpa [Act.eval] using e8) (dk_own_keep K1.out.2.2 hh) ⟨g10, 0, none⟩ 1 1 [.int .i64 ka, .int .i64 aa, .int .i64 ba, .int .i64 ca, .int .i64 da] (by simpa [Act.eval] using e10) rfl (World.news_of_block r10) (fun u hu => by simp at hu; rcases hu with rfl | rfl | rfl | rfl | rfl <;> rfl) (by decide) (by have := HL.out; simp only [maxLen]; omega) (by have := HL.out; omega) (by have := hh.size; omega) ?_
    intro A' c' w' hown' hgr'
    exact ⟨A', c', rfl, w3, hh, hown', hgr'⟩
  case flo =>
    intro i_ o_ A_ w3 hi ho hlow hf
    simp only [List.mem_cons, List.not_mem_nil, or_false] at hi
    rcases hi with rfl | rfl | rfl
    · simp only [List.getElem?_toArray, List.getElem?_cons_zero, Option.some.injEq] at ho
      subst ho
      have e0 : A_.tmps[0]?.getD undef = .pointer (some ⟨g, 0, none⟩) := by rw [hlow 0 (by decide)]; rfl
      exact ⟨rfl, rfl, by simp [execOp, go_sem, Act.eval, e0]⟩
    · simp only [List.getElem?_toArray, List.getElem?_cons_succ, List.getElem?_cons_zero, Option.some.injEq] at ho
      subst ho
      have e4 : A_.tmps[4]?.getD undef = .pointer (some ⟨g, 0, none⟩) := getD_of (hf ⟨0, .data⟩ (by simp) rfl (by decide))
      exact ⟨rfl, rfl, by simp [execOp, go_sem, Act.eval, e4]⟩
    · simp only [List.getElem?_toArray, List.getElem?_cons_succ, List.getElem?_cons_zero, Option.some.injEq] at ho
      subst ho
      have e12 : A_.tmps[12]?.getD undef = .pointer (some ⟨g, 0, none⟩) := getD_of (hf ⟨8, .data⟩ (by simp) rfl (by decide))
      exact ⟨rfl, rfl, by simp [execOp, go_sem, Act.eval, e12]⟩
  case hF =>
    intro i_ hi w_ y_ h_
    simp only [List.mem_cons, List.not_mem_nil, or_false] at hi
    rcases hi with rfl | rfl | rfl
    · exact h_
    · exact h_
    · exact h_
  case fin =>
  intro A_ w3 y_ hs hd hlow hy hG hfl hex
  obtain ⟨z5, hz5⟩ := hex 1 5 (by decide) rfl
  obtain ⟨z6, hz6⟩ := hex 2 6 (by decide) rfl
  obtain ⟨z7, hz7⟩ := hex 3 7 (by decide) rfl
  obtain ⟨z8, hz8⟩ := hex 4 8 (by decide) rfl
  obtain ⟨z9, hz9⟩ := hex 5 9 (by decide) rfl
  obtain ⟨z10, hz10⟩ := hex 6 10 (by decide) rfl
  obtain rfl : A_ = ⟨#[.pointer (some ⟨g, 0, none⟩), .agg #[.int .i64 ka, .int .i64 aa, .int .i64 ba, .int .i64 ca, .int .i64 da], undef, .pointer (some ⟨w.heap.size, 0, none⟩), .pointer (some ⟨g, 0, none⟩), z5, z6, z7, z8, z9, z10, y_, .pointer (some ⟨g, 0, none⟩), .pointer (some ⟨g, 41, none⟩)], []⟩ := act_ext hd hs (fun j hj => match j, hj with | 0, _ => (hlow 0 (by decide)).trans rfl | 1, _ => (hlow 1 (by decide)).trans rfl | 2, _ => (hlow 2 (by decide)).trans rfl | 3, _ => (hlow 3 (by decide)).trans rfl | 4, _ => hfl 0 (by decide) | 5, _ => hz5 | 6, _ => hz6 | 7, _ => hz7 | 8, _ => hz8 | 9, _ => hz9 | 10, _ => hz10 | 11, _ => hy | 12, _ => hfl 8 (by decide) | 13, _ => hfl 9 (by decide) | n + 14, h => absurd h (by show ¬ n + 14 < 14; omega))
  clear hs hd hlow hy hfl hex hz5 hz6 hz7 hz8 hz9 hz10
  obtain ⟨A', c', rfl, V3, hV3, hown', hgr'⟩ := hG
  have bV : Below w.heap.size w V3 := hb1.trans (hV3.mono (by omega))
  have hoA := dk_own_keep HO.out bV
  have hgm : w3.heap[g]? = some (.cells T 78 (0, 0)) := grown_blk ((bV.block g hgw).trans HP.out.1) hgr' (ne_ty HO.out HP.out.1 ty_am)
  refine RgX.wpList_store_seg rfl 56 _ _ rfl g 41 (.slice A' (n + 1) c') rfl rfl 78 T hgm (HT.out _ _ _).2.1 (HT.out _ _ _).1 (HT.out _ _ _).2.2.1 (T.setIfInBounds 41 (.slice A' (n + 1) c')) (HT.out _ _ _).2.2.2 ?_
  intro u3 k3 o3 z3 b3
  obtain ⟨h1, h2, h3, h4, _, h6, h7⟩ := HP.out
  have v2 := own_st (grown_own (dk_own_keep h3 bV) hgr' (row_ne hoA (dk_own_keep h3 bV) ty_ia.symm)) hgm o3 ty_im
  have k2 := own_st (grown_own (dk_own_keep h4 bV) hgr' (row_ne hoA (dk_own_keep h4 bV) ty_ia.symm)) hgm o3 ty_im
  have a2 := own_st hown' hgm o3 ty_am
  have hKV : KeepV B w w3 := (KeepV.of_below bV hB).trans (grown_keepV hoA hgr' (by have := bV.size; omega) (.inr rfl))
  have hKV3 : KeepV B w u3 := hKV.trans (keepV_st hgm o3 b3 h6)
  have hln : (s.acts ++ [(⟨ka, aa, ba, ca, da⟩ : VM.Ac)]).length = n + 1 := by rw [List.length_append, HN.out]; rfl
  have M3 : MAt F B u3 g { s with acts := s.acts ++ [⟨ka, aa, ba, ca, da⟩] } := by
    refine ⟨T.setIfInBounds 41 (.slice A' (n + 1) c'), V, K, A', vc, kc, c', k3, ?_, v2, k2, ?_, h6, h7⟩
    · have := h2.set_acts (.slice A' (n + 1) c') (s.acts ++ [⟨ka, aa, ba, ca, da⟩])
      show MCells _ _ _ _ _ (.slice A' (s.acts ++ [(⟨ka, aa, ba, ca, da⟩ : VM.Ac)]).length c')
      rw [hln]
      exact this
    · show u3.ownsRow B _ 5 (.slice A' (s.acts ++ [(⟨ka, aa, ba, ca, da⟩ : VM.Ac)]).length c') (s.acts ++ [(⟨ka, aa, ba, ca, da⟩ : VM.Ac)]).length (VM.acsC (s.acts ++ [(⟨ka, aa, ba, ca, da⟩ : VM.Ac)]))
      rw [hln, VM.acsC_app]
      exact a2
  clear k3 o3 z3 b3 h1 h2 h3 h4 h6 h7 v2 k2 a2 hKV hgm hoA hgr' hown' hV3 bV
  go_wp2_with fail
  go_end0
  exact ⟨⟨_, rfl⟩, M3, hKV3⟩
end Go.Proofs.Ytgdefhlcgmibcaa
