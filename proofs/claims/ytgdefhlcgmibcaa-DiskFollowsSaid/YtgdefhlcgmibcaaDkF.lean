/-
  The reference's after, New, View and Sync. Conditions: the lengths; the writes' cells are there.
-/
import Derived.Test.YtgdefhlcgmibcaaDkE
namespace Go.Proofs.Ytgdefhlcgmibcaa
open Go Go.RowKit Go.Proofs
attribute [local go_sem] Oper.semAt_some

theorem own_cells {w : World} {t : TypeId} {sz base n c : Nat} {B : Option Addr} {vs : List Value} (h : w.ownsRow base t sz (.slice B n c) n vs) (hn : 0 < n) : ∃ g cur, B = some ⟨g, 0, none⟩ ∧ base ≤ g ∧ w.heap[g]? = some (.cells cur t (0, 0)) ∧ n ≤ c ∧ c ≤ maxLen ∧ cur.size = c * sz ∧ cur.toList.take (n * sz) = vs := by
  rcases h.2 with ⟨_, h⟩ | ⟨g, cap, cur, e, h0, h1, h2, h3, h4, h5⟩
  · omega
  · injection e with e1 _ e2
    subst e2
    exact ⟨g, cur, e1, h0, h1, h2, h3, h4, h5⟩
/-- A cell of an own row of integers, stored. -/
theorem own_set {W : World} {t : TypeId} {base g n c j : Nat} {cur C' : Array Value} {l : List Int} {v : Int} (hb : base ≤ g) (h2 : n ≤ c) (h3 : c ≤ maxLen) (h4 : cur.size = c * 1) (h5 : cur.toList.take (n * 1) = DK.intsC l) (hj : j < n) (hl : l.length = n)
    (hC : C' = (cur.toList.take j ++ (Value.int .i64 v).cells.toList ++ cur.toList.drop (j + (Value.int .i64 v).cells.size)).toArray) (hg : W.heap[g]? = some (.cells C' t (0, 0))) : W.ownsRow base t 1 (.slice (some ⟨g, 0, none⟩) n c) n (DK.intsC (l.set j v)) := by
  subst hC
  have e2 : (Value.int .i64 v).cells.toList = [Value.int .i64 v] := rfl
  have e3 : (Value.int .i64 v).cells.size = 1 := rfl
  rw [e2, e3] at hg
  have hcl : cur.toList.length = c := by simp [h4]
  have hs : cur.toList.take j ++ [Value.int .i64 v] ++ cur.toList.drop (j + 1) = cur.toList.set j (.int .i64 v) := by
    rw [List.set_eq_take_append_cons_drop, if_pos (by omega)]
    simp
  refine own_of_block hg hb (by rw [DK.intsC_len, List.length_set, hl]; omega) h2 h3 ?_ ?_
  · rw [hs]
    simp [h4]
  · rw [hs]
    show (cur.toList.set j (.int .i64 v)).take (n * 1) = _
    rw [List.take_set, h5]
    unfold DK.intsC
    rw [List.map_set]
theorem own_empty {W : World} {t : TypeId} {sz g base : Nat} (hg : W.heap[g]? = some (.cells #[] t (0, 0))) (hb : base ≤ g) : W.ownsRow base t sz (.slice (some ⟨g, 0, none⟩) 0 0) 0 [] :=
  own_of_block hg hb (by simp) (Nat.le_refl _) (by simp [maxLen]) (by simp) (by simp)
set_option maxHeartbeats 4000000 in
set_option maxRecDepth 100000 in
theorem refAfter_any {lo lo' n c m q : Nat} {A W : Option Addr} {xs : List Int} {ws : List DK.Wr} (w : World) (hx : Cls lo w A n c xs) (hw : Wrs lo' w W m q ws) (bn : n ≤ 1000) (bm : m ≤ 1000) (hin : ∀ x ∈ ws, 0 ≤ x.1 ∧ x.1 < (n : Int)) :
    Calls Try.prog 36 #[.slice A n c, .slice W m q] w fun e w' => (∃ B r, e = .returned (.slice B n r) ∧ w'.ownsRow w.heap.size 3 1 (.slice B n r) n (DK.intsC (DK.app xs ws))) ∧ Below w.heap.size w w' := by
  obtain ⟨i0, hi, hz0, hz1, hz2⟩ := dk_info dk_int
  obtain ⟨U, hU⟩ : ∃ U, w.alloc (.cells #[] 3) = U := ⟨_, rfl⟩
  have hb : Below w.heap.size w U := hU ▸ dk_box w _
  have kU : U.heap[w.heap.size]? = some (.cells #[] 3 (0, 0)) := by rw [← hU]; exact dk_new_at rfl
  have HS := Lib.hid (And.intro (Rw.src (hx.keep hb)) (And.intro (own_empty (sz := 1) (base := w.heap.size) kU (Nat.le_refl _)) (And.intro hb (And.intro hb.size (show (DK.intsC xs).length = n * 1 by rw [DK.intsC_len, hx.len]; omega)))))
  have HM := Lib.hid (And.intro (show 0 + n ≤ maxLen by simp only [maxLen]; omega) (show (0 + n) * 8 ≤ 140737488355328 by omega))
  have HW := Lib.hid hw
  have HN := Lib.hid (And.intro hx.len (And.intro hw.len hin))
  have HI := Lib.hid (And.intro hi (And.intro hz0 (And.intro hz1 hz2)))
  clear hx hw hi hz0 hz1 hz2 hb kU hin
  go_enter Try.func36, Try.ntmps36
  go_upto_region 2 with (at_builtin; refine RgX.wpList_append_any rfl _ _ 22 rfl w.heap.size 3 i0 _ 1 8 Try.underlying22 HI.out.1 HI.out.2.1 HI.out.2.2.1 HI.out.2.2.2 rfl (by decide) _ 0 [] rfl HS.out.2.1 A n c (DK.intsC xs) rfl HS.out.2.2.2.2 HS.out.1 (DK.intsC_one _) HM.out.1 HM.out.2 HS.out.2.2.2.1 ?_; intro B r V1 ho hg)
  rw [Nat.zero_add, List.nil_append] at ho
  have HV1 := Lib.hid (dk_grown HS.out.2.1 HS.out.2.2.1 hg HS.out.2.2.2.1)
  have HO := Lib.hid ho
  clear ho hg HS hU
  go_wp2_with fail
  go_loopw [6] (fun i V => ∃ k : Nat, k ≤ m ∧ i = .int .i64 (k : Int) ∧ Hid (V.ownsRow w.heap.size 3 1 (.slice B n r) n (DK.intsC (DK.app xs (ws.take k)))) ∧ Hid (Below w.heap.size w V)) (fun i _ => m - (intOf i).toNat)
  case atStart => exact ⟨0, by omega, rfl, show World.ownsRow _ _ _ _ _ _ _ by simpa [DK.app] using HO.out, HV1.out⟩
  case round =>
    obtain ⟨k, hk, rfl, HK, HV⟩ := hrel
    by_cases hin : k < m
    · have dk : decide (k < m) = true := decide_eq_true hin
      obtain ⟨g, off, a, v, rfl, hlo, hg, hxk, c0, c1⟩ := HW.out.at_ hin
      obtain ⟨ha0, ha1⟩ := HN.out.2.2 _ (List.mem_of_getElem? hxk)
      obtain ⟨j, rfl⟩ := Int.eq_ofNat_of_zero_le ha0
      have hj : j < n := by have : (j : Int) < (n : Int) := ha1; omega
      obtain ⟨gB, cur, rfl, hgl, hgb, hnr, hrm, hcs, hct⟩ := own_cells HK.out (by omega)
      have HC := Lib.hid (fun (V : World) (hV : Below wr.heap.size wr V) => And.intro ((hV.cell (p := ⟨g, off + k * 2, none⟩) (Nat.lt_of_lt_of_le hg HV.out.size)).trans ((HV.out.cell (p := ⟨g, off + k * 2, none⟩) hg).trans c0)) ((hV.cell (p := ⟨g, off + k * 2 + 1, none⟩) (Nat.lt_of_lt_of_le hg HV.out.size)).trans ((HV.out.cell (p := ⟨g, off + k * 2 + 1, none⟩) hg).trans c1)))
      have HX := Lib.hid (app_step (xs := xs) hxk)
      have HL := Lib.hid (show (DK.app xs (ws.take k)).length = n by rw [DK.app_len]; exact HN.out.1)
      have HG := Lib.hid (And.intro hgb (And.intro hcs (And.intro hct (And.intro hgl hrm))))
      have hjr : j < r := by omega
      clear c0 c1 hxk hlo ha0 ha1 hgb hcs hct hgl hrm
      go_wp2_with fail
      refine RgX.tail 12 (fun i => ( 16 + i)) (fun ix_ => match ix_ with | 0 => .v (.slice (some ⟨gB, 0, none⟩) n r) | 1 => .v (.slice (some { block := g, off := off }) m q) | 2 => .v (.int .i64 (k : Int)) | 3 => .v (.pointer (some ⟨g, off + k * 2, none⟩)) | 4 => .v (.pointer (some ⟨g, off + k * 2, none⟩)) | 5 => .v (.int .i64 (j : Int)) | 6 => .v (.slice (some { block := g, off := off }) m q) | 7 => .v (.int .i64 (k : Int)) | 8 => .v (.pointer (some ⟨g, off + k * 2, none⟩)) | 9 => .v (.pointer (some ⟨g, off + k * 2 + 1, none⟩)) | 10 => .v (.int .i64 v) | 11 => .v (.pointer (some ⟨gB, j, none⟩)) | _ => .any) _ (by kernel_rfl) rfl rfl (by kernel_rfl) (by kernel_rfl) (fun i hi => by show ( 16 + i) < 29; (repeat' split) <;> omega) (fun i j hi hj => by show ( 16 + i) = ( 16 + j) → i = j; (repeat' split) <;> omega) ?step ?fin
      case step =>
        intro L_ A_ w3 ix op_ hi hI ho hdep
        have hcase : ix = 0 ∨ ix = 1 ∨ ix = 2 ∨ ix = 3 ∨ ix = 4 ∨ ix = 5 ∨ ix = 6 ∨ ix = 7 ∨ ix = 8 ∨ ix = 9 ∨ ix = 10 ∨ ix = 11 := by omega
        have hh := hI.held
        clear hi
        rcases hcase with rfl | rfl | rfl | rfl | rfl | rfl | rfl | rfl | rfl | rfl | rfl | rfl
        · simp only [List.getElem?_toArray, List.getElem?_cons_zero, Option.some.injEq] at ho
          subst ho
          refine ⟨rfl, ?_⟩
          have e5 : A_.tmps[5]?.getD undef = .slice (some ⟨gB, 0, none⟩) n r := by rw [hI.low 5 (by decide)]; rfl
          clear hI hdep
          exact .run rfl (.slice (some ⟨gB, 0, none⟩) n r) w3 (by simp [execOp, go_sem, Act.eval, e5]) (Below.refl _ _) rfl
        · simp only [List.getElem?_toArray, List.getElem?_cons_succ, List.getElem?_cons_zero, Option.some.injEq] at ho
          subst ho
          refine ⟨rfl, ?_⟩
          have e1 : A_.tmps[1]?.getD undef = .slice (some { block := g, off := off }) m q := by rw [hI.low 1 (by decide)]; rfl
          clear hI hdep
          exact .run rfl (.slice (some { block := g, off := off }) m q) w3 (by simp [execOp, go_sem, Act.eval, e1]) (Below.refl _ _) rfl
        · simp only [List.getElem?_toArray, List.getElem?_cons_succ, List.getElem?_cons_zero, Option.some.injEq] at ho
          subst ho
          refine ⟨rfl, ?_⟩
          have e6 : A_.tmps[6]?.getD undef = .int .i64 (k : Int) := by rw [hI.low 6 (by decide)]; rfl
          clear hI hdep
          exact .run rfl (.int .i64 (k : Int)) w3 (by simp [execOp, go_sem, Act.eval, e6]) (Below.refl _ _) rfl
        · simp only [List.getElem?_toArray, List.getElem?_cons_succ, List.getElem?_cons_zero, Option.some.injEq] at ho
          subst ho
          refine ⟨rfl, ?_⟩
          have e17 : A_.tmps[17]?.getD undef = .slice (some { block := g, off := off }) m q := getD_of (hI.val_ (i := 1) rfl rfl (by decide) (hdep ⟨1, .data⟩ (by simp) rfl))
          have e18 : A_.tmps[18]?.getD undef = .int .i64 (k : Int) := getD_of (hI.val_ (i := 2) rfl rfl (by decide) (hdep ⟨2, .data⟩ (by simp) rfl))
          clear hI hdep
          exact .run rfl (.pointer (some ⟨g, off + k * 2, none⟩)) w3 (by simp [execOp, go_sem, Act.eval, e17, e18]; omega) (Below.refl _ _) rfl
        · simp only [List.getElem?_toArray, List.getElem?_cons_succ, List.getElem?_cons_zero, Option.some.injEq] at ho
          subst ho
          refine ⟨rfl, ?_⟩
          have e19 : A_.tmps[19]?.getD undef = .pointer (some ⟨g, off + k * 2, none⟩) := getD_of (hI.val_ (i := 3) rfl rfl (by decide) (hdep ⟨3, .data⟩ (by simp) rfl))
          clear hI hdep
          exact .run rfl (.pointer (some ⟨g, off + k * 2, none⟩)) w3 (by simp [execOp, go_sem, Act.eval, e19]) (Below.refl _ _) rfl
        · simp only [List.getElem?_toArray, List.getElem?_cons_succ, List.getElem?_cons_zero, Option.some.injEq] at ho
          subst ho
          refine ⟨rfl, ?_⟩
          have e20 : A_.tmps[20]?.getD undef = .pointer (some ⟨g, off + k * 2, none⟩) := getD_of (hI.val_ (i := 4) rfl rfl (by decide) (hdep ⟨4, .data⟩ (by simp) rfl))
          clear hI hdep
          have d0 := (HC.out w3 hh).1
          exact .run rfl (.int .i64 (j : Int)) w3 (by simp [execOp, go_sem, Act.eval, e20, d0]) (Below.refl _ _) rfl
        · simp only [List.getElem?_toArray, List.getElem?_cons_succ, List.getElem?_cons_zero, Option.some.injEq] at ho
          subst ho
          refine ⟨rfl, ?_⟩
          have e1 : A_.tmps[1]?.getD undef = .slice (some { block := g, off := off }) m q := by rw [hI.low 1 (by decide)]; rfl
          clear hI hdep
          exact .run rfl (.slice (some { block := g, off := off }) m q) w3 (by simp [execOp, go_sem, Act.eval, e1]) (Below.refl _ _) rfl
        · simp only [List.getElem?_toArray, List.getElem?_cons_succ, List.getElem?_cons_zero, Option.some.injEq] at ho
          subst ho
          refine ⟨rfl, ?_⟩
          have e6 : A_.tmps[6]?.getD undef = .int .i64 (k : Int) := by rw [hI.low 6 (by decide)]; rfl
          clear hI hdep
          exact .run rfl (.int .i64 (k : Int)) w3 (by simp [execOp, go_sem, Act.eval, e6]) (Below.refl _ _) rfl
        · simp only [List.getElem?_toArray, List.getElem?_cons_succ, List.getElem?_cons_zero, Option.some.injEq] at ho
          subst ho
          refine ⟨rfl, ?_⟩
          have e22 : A_.tmps[22]?.getD undef = .slice (some { block := g, off := off }) m q := getD_of (hI.val_ (i := 6) rfl rfl (by decide) (hdep ⟨6, .data⟩ (by simp) rfl))
          have e23 : A_.tmps[23]?.getD undef = .int .i64 (k : Int) := getD_of (hI.val_ (i := 7) rfl rfl (by decide) (hdep ⟨7, .data⟩ (by simp) rfl))
          clear hI hdep
          exact .run rfl (.pointer (some ⟨g, off + k * 2, none⟩)) w3 (by simp [execOp, go_sem, Act.eval, e22, e23]; omega) (Below.refl _ _) rfl
        · simp only [List.getElem?_toArray, List.getElem?_cons_succ, List.getElem?_cons_zero, Option.some.injEq] at ho
          subst ho
          refine ⟨rfl, ?_⟩
          have e24 : A_.tmps[24]?.getD undef = .pointer (some ⟨g, off + k * 2, none⟩) := getD_of (hI.val_ (i := 8) rfl rfl (by decide) (hdep ⟨8, .data⟩ (by simp) rfl))
          clear hI hdep
          exact .run rfl (.pointer (some ⟨g, off + k * 2 + 1, none⟩)) w3 (by simp [execOp, go_sem, Act.eval, e24]) (Below.refl _ _) rfl
        · simp only [List.getElem?_toArray, List.getElem?_cons_succ, List.getElem?_cons_zero, Option.some.injEq] at ho
          subst ho
          refine ⟨rfl, ?_⟩
          have e25 : A_.tmps[25]?.getD undef = .pointer (some ⟨g, off + k * 2 + 1, none⟩) := getD_of (hI.val_ (i := 9) rfl rfl (by decide) (hdep ⟨9, .data⟩ (by simp) rfl))
          clear hI hdep
          have d0 := (HC.out w3 hh).2
          exact .run rfl (.int .i64 v) w3 (by simp [execOp, go_sem, Act.eval, e25, d0]) (Below.refl _ _) rfl
        · simp only [List.getElem?_toArray, List.getElem?_cons_succ, List.getElem?_cons_zero, Option.some.injEq] at ho
          subst ho
          refine ⟨rfl, ?_⟩
          have e16 : A_.tmps[16]?.getD undef = .slice (some ⟨gB, 0, none⟩) n r := getD_of (hI.val_ (i := 0) rfl rfl (by decide) (hdep ⟨0, .data⟩ (by simp) rfl))
          have e21 : A_.tmps[21]?.getD undef = .int .i64 (j : Int) := getD_of (hI.val_ (i := 5) rfl rfl (by decide) (hdep ⟨5, .data⟩ (by simp) rfl))
          clear hI hdep
          exact .run rfl (.pointer (some ⟨gB, j, none⟩)) w3 (by simp [execOp, go_sem, Act.eval, e16, e21]; omega) (Below.refl _ _) rfl
      case fin =>
      intro A_ w3 hs hd hlow hS hok
      obtain rfl : A_ = ⟨#[.slice A n c, .slice (some { block := g, off := off }) m q, undef, undef, .slice none 0 0, .slice (some ⟨gB, 0, none⟩) n r, .int .i64 (k : Int), .slice (some ⟨w.heap.size, 0, none⟩) 0 0, .slice A n c, .slice (some ⟨gB, 0, none⟩) n r, .int .i64 (k : Int), .slice (some { block := g, off := off }) m q, .int .i64 (m : Int), .bool true, u14, u15, .slice (some ⟨gB, 0, none⟩) n r, .slice (some { block := g, off := off }) m q, .int .i64 (k : Int), .pointer (some ⟨g, off + k * 2, none⟩), .pointer (some ⟨g, off + k * 2, none⟩), .int .i64 (j : Int), .slice (some { block := g, off := off }) m q, .int .i64 (k : Int), .pointer (some ⟨g, off + k * 2, none⟩), .pointer (some ⟨g, off + k * 2 + 1, none⟩), .int .i64 v, .pointer (some ⟨gB, j, none⟩), undef], []⟩ := act_ext hd hs (fun j hj => match j, hj with | 0, _ => (hlow 0 (by decide)).trans rfl | 1, _ => (hlow 1 (by decide)).trans rfl | 2, _ => (hlow 2 (by decide)).trans rfl | 3, _ => (hlow 3 (by decide)).trans rfl | 4, _ => (hlow 4 (by decide)).trans rfl | 5, _ => (hlow 5 (by decide)).trans rfl | 6, _ => (hlow 6 (by decide)).trans rfl | 7, _ => (hlow 7 (by decide)).trans rfl | 8, _ => (hlow 8 (by decide)).trans rfl | 9, _ => (hlow 9 (by decide)).trans rfl | 10, _ => (hlow 10 (by decide)).trans rfl | 11, _ => (hlow 11 (by decide)).trans rfl | 12, _ => (hlow 12 (by decide)).trans rfl | 13, _ => (hlow 13 (by decide)).trans rfl | 14, _ => (hlow 14 (by decide)).trans rfl | 15, _ => (hlow 15 (by decide)).trans rfl | 16, _ => RgX.val_at (hok 0 16 _ (by decide) rfl rfl) | 17, _ => RgX.val_at (hok 1 17 _ (by decide) rfl rfl) | 18, _ => RgX.val_at (hok 2 18 _ (by decide) rfl rfl) | 19, _ => RgX.val_at (hok 3 19 _ (by decide) rfl rfl) | 20, _ => RgX.val_at (hok 4 20 _ (by decide) rfl rfl) | 21, _ => RgX.val_at (hok 5 21 _ (by decide) rfl rfl) | 22, _ => RgX.val_at (hok 6 22 _ (by decide) rfl rfl) | 23, _ => RgX.val_at (hok 7 23 _ (by decide) rfl rfl) | 24, _ => RgX.val_at (hok 8 24 _ (by decide) rfl rfl) | 25, _ => RgX.val_at (hok 9 25 _ (by decide) rfl rfl) | 26, _ => RgX.val_at (hok 10 26 _ (by decide) rfl rfl) | 27, _ => RgX.val_at (hok 11 27 _ (by decide) rfl rfl) | 28, _ => (hlow 28 (by decide)).trans rfl | n + 29, h => absurd h (by show ¬ n + 29 < 29; omega))
      clear hs hd hlow hok 
      have hsz : j + (Value.int .i64 v).cells.size ≤ cur.size := by show j + 1 ≤ _; rw [HG.out.2.1]; omega
      refine RgX.wpList_store_seg rfl 3 _ _ rfl gB j (.int .i64 v) rfl rfl 3 cur ((hS.block _ (blk_lt HG.out.1)).trans HG.out.1) dk_sz_int hsz (by simp [Value.cells, Value.oneCell']) _ rfl ?_
      intro W4 k4 ho4 hz4 hb4
      have HO4 := Lib.hid (own_set (W := W4) HG.out.2.2.2.1 hnr HG.out.2.2.2.2 HG.out.2.1 HG.out.2.2.1 hj HL.out rfl k4)
      have HB4 := Lib.hid (show Below w.heap.size w W4 from (HV.out.trans (hS.mono HV.out.size)).trans (hb4.mono HG.out.2.2.2.1))
      clear k4 ho4 hz4 hb4 hS hsz
      go_wp2_with fail
      go_roundw
      case rel => exact ⟨k + 1, by omega, by go_num, show World.ownsRow _ _ _ _ _ _ _ by rw [HX.out, app1_in (by rw [HL.out]; exact hj)]; exact HO4.out, HB4.out⟩
      case measure => simp [intOf]; omega
    · obtain rfl : k = m := by omega
      have dk : decide (k < k) = false := decide_eq_false hin
      have HT := Lib.hid (show ws.take k = ws from List.take_of_length_le (Nat.le_of_eq HN.out.2.1))
      rw [HT.out] at HK
      go_wp2_with fail
      go_ret
      exact ⟨⟨B, r, rfl, HK.out⟩, HV.out⟩
set_option maxHeartbeats 1000000 in
theorem refNew_any (k : Nat) (hk : k ≤ 16) (w : World) : Calls Try.prog 13 #[.int .i64 (k : Int)] w fun e w' => (∃ x, e = .returned x ∧ DkAt w.heap.size w' x (DK.new k)) ∧ Below w.heap.size w w' := by
  have hmk := dk_make_ints k (by omega)
  obtain ⟨U, hU, hb, k0, k1, hz⟩ := dk_two_boxes w (.cells #[.slice (some ⟨w.heap.size + 1, 0, none⟩) k k, .slice none 0 0] 26) (.cells (Array.replicate k (.int .i64 0)) 3)
  have HU := Lib.hid (And.intro hb (And.intro k0 k1))
  have HE := Lib.hid hU
  clear hb k0 k1 hz hU
  go_enter Try.func13, Try.ntmps13
  go_wp2_with fail
  rw [HE.out]
  refine bodyPost_ret (dk_ret rfl _ rfl HU.out.2.1) rfl ?_
  exact ⟨⟨_, rfl, _, k, k, _, _, _, rfl, Cls.of_block (g := w.heap.size + 1) (by rw [HU.out.2.2, zeros_ints]; rfl) (by omega) (by simp [DK.new]) (by omega), Rw.nil _ _ _ _⟩, HU.out.1⟩
/-- The writes' cells are there. -/
def DK.In (d : DK.Dk) : Prop := ∀ x ∈ d.pend, 0 ≤ x.1 ∧ x.1 < (d.cells.length : Int)
set_option maxHeartbeats 1000000 in
theorem refView_any {lo : Nat} {x : Value} {d : DK.Dk} (w : World) (h : DkAt lo w x d) (hin : DK.In d) (bn : d.cells.length ≤ 1000) (bm : d.pend.length ≤ 1000) : Calls Try.prog 20 #[x] w fun e w' => (∃ B r, e = .returned (.slice B d.cells.length r) ∧ w'.ownsRow w.heap.size 3 1 (.slice B d.cells.length r) d.cells.length (DK.intsC (DK.view d))) ∧ Below w.heap.size w w' := by
  obtain ⟨A, n, c, P, m, q, rfl, h1, h2⟩ := h
  obtain ⟨U, hU⟩ : ∃ U, w.alloc (.cells #[.slice A n c, .slice P m q] 26) = U := ⟨_, rfl⟩
  have hb : Below w.heap.size w U := hU ▸ dk_box w _
  obtain ⟨k0, k1⟩ := dk_two (show U.heap[w.heap.size]? = some (.cells #[.slice A n c, .slice P m q] 26 (0, 0)) by rw [← hU]; exact dk_new_at rfl)
  have hn := h1.len
  have hm := h2.len
  have H := Lib.hid (refAfter_any U (h1.keep hb) (h2.keep hb) (by omega) (by omega) (by rw [← hn]; exact hin))
  have HB := Lib.hid hb
  have HN := Lib.hid hn
  clear h1 h2 hb hn hm hin
  go_enter Try.func20, Try.ntmps20
  go_wp2_with (go_at_call 36; refine H.out.mono ?_; rintro e w2 ⟨⟨B, r, rfl, ho⟩, hb2⟩)
  go_ret
  rw [HN.out]
  exact ⟨⟨B, r, rfl, ho.1, ho.2.imp id fun ⟨g, cap, cur, e, h0, h3⟩ => ⟨g, cap, cur, e, Nat.le_trans HB.out.size h0, h3⟩⟩, HB.out.trans (hb2.mono HB.out.size)⟩
set_option maxHeartbeats 1000000 in
theorem refSync_any {lo : Nat} {x : Value} {d : DK.Dk} (w : World) (h : DkAt lo w x d) (hin : DK.In d) (bn : d.cells.length ≤ 1000) (bm : d.pend.length ≤ 1000) : Calls Try.prog 31 #[x] w fun e w' => (∃ y, e = .returned y ∧ DkAt w.heap.size w' y (DK.sync d)) ∧ Below w.heap.size w w' := by
  have h0 := h
  obtain ⟨A, n, c, P, m, q, rfl, h1, h2⟩ := h
  obtain ⟨U, hU, hb, k0, k1, hz⟩ := dk_two_boxes w (.cells #[.slice A n c, .slice P m q] 26) (.cells #[.slice none 0 0, .slice none 0 0] 26)
  obtain ⟨c0, c1⟩ := dk_two k0
  have H := Lib.hid (refView_any U (h0.keep hb) hin bn bm)
  have HU := Lib.hid (And.intro hb (And.intro k1 hz))
  have HN := Lib.hid (show (DK.view d).length = d.cells.length from DK.view_len d)
  clear h0 h1 h2 hb k0 k1 hz hin
  go_enter Try.func31, Try.ntmps31
  go_wp2_with (first | (go_at_call 20; refine H.out.mono ?_; rintro e w2 ⟨⟨B, r, rfl, ho⟩, hb2⟩; have HK := Lib.hid (And.intro (show Cls U.heap.size w2 B d.cells.length r (DK.view d) from Rw.of_own ho) hb2); have hres := (hb2.block _ (by have := HU.out.2.2; omega)).trans HU.out.2.1; have HR := Lib.hid hres; clear ho hb2 hres) | (refine dk_store rfl _ _ rfl (w.heap.size + 1) B d.cells.length r none 0 0 _ _ rfl rfl HR.out ?_; intro w3 k3 ho3 hz3 hb3))
  refine bodyPost_ret (dk_ret rfl _ rfl k3) rfl ?_
  obtain ⟨hk, hb2⟩ := HK.out
  obtain ⟨hb, k1, hz⟩ := HU.out
  exact ⟨⟨_, rfl, _, _, _, _, _, _, rfl, dk_moveC hk (fun g hg => ho3 g (by omega)) (by omega), Rw.nil _ _ _ _⟩, (hb.trans (hb2.mono hb.size)).trans (hb3.mono (by omega))⟩
end Go.Proofs.Ytgdefhlcgmibcaa
