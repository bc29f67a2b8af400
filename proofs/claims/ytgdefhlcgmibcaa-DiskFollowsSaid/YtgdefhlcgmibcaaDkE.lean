/-
  The package's Write. No condition but the lengths.
-/
import Derived.Test.YtgdefhlcgmibcaaDkD
import Derived.Deep.Cut
import Derived.IntWalk
namespace Go.Proofs.Ytgdefhlcgmibcaa
open Go Go.RowKit Go.Proofs
attribute [local go_sem] Oper.semAt_some

theorem wrs_part {lo n c p g off : Nat} {w : World} {ws : List DK.Wr} (h : Wrs lo w (some ⟨g, off, none⟩) n c ws) (hp : p ≤ n) : Wrs lo w (some ⟨g, off + p * 2, none⟩) (n - p) (c - p) (ws.drop p) := by
  obtain ⟨h1, h2, h3, h4⟩ := h
  rcases h4 with ⟨h4, _⟩ | ⟨g', off', C, e, hg, hc, hj⟩
  · cases h4
  · injection e with e
    injection e with e1 e2
    subst e1
    subst e2
    rw [DK.wrsC_len] at h1
    refine ⟨by rw [DK.wrsC_len, List.length_drop]; omega, by omega, by omega, .inr ⟨g, off + p * 2, C, rfl, hg, hc, fun j u hu => ?_⟩⟩
    rw [← DK.wrsC_drop, List.getElem?_drop] at hu
    rw [Nat.add_assoc]
    exact hj _ u hu
theorem wrs_front {lo n c p : Nat} {A : Option Addr} {w : World} {ws : List DK.Wr} (h : Wrs lo w A n c ws) (hp : p ≤ n) : Wrs lo w A p c (ws.take p) := by
  have := Rw.front h hp
  rw [DK.wrsC_take] at this
  exact this
theorem own_of_block {V : World} {t : TypeId} {sz g base m cap : Nat} {C : Array Value} {vs : List Value} (hg : V.heap[g]? = some (.cells C t (0, 0))) (hb : base ≤ g) (hl : vs.length = m * sz) (hm : m ≤ cap) (hcap : cap ≤ maxLen) (hC : C.size = cap * sz) (hp : C.toList.take (m * sz) = vs) : V.ownsRow base t sz (.slice (some ⟨g, 0, none⟩) m cap) m vs := ⟨hl, .inr ⟨g, cap, C, rfl, hb, hg, hm, hcap, hC, hp⟩⟩
theorem own_addr {V : World} {t : TypeId} {sz base n c : Nat} {B : Option Addr} {vs : List Value} (h : V.ownsRow base t sz (.slice B n c) n vs) (hn : 0 < n) : ∃ g, B = some ⟨g, 0, none⟩ ∧ n ≤ c ∧ c ≤ maxLen := by
  rcases h.2 with ⟨_, h⟩ | ⟨g, cap, cur, e, _, _, h1, h2, _⟩
  · omega
  · injection e with e1 _ e2
    subst e2
    exact ⟨g, e1, h1, h2⟩
set_option maxHeartbeats 4000000 in
set_option maxRecDepth 100000 in
theorem write_any {lo : Nat} {x : Value} {d : DK.Dk} (a v : Int) (w : World) (h : DkAt lo w x d) (bn : d.cells.length ≤ 1000) (bm : d.pend.length ≤ 1000) : Calls Try.prog 23 #[x, .int .i64 a, .int .i64 v] w fun e w' => (∃ y, e = .returned y ∧ DkAt w.heap.size w' y (DK.write d a v)) ∧ Below w.heap.size w w' := by
  obtain ⟨A, n, c, P, m, q, rfl, h1, h2⟩ := h
  obtain ⟨U, hU, hbu, k0, k1, hz⟩ := dk_two_boxes w (.cells #[.slice A n c, .slice P m q] 26) (.cells #[.slice none 0 0, .slice none 0 0] 26)
  have hn := h1.len
  have hm := h2.len
  obtain ⟨Zc, hzc, hmk0⟩ := dk_make_wrs m (m + 1) (by omega) (by omega)
  have hmk : ∀ W : World, (Instr.makeSlice 24 (.int .i64 (m : Int)) (.int .i64 ((m : Int) + 1))).run Try.prog W = .ok (.slice (some ⟨W.heap.size, 0, none⟩) m (m + 1)) (W.alloc (.cells Zc 46)) := hmk0
  clear hmk0
  obtain ⟨V, hV⟩ : ∃ V, U.alloc (.cells Zc 46) = V := ⟨_, rfl⟩
  have hbv : Below U.heap.size U V := hV ▸ dk_box U _
  have hzv : V.heap.size = U.heap.size + 1 := by rw [← hV]; simp
  have kv : V.heap[U.heap.size]? = some (.cells Zc 46 (0, 0)) := by rw [← hV]; exact dk_new_at rfl
  obtain ⟨c0, c1⟩ := dk_two k0
  obtain ⟨e0, e1⟩ := dk_two ((hbv.block _ (by omega)).trans k0)
  have HK := Lib.hid (fun (W : World) (hW : Below U.heap.size U W) => dk_two ((hW.block _ (by omega)).trans k0))
  have HF := Lib.hid (fun (W : World) (hW : Below U.heap.size U W) => (hW.block _ (by omega)).trans k1)
  have HX := Lib.hid (fun (W : World) (hW : Below U.heap.size U W) => (h1.keep hbu).keep hW)
  have HB := Lib.hid (And.intro hbu hz)
  have HN := Lib.hid (And.intro hn (And.intro hm (And.intro (show n ≤ 1000 by omega) (show m ≤ 1000 by omega))))
  have hcs : (DK.wrsC d.pend).length = Nat.min m m * 2 := by rw [DK.wrsC_len, hm]; show _ = min m m * 2; omega
  have hfit : 0 + (DK.wrsC d.pend).length ≤ Zc.size := by rw [DK.wrsC_len, hm, hzc]; omega
  have hsrc : (P = none ∧ m = 0 ∧ q = 0) ∨ ∃ ad, P = some ad ∧ ∀ j u, (DK.wrsC d.pend)[j]? = some u → V.cell? (ad.add j) = some u := by
    have := Rw.copySrc ((h2.keep hbu).keep hbv) (m * 2)
    rwa [List.take_of_length_le (by rw [DK.wrsC_len]; omega)] at this
  have HC := Lib.hid (And.intro hcs (And.intro hfit (And.intro hsrc (And.intro hbv (And.intro hzv (And.intro kv hzc))))))
  have hw1 : IntKind.i64.wrap ((m : Int) + 1) = (m : Int) + 1 := IntWalk.i64_in _ (by omega)
  clear k0 k1 hbu hz h1 h2 hn hm hbv hzv kv hcs hfit hsrc hzc
  by_cases hr : 0 ≤ a ∧ a < (n : Int)
  · have HH := Lib.hid (fun W => show Calls Try.prog 37 #[.slice A n c, .int .i64 a] W fun e w' => e = .returned (.bool true) ∧ W = w' from by rw [← decide_eq_true hr]; exact has_any _ _ _ _ _)
    have HR := Lib.hid hr
    obtain ⟨i0, hi, hz0, hz1, hz2⟩ := dk_info dk_wr
    have HI := Lib.hid (And.intro hi (And.intro hz0 (And.intro hz1 hz2)))
    clear hr hi hz0 hz1 hz2
    go_enter Try.func23, Try.ntmps23
    go_upto_region 5 with (first | (go_at_call 37; refine (HH.out _).mono ?_; rintro e w2 ⟨rfl, rfl⟩) | (refine wpList_copy_any rfl _ _ _ _ rfl 46 2 Try.underlying24 dk_sz_wr U.heap.size 0 m (m + 1) P m q rfl rfl _ 46 HC.out.2.2.2.2.2.1 _ HC.out.1 HC.out.2.2.1 HC.out.2.1 (DK.wrsC_one _) _ rfl ?_; intro V1 kg ho hz1 hb1; have HG := Lib.hid (And.intro kg (And.intro ho (And.intro hz1 hb1))); have HV1 := Lib.hid (HC.out.2.2.2.1.trans hb1); obtain ⟨f0, f1⟩ := HK.out V1 HV1.out; clear kg ho hz1 hb1))
    obtain ⟨Y, hY⟩ : ∃ Y, V1.alloc (.cells #[.int .i64 a, .int .i64 v] 46) = Y := ⟨_, rfl⟩
    have hbY : Below V1.heap.size V1 Y := hY ▸ dk_box V1 _
    have hy := dk_two (show Y.heap[V1.heap.size]? = some (.cells #[.int .i64 a, .int .i64 v] 46 (0, 0)) by rw [← hY]; exact dk_new_at rfl)
    have hown : V1.ownsRow U.heap.size 46 2 (.slice (some ⟨U.heap.size, 0, none⟩) m (m + 1)) m (DK.wrsC d.pend) := by
      have hl : (DK.wrsC d.pend).length = m * 2 := by rw [DK.wrsC_len, HN.out.2.1]
      refine own_of_block HG.out.1 (Nat.le_refl _) hl (by omega) (by have := HN.out.2.2.2; simp only [maxLen]; omega) ?_ ?_
      · have := HC.out.2.2.2.2.2.2
        simp [hl]
        omega
      · simp [hl]
    have hsrc : RgX.Src Y (some ⟨V1.heap.size, 0, none⟩) 1 1 (DK.wrC (a, v)) := .inr ⟨_, rfl, fun j u hu => by
      match j, hu with
      | 0, hu => injection hu with hu; subst hu; exact hy.1
      | 1, hu => injection hu with hu; subst hu; exact hy.2⟩
    have HY := Lib.hid (And.intro (dk_own_keep hown hbY) (And.intro hsrc (And.intro (HV1.out.trans (hbY.mono HV1.out.size)) (HV1.out.trans (hbY.mono HV1.out.size)).size)))
    have H1 := Lib.hid (show ∀ u ∈ DK.wrC (a, v), u.oneCell' = true by intro u hu; simp [DK.wrC] at hu; rcases hu with rfl | rfl <;> rfl)
    have HM := Lib.hid (And.intro (show m + 1 ≤ maxLen by have := HN.out.2.2.2; simp only [maxLen]; omega) (show (m + 1) * 16 ≤ 140737488355328 by have := HN.out.2.2.2; omega))
    clear hbY hy hown hsrc c0 c1 e0 e1 f0 f1 hU hV hmk
    go_upto_region 6 with (at_builtin; refine RgX.wpList_append_any rfl _ _ 24 rfl U.heap.size 46 i0 _ 2 16 Try.underlying24 HI.out.1 HI.out.2.1 HI.out.2.2.1 HI.out.2.2.2 rfl (by decide) _ m (DK.wrsC d.pend) rfl HY.out.1 (some ⟨V1.heap.size, 0, none⟩) 1 1 (DK.wrC (a, v)) rfl rfl HY.out.2.1 H1.out HM.out.1 HM.out.2 HY.out.2.2.2 ?_; intro B2 r2 Z2 ho2 hg2)
    obtain ⟨gB, rfl, hr1, hr2⟩ := own_addr ho2 (by omega)
    have hm3 : m ≤ 1000 := HN.out.2.2.2
    have HZ := Lib.hid (dk_grown HY.out.1 HY.out.2.2.1 hg2 HY.out.2.2.2)
    have HO := Lib.hid (show Wrs U.heap.size Z2 (some ⟨gB, 0, none⟩) (m + 1) r2 (d.pend ++ [(a, v)]) from Rw.of_own (by rw [DK.wrsC_app]; exact ho2))
    clear ho2 hg2 hY
    obtain ⟨p, hp⟩ : ∃ p, m + 1 - 4 = p := ⟨_, rfl⟩
    have hp1 : p ≤ m + 1 := by omega
    have hp2 : p < r2 := by omega
    have hp3 : p ≤ 1000 := by omega
    have hsb : IntKind.i64.wrap ((m : Int) + 1 - 4) = (m : Int) + 1 - 4 := IntWalk.i64_in _ (by omega)
    have hmx : (if (m : Int) + 1 - 4 < 0 then (0 : Int) else (m : Int) + 1 - 4) = (p : Int) := by split <;> omega
    have HP := Lib.hid hp
    clear hp
    go_upto_region 7 with fail
    clear hsb hmx
    refine RgX.tail 10 (fun i => ( 35 + i)) (fun ix_ => match ix_ with | 0 => .v (.pointer (some ⟨w.heap.size, 0, none⟩)) | 1 => .v (.slice A n c) | 2 => .v (.slice (some ⟨gB, 0, none⟩) (m + 1) r2) | 3 => .v (.int .i64 (p : Int)) | 4 => .wrs U.heap.size ((d.pend ++ [(a, v)]).take p) p | 5 => .cls U.heap.size (DK.app d.cells ((d.pend ++ [(a, v)]).take p)) n | 6 => .v (.slice (some ⟨gB, 0, none⟩) (m + 1) r2) | 7 => .v (.int .i64 (p : Int)) | 8 => .wrs U.heap.size ((d.pend ++ [(a, v)]).drop p) ((m + 1) - p) | 9 => .dk U.heap.size ⟨DK.app d.cells ((d.pend ++ [(a, v)]).take p), (d.pend ++ [(a, v)]).drop p⟩ n ((m + 1) - p) | _ => .any) _ (by kernel_rfl) rfl rfl (by kernel_rfl) (by kernel_rfl) (fun i hi => by show ( 35 + i) < 45; (repeat' split) <;> omega) (fun i j hi hj => by show ( 35 + i) = ( 35 + j) → i = j; (repeat' split) <;> omega) ?step ?fin
    case step =>
      intro L_ A_ w3 ix op_ hi hI ho hdep
      have hcase : ix = 0 ∨ ix = 1 ∨ ix = 2 ∨ ix = 3 ∨ ix = 4 ∨ ix = 5 ∨ ix = 6 ∨ ix = 7 ∨ ix = 8 ∨ ix = 9 := by omega
      have hh := hI.held
      clear hi
      rcases hcase with rfl | rfl | rfl | rfl | rfl | rfl | rfl | rfl | rfl | rfl
      · simp only [List.getElem?_toArray, List.getElem?_cons_zero, Option.some.injEq] at ho
        subst ho
        refine ⟨rfl, ?_⟩
        have e3 : A_.tmps[3]?.getD undef = .pointer (some ⟨w.heap.size, 0, none⟩) := by rw [hI.low 3 (by decide)]; rfl
        clear hI hdep
        exact .run rfl (.pointer (some ⟨w.heap.size, 0, none⟩)) w3 (by simp [execOp, go_sem, Act.eval, e3]) (Below.refl _ _) rfl
      · simp only [List.getElem?_toArray, List.getElem?_cons_succ, List.getElem?_cons_zero, Option.some.injEq] at ho
        subst ho
        refine ⟨rfl, ?_⟩
        have e35 : A_.tmps[35]?.getD undef = .pointer (some ⟨w.heap.size, 0, none⟩) := getD_of (hI.val_ (i := 0) rfl rfl (by decide) (hdep ⟨0, .data⟩ (by simp) rfl))
        clear hI hdep
        obtain ⟨d0, d1⟩ := HK.out w3 (HZ.out.trans (hh.mono HZ.out.size))
        exact .run rfl (.slice A n c) w3 (by simp [execOp, go_sem, Act.eval, *]) (Below.refl _ _) rfl
      · simp only [List.getElem?_toArray, List.getElem?_cons_succ, List.getElem?_cons_zero, Option.some.injEq] at ho
        subst ho
        refine ⟨rfl, ?_⟩
        have e7 : A_.tmps[7]?.getD undef = .slice (some ⟨gB, 0, none⟩) (m + 1) r2 := by rw [hI.low 7 (by decide)]; rfl
        clear hI hdep
        exact .run rfl (.slice (some ⟨gB, 0, none⟩) (m + 1) r2) w3 (by simp [execOp, go_sem, Act.eval, e7]) (Below.refl _ _) rfl
      · simp only [List.getElem?_toArray, List.getElem?_cons_succ, List.getElem?_cons_zero, Option.some.injEq] at ho
        subst ho
        refine ⟨rfl, ?_⟩
        have e8 : A_.tmps[8]?.getD undef = .int .i64 (p : Int) := by rw [hI.low 8 (by decide)]; rfl
        clear hI hdep
        exact .run rfl (.int .i64 (p : Int)) w3 (by simp [execOp, go_sem, Act.eval, e8]) (Below.refl _ _) rfl
      · simp only [List.getElem?_toArray, List.getElem?_cons_succ, List.getElem?_cons_zero, Option.some.injEq] at ho
        subst ho
        refine ⟨rfl, ?_⟩
        have e37 : A_.tmps[37]?.getD undef = .slice (some ⟨gB, 0, none⟩) (m + 1) r2 := getD_of (hI.val_ (i := 2) rfl rfl (by decide) (hdep ⟨2, .data⟩ (by simp) rfl))
        have e38 : A_.tmps[38]?.getD undef = .int .i64 (p : Int) := getD_of (hI.val_ (i := 3) rfl rfl (by decide) (hdep ⟨3, .data⟩ (by simp) rfl))
        clear hI hdep
        have g1 : (0 : Int) ≤ (p : Int) := by omega
        have g2 : (p : Int) ≤ (r2 : Int) := by omega
        exact .run rfl (.slice (some ⟨gB, 0, none⟩) p (r2)) w3 (by simp [execOp, go_sem, Act.eval, e37, e38, g1, g2]) (Below.refl _ _) ⟨_, _, rfl, wrs_front (HO.out.keep hh) (by omega)⟩
      · simp only [List.getElem?_toArray, List.getElem?_cons_succ, List.getElem?_cons_zero, Option.some.injEq] at ho
        subst ho
        refine ⟨rfl, ?_⟩
        have e36 : A_.tmps[36]?.getD undef = .slice A n c := getD_of (hI.val_ (i := 1) rfl rfl (by decide) (hdep ⟨1, .data⟩ (by simp) rfl))
        obtain ⟨_, e39, B39, r39, rfl, h39⟩ := hI.get_ (i := 4) (j := 39) rfl rfl (by decide) (hdep ⟨4, .data⟩ (by simp) rfl)
        clear hI hdep
        exact .call rfl 35 #[.slice A n c, .slice B39 p r39] (by simp [go_sem, Act.eval, e36, e39]) (RgX.cls_calls_lo (Nat.le_trans HZ.out.size hh.size) (after_any w3 (HX.out w3 (HZ.out.trans (hh.mono HZ.out.size))) h39 HN.out.2.2.1 (by have := HN.out.2.2.2; omega)))
      · simp only [List.getElem?_toArray, List.getElem?_cons_succ, List.getElem?_cons_zero, Option.some.injEq] at ho
        subst ho
        refine ⟨rfl, ?_⟩
        have e7 : A_.tmps[7]?.getD undef = .slice (some ⟨gB, 0, none⟩) (m + 1) r2 := by rw [hI.low 7 (by decide)]; rfl
        clear hI hdep
        exact .run rfl (.slice (some ⟨gB, 0, none⟩) (m + 1) r2) w3 (by simp [execOp, go_sem, Act.eval, e7]) (Below.refl _ _) rfl
      · simp only [List.getElem?_toArray, List.getElem?_cons_succ, List.getElem?_cons_zero, Option.some.injEq] at ho
        subst ho
        refine ⟨rfl, ?_⟩
        have e8 : A_.tmps[8]?.getD undef = .int .i64 (p : Int) := by rw [hI.low 8 (by decide)]; rfl
        clear hI hdep
        exact .run rfl (.int .i64 (p : Int)) w3 (by simp [execOp, go_sem, Act.eval, e8]) (Below.refl _ _) rfl
      · simp only [List.getElem?_toArray, List.getElem?_cons_succ, List.getElem?_cons_zero, Option.some.injEq] at ho
        subst ho
        refine ⟨rfl, ?_⟩
        have e41 : A_.tmps[41]?.getD undef = .slice (some ⟨gB, 0, none⟩) (m + 1) r2 := getD_of (hI.val_ (i := 6) rfl rfl (by decide) (hdep ⟨6, .data⟩ (by simp) rfl))
        have e42 : A_.tmps[42]?.getD undef = .int .i64 (p : Int) := getD_of (hI.val_ (i := 7) rfl rfl (by decide) (hdep ⟨7, .data⟩ (by simp) rfl))
        clear hI hdep
        have g1 : (0 : Int) ≤ (p : Int) := by omega
        have g2 : (p : Int) ≤ ((m + 1) : Int) := by omega
        have g3 : ¬ r2 = p := by omega
        exact .run rfl (.slice (some ⟨gB, 0 + p * 2, none⟩) ((m + 1) - p) (r2 - p)) w3 (by simp [execOp, go_sem, Act.eval, e41, e42, g1, g2, g3]) (Below.refl _ _) ⟨_, _, rfl, wrs_part (HO.out.keep hh) (by omega)⟩
      · simp only [List.getElem?_toArray, List.getElem?_cons_succ, List.getElem?_cons_zero, Option.some.injEq] at ho
        subst ho
        refine ⟨rfl, ?_⟩
        obtain ⟨_, e40, g40, rfl, r40, l40⟩ := hI.get_ (i := 5) (j := 40) rfl rfl (by decide) (hdep ⟨5, .data⟩ (by simp) rfl)
        obtain ⟨_, e43, B43, r43, rfl, h43⟩ := hI.get_ (i := 8) (j := 43) rfl rfl (by decide) (hdep ⟨8, .data⟩ (by simp) rfl)
        clear hI hdep
        exact .run rfl (.agg #[.slice (some ⟨g40, 0, none⟩) n n, .slice B43 ((m + 1) - p) r43]) w3 (by simp [execOp, go_sem, Act.eval, e40, e43]) (Below.refl _ _) ⟨_, _, _, _, rfl, Cls.of_block r40 l40 (by rw [DK.app_len]; exact HN.out.1) (by have := HN.out.2.2.1; omega), h43⟩
    case fin =>
    intro A_ w3 hs hd hlow hS hok
    obtain ⟨_, hy39, B39, r39, rfl, h39⟩ := hok 4 39 _ (by decide) rfl rfl
    obtain ⟨_, hy40, g40, rfl, r40, l40⟩ := hok 5 40 _ (by decide) rfl rfl
    obtain ⟨_, hy43, B43, r43, rfl, h43⟩ := hok 8 43 _ (by decide) rfl rfl
    obtain ⟨_, hy44, A44, c44, P44, q44, rfl, h44, k44⟩ := hok 9 44 _ (by decide) rfl rfl
    obtain rfl : A_ = ⟨#[.agg #[.slice A n c, .slice P m q], .int .i64 a, .int .i64 v, .pointer (some ⟨w.heap.size, 0, none⟩), undef, undef, .pointer (some ⟨w.heap.size + 1, 0, none⟩), .slice (some ⟨gB, 0, none⟩) (m + 1) r2, .int .i64 (p : Int), .pointer (some ⟨w.heap.size, 1, none⟩), .slice P m q, .int .i64 (m : Int), .pointer (some ⟨w.heap.size, 1, none⟩), .slice P m q, .int .i64 (m : Int), .int .i64 ((m : Int) + 1), .slice (some ⟨U.heap.size, 0, none⟩) m (m + 1), .slice (some ⟨U.heap.size, 0, none⟩) m (m + 1), .pointer (some ⟨w.heap.size, 1, none⟩), .slice P m q, .int .i64 (m : Int), .pointer (some ⟨w.heap.size, 0, none⟩), .slice A n c, .int .i64 a, .bool true, .slice (some ⟨U.heap.size, 0, none⟩) m (m + 1), .int .i64 a, .int .i64 v, .agg #[.int .i64 a, .int .i64 v], .slice (some ⟨V1.heap.size, 0, none⟩) 1 1, .slice (some ⟨gB, 0, none⟩) (m + 1) r2, .slice (some ⟨gB, 0, none⟩) (m + 1) r2, .int .i64 ((m : Int) + 1), .int .i64 ((m : Int) + 1 - 4), .int .i64 (p : Int), .pointer (some ⟨w.heap.size, 0, none⟩), .slice A n c, .slice (some ⟨gB, 0, none⟩) (m + 1) r2, .int .i64 (p : Int), .slice B39 p r39, .slice (some ⟨g40, 0, none⟩) n n, .slice (some ⟨gB, 0, none⟩) (m + 1) r2, .int .i64 (p : Int), .slice B43 ((m + 1) - p) r43, .agg #[.slice A44 n c44, .slice P44 ((m + 1) - p) q44]], []⟩ := act_ext hd hs (fun j hj => match j, hj with | 0, _ => (hlow 0 (by decide)).trans rfl | 1, _ => (hlow 1 (by decide)).trans rfl | 2, _ => (hlow 2 (by decide)).trans rfl | 3, _ => (hlow 3 (by decide)).trans rfl | 4, _ => (hlow 4 (by decide)).trans rfl | 5, _ => (hlow 5 (by decide)).trans rfl | 6, _ => (hlow 6 (by decide)).trans rfl | 7, _ => (hlow 7 (by decide)).trans rfl | 8, _ => (hlow 8 (by decide)).trans rfl | 9, _ => (hlow 9 (by decide)).trans rfl | 10, _ => (hlow 10 (by decide)).trans rfl | 11, _ => (hlow 11 (by decide)).trans rfl | 12, _ => (hlow 12 (by decide)).trans rfl | 13, _ => (hlow 13 (by decide)).trans rfl | 14, _ => (hlow 14 (by decide)).trans rfl | 15, _ => (hlow 15 (by decide)).trans rfl | 16, _ => (hlow 16 (by decide)).trans rfl | 17, _ => (hlow 17 (by decide)).trans rfl | 18, _ => (hlow 18 (by decide)).trans rfl | 19, _ => (hlow 19 (by decide)).trans rfl | 20, _ => (hlow 20 (by decide)).trans rfl | 21, _ => (hlow 21 (by decide)).trans rfl | 22, _ => (hlow 22 (by decide)).trans rfl | 23, _ => (hlow 23 (by decide)).trans rfl | 24, _ => (hlow 24 (by decide)).trans rfl | 25, _ => (hlow 25 (by decide)).trans rfl | 26, _ => (hlow 26 (by decide)).trans rfl | 27, _ => (hlow 27 (by decide)).trans rfl | 28, _ => (hlow 28 (by decide)).trans rfl | 29, _ => (hlow 29 (by decide)).trans rfl | 30, _ => (hlow 30 (by decide)).trans rfl | 31, _ => (hlow 31 (by decide)).trans rfl | 32, _ => (hlow 32 (by decide)).trans rfl | 33, _ => (hlow 33 (by decide)).trans rfl | 34, _ => (hlow 34 (by decide)).trans rfl | 35, _ => RgX.val_at (hok 0 35 _ (by decide) rfl rfl) | 36, _ => RgX.val_at (hok 1 36 _ (by decide) rfl rfl) | 37, _ => RgX.val_at (hok 2 37 _ (by decide) rfl rfl) | 38, _ => RgX.val_at (hok 3 38 _ (by decide) rfl rfl) | 39, _ => hy39 | 40, _ => hy40 | 41, _ => RgX.val_at (hok 6 41 _ (by decide) rfl rfl) | 42, _ => RgX.val_at (hok 7 42 _ (by decide) rfl rfl) | 43, _ => hy43 | 44, _ => hy44 | n + 45, h => absurd h (by show ¬ n + 45 < 45; omega))
    clear hs hd hlow hok hy39 hy40 hy43 hy44
    refine dk_store rfl _ _ rfl (w.heap.size + 1) A44 n c44 P44 (m + 1 - p) q44 _ _ rfl rfl (HF.out w3 (HZ.out.trans (hS.mono HZ.out.size))) ?_
    intro W4 k4 ho4 hz4 hb4
    have HR4 := Lib.hid (And.intro h44 k44)
    have HS := Lib.hid (And.intro (HZ.out.trans (hS.mono HZ.out.size)) (And.intro ho4 (And.intro hz4 hb4)))
    clear h44 k44 hS ho4 hz4 hb4 h43 r40 l40 h39
    go_wp2_with fail
    refine bodyPost_ret (dk_ret rfl _ rfl k4) rfl ?_
    obtain ⟨hbu, hz⟩ := HB.out
    obtain ⟨hS, ho4, hz4, hb4⟩ := HS.out
    have s3 := hS.size
    have hD : (⟨DK.app d.cells ((d.pend ++ [(a, v)]).take p), (d.pend ++ [(a, v)]).drop p⟩ : DK.Dk) = DK.write d a v := by
      unfold DK.write
      rw [if_pos (by rw [HN.out.1]; exact HR.out)]
      unfold DK.full
      rw [HN.out.2.1, HP.out]
    rw [← hD]
    exact ⟨⟨_, rfl, _, _, _, _, _, _, rfl, dk_moveC HR4.out.1 (fun g hg => ho4 g (by omega)) (by omega), dk_moveW HR4.out.2 (fun g hg => ho4 g (by omega)) (by omega)⟩, (hbu.trans (hS.mono hbu.size)).trans (hb4.mono (by omega))⟩
  · have HH := Lib.hid (fun W => show Calls Try.prog 37 #[.slice A n c, .int .i64 a] W fun e w' => e = .returned (.bool false) ∧ W = w' from by rw [← decide_eq_false hr]; exact has_any _ _ _ _ _)
    have HR := Lib.hid hr
    have hm3 : m ≤ 1000 := HN.out.2.2.2
    clear hr
    go_enter Try.func23, Try.ntmps23
    go_upto_region 7 with (first | (go_at_call 37; refine (HH.out _).mono ?_; rintro e w2 ⟨rfl, rfl⟩) | (refine wpList_copy_any rfl _ _ _ _ rfl 46 2 Try.underlying24 dk_sz_wr U.heap.size 0 m (m + 1) P m q rfl rfl _ 46 HC.out.2.2.2.2.2.1 _ HC.out.1 HC.out.2.2.1 HC.out.2.1 (DK.wrsC_one _) _ rfl ?_; intro V1 kg ho hz1 hb1; have HG := Lib.hid kg; have HZ := Lib.hid (HC.out.2.2.2.1.trans hb1); obtain ⟨f0, f1⟩ := HK.out V1 HZ.out; clear kg ho hz1 hb1))
    have HO := Lib.hid (show Wrs U.heap.size V1 (some ⟨U.heap.size, 0, none⟩) m (m + 1) d.pend from by
      have hl : (DK.wrsC d.pend).length = m * 2 := by rw [DK.wrsC_len, HN.out.2.1]
      refine Rw.of_block HG.out (Nat.le_refl _) hl (by omega) (by simp only [maxLen]; omega) fun j u hu => ?_
      have hj : j < (DK.wrsC d.pend).length := (List.getElem?_eq_some_iff.1 hu).1
      rw [List.getElem?_toArray, List.take_zero, List.nil_append, List.getElem?_append_left hj]
      exact hu)
    clear hU hV hmk c0 c1 e0 e1 f0 f1
    refine RgX.tail 10 (fun i => ( 35 + i)) (fun ix_ => match ix_ with | 0 => .v (.pointer (some ⟨w.heap.size, 0, none⟩)) | 1 => .v (.slice A n c) | 2 => .v (.slice (some ⟨U.heap.size, 0, none⟩) m (m + 1)) | 3 => .v (.int .i64 0) | 4 => .wrs U.heap.size (d.pend.take 0) 0 | 5 => .cls U.heap.size (DK.app d.cells (d.pend.take 0)) n | 6 => .v (.slice (some ⟨U.heap.size, 0, none⟩) m (m + 1)) | 7 => .v (.int .i64 0) | 8 => .wrs U.heap.size d.pend m | 9 => .dk U.heap.size ⟨DK.app d.cells (d.pend.take 0), d.pend⟩ n m | _ => .any) _ (by kernel_rfl) rfl rfl (by kernel_rfl) (by kernel_rfl) (fun i hi => by show ( 35 + i) < 45; (repeat' split) <;> omega) (fun i j hi hj => by show ( 35 + i) = ( 35 + j) → i = j; (repeat' split) <;> omega) ?step ?fin
    case step =>
      intro L_ A_ w3 ix op_ hi hI ho hdep
      have hcase : ix = 0 ∨ ix = 1 ∨ ix = 2 ∨ ix = 3 ∨ ix = 4 ∨ ix = 5 ∨ ix = 6 ∨ ix = 7 ∨ ix = 8 ∨ ix = 9 := by omega
      have hh := hI.held
      clear hi
      rcases hcase with rfl | rfl | rfl | rfl | rfl | rfl | rfl | rfl | rfl | rfl
      · simp only [List.getElem?_toArray, List.getElem?_cons_zero, Option.some.injEq] at ho
        subst ho
        refine ⟨rfl, ?_⟩
        have e3 : A_.tmps[3]?.getD undef = .pointer (some ⟨w.heap.size, 0, none⟩) := by rw [hI.low 3 (by decide)]; rfl
        clear hI hdep
        exact .run rfl (.pointer (some ⟨w.heap.size, 0, none⟩)) w3 (by simp [execOp, go_sem, Act.eval, e3]) (Below.refl _ _) rfl
      · simp only [List.getElem?_toArray, List.getElem?_cons_succ, List.getElem?_cons_zero, Option.some.injEq] at ho
        subst ho
        refine ⟨rfl, ?_⟩
        have e35 : A_.tmps[35]?.getD undef = .pointer (some ⟨w.heap.size, 0, none⟩) := getD_of (hI.val_ (i := 0) rfl rfl (by decide) (hdep ⟨0, .data⟩ (by simp) rfl))
        clear hI hdep
        obtain ⟨d0, d1⟩ := HK.out w3 (HZ.out.trans (hh.mono HZ.out.size))
        exact .run rfl (.slice A n c) w3 (by simp [execOp, go_sem, Act.eval, *]) (Below.refl _ _) rfl
      · simp only [List.getElem?_toArray, List.getElem?_cons_succ, List.getElem?_cons_zero, Option.some.injEq] at ho
        subst ho
        refine ⟨rfl, ?_⟩
        have e7 : A_.tmps[7]?.getD undef = .slice (some ⟨U.heap.size, 0, none⟩) m (m + 1) := by rw [hI.low 7 (by decide)]; rfl
        clear hI hdep
        exact .run rfl (.slice (some ⟨U.heap.size, 0, none⟩) m (m + 1)) w3 (by simp [execOp, go_sem, Act.eval, e7]) (Below.refl _ _) rfl
      · simp only [List.getElem?_toArray, List.getElem?_cons_succ, List.getElem?_cons_zero, Option.some.injEq] at ho
        subst ho
        refine ⟨rfl, ?_⟩
        have e8 : A_.tmps[8]?.getD undef = .int .i64 0 := by rw [hI.low 8 (by decide)]; rfl
        clear hI hdep
        exact .run rfl (.int .i64 0) w3 (by simp [execOp, go_sem, Act.eval, e8]) (Below.refl _ _) rfl
      · simp only [List.getElem?_toArray, List.getElem?_cons_succ, List.getElem?_cons_zero, Option.some.injEq] at ho
        subst ho
        refine ⟨rfl, ?_⟩
        have e37 : A_.tmps[37]?.getD undef = .slice (some ⟨U.heap.size, 0, none⟩) m (m + 1) := getD_of (hI.val_ (i := 2) rfl rfl (by decide) (hdep ⟨2, .data⟩ (by simp) rfl))
        have e38 : A_.tmps[38]?.getD undef = .int .i64 0 := getD_of (hI.val_ (i := 3) rfl rfl (by decide) (hdep ⟨3, .data⟩ (by simp) rfl))
        clear hI hdep
        exact .run rfl (.slice (some ⟨U.heap.size, 0, none⟩) 0 (m + 1)) w3 (by simp [execOp, go_sem, Act.eval, e37, e38]; try omega) (Below.refl _ _) ⟨_, _, rfl, wrs_front (HO.out.keep hh) (by omega)⟩
      · simp only [List.getElem?_toArray, List.getElem?_cons_succ, List.getElem?_cons_zero, Option.some.injEq] at ho
        subst ho
        refine ⟨rfl, ?_⟩
        have e36 : A_.tmps[36]?.getD undef = .slice A n c := getD_of (hI.val_ (i := 1) rfl rfl (by decide) (hdep ⟨1, .data⟩ (by simp) rfl))
        obtain ⟨_, e39, B39, r39, rfl, h39⟩ := hI.get_ (i := 4) (j := 39) rfl rfl (by decide) (hdep ⟨4, .data⟩ (by simp) rfl)
        clear hI hdep
        exact .call rfl 35 #[.slice A n c, .slice B39 0 r39] (by simp [go_sem, Act.eval, e36, e39]) (RgX.cls_calls_lo (Nat.le_trans HZ.out.size hh.size) (after_any w3 (HX.out w3 (HZ.out.trans (hh.mono HZ.out.size))) h39 HN.out.2.2.1 (by omega)))
      · simp only [List.getElem?_toArray, List.getElem?_cons_succ, List.getElem?_cons_zero, Option.some.injEq] at ho
        subst ho
        refine ⟨rfl, ?_⟩
        have e7 : A_.tmps[7]?.getD undef = .slice (some ⟨U.heap.size, 0, none⟩) m (m + 1) := by rw [hI.low 7 (by decide)]; rfl
        clear hI hdep
        exact .run rfl (.slice (some ⟨U.heap.size, 0, none⟩) m (m + 1)) w3 (by simp [execOp, go_sem, Act.eval, e7]) (Below.refl _ _) rfl
      · simp only [List.getElem?_toArray, List.getElem?_cons_succ, List.getElem?_cons_zero, Option.some.injEq] at ho
        subst ho
        refine ⟨rfl, ?_⟩
        have e8 : A_.tmps[8]?.getD undef = .int .i64 0 := by rw [hI.low 8 (by decide)]; rfl
        clear hI hdep
        exact .run rfl (.int .i64 0) w3 (by simp [execOp, go_sem, Act.eval, e8]) (Below.refl _ _) rfl
      · simp only [List.getElem?_toArray, List.getElem?_cons_succ, List.getElem?_cons_zero, Option.some.injEq] at ho
        subst ho
        refine ⟨rfl, ?_⟩
        have e41 : A_.tmps[41]?.getD undef = .slice (some ⟨U.heap.size, 0, none⟩) m (m + 1) := getD_of (hI.val_ (i := 6) rfl rfl (by decide) (hdep ⟨6, .data⟩ (by simp) rfl))
        have e42 : A_.tmps[42]?.getD undef = .int .i64 0 := getD_of (hI.val_ (i := 7) rfl rfl (by decide) (hdep ⟨7, .data⟩ (by simp) rfl))
        clear hI hdep
        have g3 : ¬ m + 1 = 0 := by omega
        exact .run rfl (.slice (some ⟨U.heap.size, 0, none⟩) m (m + 1)) w3 (by simp [execOp, go_sem, Act.eval, e41, e42]; try omega) (Below.refl _ _) ⟨_, _, rfl, HO.out.keep hh⟩
      · simp only [List.getElem?_toArray, List.getElem?_cons_succ, List.getElem?_cons_zero, Option.some.injEq] at ho
        subst ho
        refine ⟨rfl, ?_⟩
        obtain ⟨_, e40, g40, rfl, r40, l40⟩ := hI.get_ (i := 5) (j := 40) rfl rfl (by decide) (hdep ⟨5, .data⟩ (by simp) rfl)
        obtain ⟨_, e43, B43, r43, rfl, h43⟩ := hI.get_ (i := 8) (j := 43) rfl rfl (by decide) (hdep ⟨8, .data⟩ (by simp) rfl)
        clear hI hdep
        exact .run rfl (.agg #[.slice (some ⟨g40, 0, none⟩) n n, .slice B43 m r43]) w3 (by simp [execOp, go_sem, Act.eval, e40, e43]) (Below.refl _ _) ⟨_, _, _, _, rfl, Cls.of_block r40 l40 (by rw [DK.app_len]; exact HN.out.1) (by have := HN.out.2.2.1; omega), h43⟩
    case fin =>
    intro A_ w3 hs hd hlow hS hok
    obtain ⟨_, hy39, B39, r39, rfl, h39⟩ := hok 4 39 _ (by decide) rfl rfl
    obtain ⟨_, hy40, g40, rfl, r40, l40⟩ := hok 5 40 _ (by decide) rfl rfl
    obtain ⟨_, hy43, B43, r43, rfl, h43⟩ := hok 8 43 _ (by decide) rfl rfl
    obtain ⟨_, hy44, A44, c44, P44, q44, rfl, h44, k44⟩ := hok 9 44 _ (by decide) rfl rfl
    obtain rfl : A_ = ⟨#[.agg #[.slice A n c, .slice P m q], .int .i64 a, .int .i64 v, .pointer (some ⟨w.heap.size, 0, none⟩), undef, undef, .pointer (some ⟨w.heap.size + 1, 0, none⟩), .slice (some ⟨U.heap.size, 0, none⟩) m (m + 1), .int .i64 0, .pointer (some ⟨w.heap.size, 1, none⟩), .slice P m q, .int .i64 (m : Int), .pointer (some ⟨w.heap.size, 1, none⟩), .slice P m q, .int .i64 (m : Int), .int .i64 ((m : Int) + 1), .slice (some ⟨U.heap.size, 0, none⟩) m (m + 1), .slice (some ⟨U.heap.size, 0, none⟩) m (m + 1), .pointer (some ⟨w.heap.size, 1, none⟩), .slice P m q, .int .i64 (m : Int), .pointer (some ⟨w.heap.size, 0, none⟩), .slice A n c, .int .i64 a, .bool false, undef, undef, undef, undef, undef, undef, undef, undef, undef, undef, .pointer (some ⟨w.heap.size, 0, none⟩), .slice A n c, .slice (some ⟨U.heap.size, 0, none⟩) m (m + 1), .int .i64 0, .slice B39 0 r39, .slice (some ⟨g40, 0, none⟩) n n, .slice (some ⟨U.heap.size, 0, none⟩) m (m + 1), .int .i64 0, .slice B43 m r43, .agg #[.slice A44 n c44, .slice P44 m q44]], []⟩ := act_ext hd hs (fun j hj => match j, hj with | 0, _ => (hlow 0 (by decide)).trans rfl | 1, _ => (hlow 1 (by decide)).trans rfl | 2, _ => (hlow 2 (by decide)).trans rfl | 3, _ => (hlow 3 (by decide)).trans rfl | 4, _ => (hlow 4 (by decide)).trans rfl | 5, _ => (hlow 5 (by decide)).trans rfl | 6, _ => (hlow 6 (by decide)).trans rfl | 7, _ => (hlow 7 (by decide)).trans rfl | 8, _ => (hlow 8 (by decide)).trans rfl | 9, _ => (hlow 9 (by decide)).trans rfl | 10, _ => (hlow 10 (by decide)).trans rfl | 11, _ => (hlow 11 (by decide)).trans rfl | 12, _ => (hlow 12 (by decide)).trans rfl | 13, _ => (hlow 13 (by decide)).trans rfl | 14, _ => (hlow 14 (by decide)).trans rfl | 15, _ => (hlow 15 (by decide)).trans rfl | 16, _ => (hlow 16 (by decide)).trans rfl | 17, _ => (hlow 17 (by decide)).trans rfl | 18, _ => (hlow 18 (by decide)).trans rfl | 19, _ => (hlow 19 (by decide)).trans rfl | 20, _ => (hlow 20 (by decide)).trans rfl | 21, _ => (hlow 21 (by decide)).trans rfl | 22, _ => (hlow 22 (by decide)).trans rfl | 23, _ => (hlow 23 (by decide)).trans rfl | 24, _ => (hlow 24 (by decide)).trans rfl | 25, _ => (hlow 25 (by decide)).trans rfl | 26, _ => (hlow 26 (by decide)).trans rfl | 27, _ => (hlow 27 (by decide)).trans rfl | 28, _ => (hlow 28 (by decide)).trans rfl | 29, _ => (hlow 29 (by decide)).trans rfl | 30, _ => (hlow 30 (by decide)).trans rfl | 31, _ => (hlow 31 (by decide)).trans rfl | 32, _ => (hlow 32 (by decide)).trans rfl | 33, _ => (hlow 33 (by decide)).trans rfl | 34, _ => (hlow 34 (by decide)).trans rfl | 35, _ => RgX.val_at (hok 0 35 _ (by decide) rfl rfl) | 36, _ => RgX.val_at (hok 1 36 _ (by decide) rfl rfl) | 37, _ => RgX.val_at (hok 2 37 _ (by decide) rfl rfl) | 38, _ => RgX.val_at (hok 3 38 _ (by decide) rfl rfl) | 39, _ => hy39 | 40, _ => hy40 | 41, _ => RgX.val_at (hok 6 41 _ (by decide) rfl rfl) | 42, _ => RgX.val_at (hok 7 42 _ (by decide) rfl rfl) | 43, _ => hy43 | 44, _ => hy44 | n + 45, h => absurd h (by show ¬ n + 45 < 45; omega))
    clear hs hd hlow hok hy39 hy40 hy43 hy44
    refine dk_store rfl _ _ rfl (w.heap.size + 1) A44 n c44 P44 m q44 _ _ rfl rfl (HF.out w3 (HZ.out.trans (hS.mono HZ.out.size))) ?_
    intro W4 k4 ho4 hz4 hb4
    have HR4 := Lib.hid (And.intro h44 k44)
    have HS := Lib.hid (And.intro (HZ.out.trans (hS.mono HZ.out.size)) (And.intro ho4 (And.intro hz4 hb4)))
    clear h44 k44 hS ho4 hz4 hb4 h43 r40 l40 h39
    go_wp2_with fail
    refine bodyPost_ret (dk_ret rfl _ rfl k4) rfl ?_
    obtain ⟨hbu, hz⟩ := HB.out
    obtain ⟨hS, ho4, hz4, hb4⟩ := HS.out
    have s3 := hS.size
    have hD : (⟨DK.app d.cells (d.pend.take 0), d.pend⟩ : DK.Dk) = DK.write d a v := by
      unfold DK.write
      rw [if_neg (by rw [HN.out.1]; exact HR.out)]
      rfl
    rw [← hD]
    exact ⟨⟨_, rfl, _, _, _, _, _, _, rfl, dk_moveC HR4.out.1 (fun g hg => ho4 g (by omega)) (by omega), dk_moveW HR4.out.2 (fun g hg => ho4 g (by omega)) (by omega)⟩, (hbu.trans (hS.mono hbu.size)).trans (hb4.mono (by omega))⟩
end Go.Proofs.Ytgdefhlcgmibcaa
