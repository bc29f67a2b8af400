/-
  The package's Crash, Write and Resize. No condition but the lengths.
-/
import Derived.Test.YtgdefhlcgmibcaaDkS
namespace Go.Proofs.Ytgdefhlcgmibcaa
open Go Go.RowKit Go.Proofs
attribute [local go_sem] Oper.semAt_some

theorem dk_moveC {lo lo' n c : Nat} {w w' : World} {A : Option Addr} {xs : List Int} (h : Cls lo w A n c xs) (hk : ∀ g, lo ≤ g → w'.heap[g]? = w.heap[g]?) (hl : lo' ≤ lo) : Cls lo' w' A n c xs := Rw.keepTo h (fun g _ _ hg => hk g hg) hl
theorem dk_moveW {lo lo' n c : Nat} {w w' : World} {A : Option Addr} {ws : List DK.Wr} (h : Wrs lo w A n c ws) (hk : ∀ g, lo ≤ g → w'.heap[g]? = w.heap[g]?) (hl : lo' ≤ lo) : Wrs lo' w' A n c ws := Rw.keepTo h (fun g _ _ hg => hk g hg) hl
theorem surviving_sp {lo lo' n c m q : Nat} {A W : Option Addr} {bs : List Bool} {ws : List DK.Wr} (l : Nat) (w : World) (hl : l ≤ w.heap.size) (hx : Bls lo w A n c bs) (hw : Wrs lo' w W m q ws) (bn : n ≤ 1000) (bm : m ≤ 1000) :
    Calls Try.prog 38 #[.slice A n c, .slice W m q] w fun e w' => (∃ y, e = .returned y ∧ (RgX.Sp.wrs l (DK.kept bs ws) (DK.kept bs ws).length).p w' y) ∧ Below w.heap.size w w' :=
  (surviving_any w hx hw bn bm).mono fun _ _ ⟨⟨B, r, e, h⟩, hb⟩ => ⟨⟨_, e, B, r, rfl, h.more hl⟩, hb⟩
set_option maxHeartbeats 4000000 in
set_option maxRecDepth 100000 in
theorem crash_any {lo lo' kn kc : Nat} {K : Option Addr} {bs : List Bool} {x : Value} {d : DK.Dk} (w : World) (h : DkAt lo w x d) (hb : Bls lo' w K kn kc bs) (bn : d.cells.length ≤ 1000) (bm : d.pend.length ≤ 1000) (bk : kn ≤ 1000) : Calls Try.prog 25 #[x, .slice K kn kc] w fun e w' => (∃ y, e = .returned y ∧ DkAt w.heap.size w' y (DK.crash d bs)) ∧ Below w.heap.size w w' := by
  obtain ⟨A, n, c, P, m, q, rfl, h1, h2⟩ := h
  obtain ⟨U, hU, hbu, k0, k1, hz⟩ := dk_two_boxes w (.cells #[.slice A n c, .slice P m q] 26) (.cells #[.slice none 0 0, .slice none 0 0] 26)
  have hn := h1.len
  have hm := h2.len
  have HK := Lib.hid (fun (V : World) (hV : Below U.heap.size U V) => dk_two ((hV.block _ (by omega)).trans k0))
  have HF := Lib.hid (fun (V : World) (hV : Below U.heap.size U V) => (hV.block _ (by omega)).trans k1)
  have HX := Lib.hid (fun (V : World) (hV : Below U.heap.size U V) => And.intro ((h1.keep hbu).keep hV) (And.intro ((h2.keep hbu).keep hV) ((hb.keep hbu).keep hV)))
  have HB := Lib.hid (And.intro hbu hz)
  have HN := Lib.hid (And.intro hn (And.intro hm (And.intro (show n ≤ 1000 by omega) (show m ≤ 1000 by omega))))
  have HKL := Lib.hid (show (DK.kept bs d.pend).length ≤ 1000 from Nat.le_trans (DK.kept_len _ _) bm)
  clear k0 k1 hbu hz h1 h2 hb hn hm
  go_enter Try.func25, Try.ntmps25
  go_wp2_with fail
  clear hU
  refine RgX.tail 8 (fun i => ( 5 + i)) (fun ix_ => match ix_ with | 0 => .v (.pointer (some ⟨w.heap.size, 0, none⟩)) | 1 => .v (.slice A n c) | 2 => .v (.slice K kn kc) | 3 => .v (.pointer (some ⟨w.heap.size, 1, none⟩)) | 4 => .v (.slice P m q) | 5 => .wrs U.heap.size (DK.kept bs d.pend) (DK.kept bs d.pend).length | 6 => .cls U.heap.size (DK.app d.cells (DK.kept bs d.pend)) n | 7 => .dk U.heap.size (DK.crash d bs) n 0 | _ => .any) _ (by kernel_rfl) rfl rfl (by kernel_rfl) (by kernel_rfl) (fun i hi => by show ( 5 + i) < 13; (repeat' split) <;> omega) (fun i j hi hj => by show ( 5 + i) = ( 5 + j) → i = j; (repeat' split) <;> omega) ?step ?fin
  case step =>
    intro L_ A_ w3 ix op_ hi hI ho hdep
    have hcase : ix = 0 ∨ ix = 1 ∨ ix = 2 ∨ ix = 3 ∨ ix = 4 ∨ ix = 5 ∨ ix = 6 ∨ ix = 7 := by omega
    have hh := hI.held
    clear hi
    rcases hcase with rfl | rfl | rfl | rfl | rfl | rfl | rfl | rfl
    · simp only [List.getElem?_toArray, List.getElem?_cons_zero, Option.some.injEq] at ho
      subst ho
      refine ⟨rfl, ?_⟩
      have e2 : A_.tmps[2]?.getD undef = .pointer (some ⟨w.heap.size, 0, none⟩) := by rw [hI.low 2 (by decide)]; rfl
      clear hI hdep
      exact .run rfl (.pointer (some ⟨w.heap.size, 0, none⟩)) w3 (by simp [execOp, go_sem, Act.eval, e2]) (Below.refl _ _) rfl
    · simp only [List.getElem?_toArray, List.getElem?_cons_succ, List.getElem?_cons_zero, Option.some.injEq] at ho
      subst ho
      refine ⟨rfl, ?_⟩
      have e5 : A_.tmps[5]?.getD undef = .pointer (some ⟨w.heap.size, 0, none⟩) := getD_of (hI.val_ (i := 0) rfl rfl (by decide) (hdep ⟨0, .data⟩ (by simp) rfl))
      clear hI hdep
      obtain ⟨d0, d1⟩ := HK.out w3 hh
      exact .run rfl (.slice A n c) w3 (by simp [execOp, go_sem, Act.eval, *]) (Below.refl _ _) rfl
    · simp only [List.getElem?_toArray, List.getElem?_cons_succ, List.getElem?_cons_zero, Option.some.injEq] at ho
      subst ho
      refine ⟨rfl, ?_⟩
      have e1 : A_.tmps[1]?.getD undef = .slice K kn kc := by rw [hI.low 1 (by decide)]; rfl
      clear hI hdep
      exact .run rfl (.slice K kn kc) w3 (by simp [execOp, go_sem, Act.eval, e1]) (Below.refl _ _) rfl
    · simp only [List.getElem?_toArray, List.getElem?_cons_succ, List.getElem?_cons_zero, Option.some.injEq] at ho
      subst ho
      refine ⟨rfl, ?_⟩
      have e2 : A_.tmps[2]?.getD undef = .pointer (some ⟨w.heap.size, 0, none⟩) := by rw [hI.low 2 (by decide)]; rfl
      clear hI hdep
      exact .run rfl (.pointer (some ⟨w.heap.size, 1, none⟩)) w3 (by simp [execOp, go_sem, Act.eval, e2]) (Below.refl _ _) rfl
    · simp only [List.getElem?_toArray, List.getElem?_cons_succ, List.getElem?_cons_zero, Option.some.injEq] at ho
      subst ho
      refine ⟨rfl, ?_⟩
      have e8 : A_.tmps[8]?.getD undef = .pointer (some ⟨w.heap.size, 1, none⟩) := getD_of (hI.val_ (i := 3) rfl rfl (by decide) (hdep ⟨3, .data⟩ (by simp) rfl))
      clear hI hdep
      obtain ⟨d0, d1⟩ := HK.out w3 hh
      exact .run rfl (.slice P m q) w3 (by simp [execOp, go_sem, Act.eval, *]) (Below.refl _ _) rfl
    · simp only [List.getElem?_toArray, List.getElem?_cons_succ, List.getElem?_cons_zero, Option.some.injEq] at ho
      subst ho
      refine ⟨rfl, ?_⟩
      have e7 : A_.tmps[7]?.getD undef = .slice K kn kc := getD_of (hI.val_ (i := 2) rfl rfl (by decide) (hdep ⟨2, .data⟩ (by simp) rfl))
      have e9 : A_.tmps[9]?.getD undef = .slice P m q := getD_of (hI.val_ (i := 4) rfl rfl (by decide) (hdep ⟨4, .data⟩ (by simp) rfl))
      clear hI hdep
      exact .call rfl 38 #[.slice K kn kc, .slice P m q] (by simp [go_sem, Act.eval, e7, e9]) (surviving_sp _ w3 hh.size (HX.out w3 hh).2.2 (HX.out w3 hh).2.1 bk HN.out.2.2.2)
    · simp only [List.getElem?_toArray, List.getElem?_cons_succ, List.getElem?_cons_zero, Option.some.injEq] at ho
      subst ho
      refine ⟨rfl, ?_⟩
      have e6 : A_.tmps[6]?.getD undef = .slice A n c := getD_of (hI.val_ (i := 1) rfl rfl (by decide) (hdep ⟨1, .data⟩ (by simp) rfl))
      obtain ⟨_, e10, B10, r10, rfl, h10⟩ := hI.get_ (i := 5) (j := 10) rfl rfl (by decide) (hdep ⟨5, .data⟩ (by simp) rfl)
      clear hI hdep
      exact .call rfl 35 #[.slice A n c, .slice B10 (DK.kept bs d.pend).length r10] (by simp [go_sem, Act.eval, e6, e10]) (RgX.cls_calls_lo hh.size (after_any w3 (HX.out w3 hh).1 h10 HN.out.2.2.1 HKL.out))
    · simp only [List.getElem?_toArray, List.getElem?_cons_succ, List.getElem?_cons_zero, Option.some.injEq] at ho
      subst ho
      refine ⟨rfl, ?_⟩
      obtain ⟨_, e11, g11, rfl, r11, l11⟩ := hI.get_ (i := 6) (j := 11) rfl rfl (by decide) (hdep ⟨6, .data⟩ (by simp) rfl)
      clear hI hdep
      exact .run rfl (.agg #[.slice (some ⟨g11, 0, none⟩) n n, .slice none 0 0]) w3 (by simp [execOp, go_sem, Act.eval, e11]) (Below.refl _ _) ⟨_, _, _, _, rfl, Cls.of_block r11 l11 (show (DK.app _ _).length = n by rw [DK.app_len]; exact HN.out.1) (by have := HN.out.2.2.1; omega), Rw.nil _ _ _ _⟩
  case fin =>
  intro A_ w3 hs hd hlow hS hok
  obtain ⟨_, hy10, B10, r10, rfl, h10⟩ := hok 5 10 _ (by decide) rfl rfl
  obtain ⟨_, hy11, g11, rfl, r11, l11⟩ := hok 6 11 _ (by decide) rfl rfl
  obtain ⟨_, hy12, A12, c12, P12, q12, rfl, h12, k12⟩ := hok 7 12 _ (by decide) rfl rfl
  obtain rfl : A_ = ⟨#[.agg #[.slice A n c, .slice P m q], .slice K kn kc, .pointer (some ⟨w.heap.size, 0, none⟩), undef, .pointer (some ⟨w.heap.size + 1, 0, none⟩), .pointer (some ⟨w.heap.size, 0, none⟩), .slice A n c, .slice K kn kc, .pointer (some ⟨w.heap.size, 1, none⟩), .slice P m q, .slice B10 (DK.kept bs d.pend).length r10, .slice (some ⟨g11, 0, none⟩) n n, .agg #[.slice A12 n c12, .slice P12 0 q12]], []⟩ := act_ext hd hs (fun j hj => match j, hj with | 0, _ => (hlow 0 (by decide)).trans rfl | 1, _ => (hlow 1 (by decide)).trans rfl | 2, _ => (hlow 2 (by decide)).trans rfl | 3, _ => (hlow 3 (by decide)).trans rfl | 4, _ => (hlow 4 (by decide)).trans rfl | 5, _ => RgX.val_at (hok 0 5 _ (by decide) rfl rfl) | 6, _ => RgX.val_at (hok 1 6 _ (by decide) rfl rfl) | 7, _ => RgX.val_at (hok 2 7 _ (by decide) rfl rfl) | 8, _ => RgX.val_at (hok 3 8 _ (by decide) rfl rfl) | 9, _ => RgX.val_at (hok 4 9 _ (by decide) rfl rfl) | 10, _ => hy10 | 11, _ => hy11 | 12, _ => hy12 | n + 13, h => absurd h (by show ¬ n + 13 < 13; omega))
  clear hs hd hlow hok hy10 hy11 hy12
  refine dk_store rfl _ _ rfl (w.heap.size + 1) A12 n c12 P12 0 q12 _ _ rfl rfl (HF.out w3 hS) ?_
  intro W4 k4 ho4 hz4 hb4
  have HR := Lib.hid (And.intro h12 k12)
  have HS := Lib.hid (And.intro hS (And.intro ho4 (And.intro hz4 hb4)))
  clear h12 k12 hS ho4 hz4 hb4
  go_wp2_with fail
  refine bodyPost_ret (dk_ret rfl _ rfl k4) rfl ?_
  obtain ⟨hbu, hz⟩ := HB.out
  obtain ⟨hS, ho4, hz4, hb4⟩ := HS.out
  have s3 := hS.size
  exact ⟨⟨_, rfl, _, _, _, _, _, _, rfl, dk_moveC HR.out.1 (fun g hg => ho4 g (by omega)) (by omega), dk_moveW HR.out.2 (fun g hg => ho4 g (by omega)) (by omega)⟩, (hbu.trans (hS.mono hbu.size)).trans (hb4.mono (by omega))⟩
set_option maxHeartbeats 4000000 in
set_option maxRecDepth 100000 in
theorem resize_any {lo : Nat} {x : Value} {d : DK.Dk} (k : Nat) (hk : k ≤ 16) (w : World) (h : DkAt lo w x d) (bn : d.cells.length ≤ 1000) (bm : d.pend.length ≤ 1000) : Calls Try.prog 26 #[x, .int .i64 (k : Int)] w fun e w' => (∃ y, e = .returned y ∧ DkAt w.heap.size w' y (DK.resize d k)) ∧ Below w.heap.size w w' := by
  have h0 := h
  obtain ⟨A, n, c, P, m, q, rfl, h1, h2⟩ := h
  obtain ⟨U, hU, hbu, k0, k1, hz⟩ := dk_two_boxes w (.cells #[.slice A n c, .slice P m q] 26) (.cells #[.slice none 0 0, .slice none 0 0] 26)
  have HNW := Lib.hid (new_row k hk U)
  have HX := Lib.hid (fun (V : World) (hV : Below U.heap.size U V) => (h0.keep hbu).keep hV)
  have HB := Lib.hid (And.intro hbu (And.intro hz (And.intro k0 k1)))
  have HN := Lib.hid (And.intro h1.len h2.len)
  clear k0 k1 hbu hz h1 h2 h0
  go_enter Try.func26, Try.ntmps26
  go_wp2_with fail
  clear hU
  refine HNW.out.mono ?_
  rintro e w2 ⟨⟨g2, rfl, l2, r2⟩, hb2⟩
  obtain ⟨Z, hZ⟩ : ∃ Z, w2.alloc (.cells #[.slice (some ⟨g2, 0, none⟩) k k, .slice none 0 0] 26) = Z := ⟨_, rfl⟩
  have hbz : Below w2.heap.size w2 Z := hZ ▸ dk_box w2 _
  have kz : Z.heap[w2.heap.size]? = some (.cells #[.slice (some ⟨g2, 0, none⟩) k k, .slice none 0 0] 26 (0, 0)) := by rw [← hZ]; exact dk_new_at rfl
  have hsz : Z.heap.size = w2.heap.size + 1 := by rw [← hZ]; simp
  have HZ := Lib.hid (And.intro (hb2.trans (hbz.mono hb2.size)) (And.intro hb2.size hsz))
  have HK := Lib.hid (fun (V : World) (hV : Below Z.heap.size Z V) => And.intro (dk_two ((hV.block _ (by omega)).trans kz)) (dk_two ((hV.block w.heap.size (by have := HB.out.2.1; have := hb2.size; omega)).trans ((hbz.block _ (by have := HB.out.2.1; have := hb2.size; omega)).trans ((hb2.block _ (by have := HB.out.2.1; omega)).trans HB.out.2.2.1)))))
  have KZ := Lib.hid kz
  have HJ := Lib.hid (And.intro l2 (And.intro (blk_lt r2) ((hbz.block _ (blk_lt r2)).trans r2)))
  have HZE := Lib.hid hZ
  clear l2 r2 kz hbz hb2 hsz hZ
  go_wp2_with fail
  rw [HZE.out]
  refine RgX.tail 4 (fun i => ( 8 + i)) (fun ix_ => match ix_ with | 0 => .v (.pointer (some ⟨w2.heap.size, 0, none⟩)) | 1 => .v (.slice (some ⟨g2, 0, none⟩) k k) | 2 => .v (.agg #[.slice A n c, .slice P m q]) | 3 => .cls Z.heap.size (DK.view d) d.cells.length | _ => .any) _ (by kernel_rfl) rfl rfl (by kernel_rfl) (by kernel_rfl) (fun i hi => by show ( 8 + i) < 14; (repeat' split) <;> omega) (fun i j hi hj => by show ( 8 + i) = ( 8 + j) → i = j; (repeat' split) <;> omega) ?step ?fin
  case step =>
    intro L_ A_ w3 ix op_ hi hI ho hdep
    have hcase : ix = 0 ∨ ix = 1 ∨ ix = 2 ∨ ix = 3 := by omega
    have hh := hI.held
    clear hi
    rcases hcase with rfl | rfl | rfl | rfl
    · simp only [List.getElem?_toArray, List.getElem?_cons_zero, Option.some.injEq] at ho
      subst ho
      refine ⟨rfl, ?_⟩
      have e5 : A_.tmps[5]?.getD undef = .pointer (some ⟨w2.heap.size, 0, none⟩) := by rw [hI.low 5 (by decide)]; rfl
      clear hI hdep
      exact .run rfl (.pointer (some ⟨w2.heap.size, 0, none⟩)) w3 (by simp [execOp, go_sem, Act.eval, e5]) (Below.refl _ _) rfl
    · simp only [List.getElem?_toArray, List.getElem?_cons_succ, List.getElem?_cons_zero, Option.some.injEq] at ho
      subst ho
      refine ⟨rfl, ?_⟩
      have e8 : A_.tmps[8]?.getD undef = .pointer (some ⟨w2.heap.size, 0, none⟩) := getD_of (hI.val_ (i := 0) rfl rfl (by decide) (hdep ⟨0, .data⟩ (by simp) rfl))
      clear hI hdep
      obtain ⟨⟨d0, d1⟩, f0, f1⟩ := HK.out w3 hh
      exact .run rfl (.slice (some ⟨g2, 0, none⟩) k k) w3 (by simp [execOp, go_sem, Act.eval, *]) (Below.refl _ _) rfl
    · simp only [List.getElem?_toArray, List.getElem?_cons_succ, List.getElem?_cons_zero, Option.some.injEq] at ho
      subst ho
      refine ⟨rfl, ?_⟩
      have e2 : A_.tmps[2]?.getD undef = .pointer (some ⟨w.heap.size, 0, none⟩) := by rw [hI.low 2 (by decide)]; rfl
      clear hI hdep
      obtain ⟨⟨d0, d1⟩, f0, f1⟩ := HK.out w3 hh
      exact .run rfl (.agg #[.slice A n c, .slice P m q]) w3 (by simp [execOp, go_sem, Act.eval, *]) (Below.refl _ _) rfl
    · simp only [List.getElem?_toArray, List.getElem?_cons_succ, List.getElem?_cons_zero, Option.some.injEq] at ho
      subst ho
      refine ⟨rfl, ?_⟩
      have e10 : A_.tmps[10]?.getD undef = .agg #[.slice A n c, .slice P m q] := getD_of (hI.val_ (i := 2) rfl rfl (by decide) (hdep ⟨2, .data⟩ (by simp) rfl))
      clear hI hdep
      exact .call rfl 19 #[.agg #[.slice A n c, .slice P m q]] (by simp [go_sem, Act.eval, e10]) (RgX.cls_calls_lo hh.size (view_any w3 (HX.out w3 (HZ.out.1.trans (hh.mono HZ.out.1.size))) bn bm))
  case fin =>
  intro A_ w3 hs hd hlow hS hok
  obtain ⟨_, hy11, g11, rfl, r11, l11⟩ := hok 3 11 _ (by decide) rfl rfl
  obtain rfl : A_ = ⟨#[.agg #[.slice A n c, .slice P m q], .int .i64 (k : Int), .pointer (some ⟨w.heap.size, 0, none⟩), undef, .pointer (some ⟨w.heap.size + 1, 0, none⟩), .pointer (some ⟨w2.heap.size, 0, none⟩), .int .i64 (k : Int), .agg #[.slice (some ⟨g2, 0, none⟩) k k, .slice none 0 0], .pointer (some ⟨w2.heap.size, 0, none⟩), .slice (some ⟨g2, 0, none⟩) k k, .agg #[.slice A n c, .slice P m q], .slice (some ⟨g11, 0, none⟩) d.cells.length d.cells.length, undef, undef], []⟩ := act_ext hd hs (fun j hj => match j, hj with | 0, _ => (hlow 0 (by decide)).trans rfl | 1, _ => (hlow 1 (by decide)).trans rfl | 2, _ => (hlow 2 (by decide)).trans rfl | 3, _ => (hlow 3 (by decide)).trans rfl | 4, _ => (hlow 4 (by decide)).trans rfl | 5, _ => (hlow 5 (by decide)).trans rfl | 6, _ => (hlow 6 (by decide)).trans rfl | 7, _ => (hlow 7 (by decide)).trans rfl | 8, _ => RgX.val_at (hok 0 8 _ (by decide) rfl rfl) | 9, _ => RgX.val_at (hok 1 9 _ (by decide) rfl rfl) | 10, _ => RgX.val_at (hok 2 10 _ (by decide) rfl rfl) | 11, _ => hy11 | 12, _ => (hlow 12 (by decide)).trans rfl | 13, _ => (hlow 13 (by decide)).trans rfl | n + 14, h => absurd h (by show ¬ n + 14 < 14; omega))
  clear hs hd hlow hok hy11
  obtain ⟨⟨d0, d1⟩, f0, f1⟩ := HK.out w3 hS
  have s3 := hS.size
  obtain ⟨l2, t2, r2⟩ := HJ.out
  have r2' := (hS.block _ (by have := HZ.out.2.2; omega)).trans r2
  obtain ⟨M, hM⟩ : ∃ M, Nat.min d.cells.length k = M := ⟨_, rfl⟩
  have hM' : M = min d.cells.length k := hM.symm
  have hvl : (DK.intsC (DK.view d)).length = d.cells.length := by rw [DK.intsC_len, DK.view_len]
  have hcl : ((DK.intsC (DK.view d)).take M).length = Nat.min d.cells.length k * 1 := by rw [List.length_take, hvl, hM]; omega
  have hsrc : ((some ⟨g11, 0, none⟩ : Option Addr) = none ∧ d.cells.length = 0 ∧ d.cells.length = 0) ∨ ∃ a, (some ⟨g11, 0, none⟩ : Option Addr) = some a ∧ ∀ j v, ((DK.intsC (DK.view d)).take M)[j]? = some v → w3.cell? (a.add j) = some v := .inr ⟨_, rfl, fun j v hv => by
    rw [List.getElem?_take] at hv
    split at hv
    · rw [Addr.add_lit, Nat.zero_add, cell_of_row w3 g11 j _ _ (0, 0) r11]
      simpa using hv
    · cases hv⟩
  refine wpList_copy_any rfl _ _ _ _ rfl 3 1 Try.underlying22 dk_sz_int g2 0 k k (some ⟨g11, 0, none⟩) d.cells.length d.cells.length rfl rfl _ 3 r2' _ hcl hsrc (by rw [hcl, hM, List.size_toArray, DK.intsC_len]; simp; omega) (fun u hu => DK.intsC_one _ u (List.mem_of_mem_take hu)) _ rfl ?_
  intro W4 k4 ho4 hz4 hb4
  have e4 : (((DK.intsC (List.replicate k 0)).toArray.toList.take 0 ++ (DK.intsC (DK.view d)).take M ++ (DK.intsC (List.replicate k 0)).toArray.toList.drop (0 + ((DK.intsC (DK.view d)).take M).length)).toArray) = (DK.intsC (DK.fit (DK.view d) k)).toArray := by
    congr 1
    have e : (DK.intsC (List.replicate k 0)).toArray.toList = DK.intsC (List.replicate k 0) := rfl
    rw [e, hcl, hM]
    unfold DK.intsC DK.fit
    rw [List.take_zero, List.nil_append, ← List.map_take, ← List.map_drop, ← List.map_append, DK.view_len]
    congr 1
    rw [Nat.zero_add, Nat.mul_one, List.drop_replicate]
    congr 1
    · rw [hM', ← DK.view_len d, List.take_eq_take_iff]
      omega
    · congr 1
      omega
  rw [e4] at k4
  have hfin : (W4.heap[w.heap.size + 1]? = some (.cells #[.slice none 0 0, .slice none 0 0] 26 (0, 0))) := by
    obtain ⟨hbu, hz, k0, k1⟩ := HB.out
    rw [ho4 _ (by omega), hS.block _ (by have := HZ.out.2.2; have := HZ.out.2.1; omega), HZ.out.1.block _ (by omega)]
    exact k1
  have hdd := dk_two ((ho4 w2.heap.size (by omega)).trans ((hS.block _ (by have := HZ.out.2.2; omega)).trans KZ.out))
  obtain ⟨d40, d41⟩ := hdd
  have HQ := Lib.hid (And.intro k4 (And.intro hz4 (And.intro l2 ((HZ.out.1.trans (hS.mono HZ.out.1.size)).trans (hb4.mono l2)))))
  have HFN := Lib.hid hfin
  clear d0 d1 f0 f1 s3 r2 r2' hM hM' hvl hcl hsrc e4 hfin k4 ho4 hz4 hb4 hS r11 l11
  go_wp2_with (refine dk_store rfl _ _ rfl (w.heap.size + 1) (some ⟨g2, 0, none⟩) k k none 0 0 _ _ rfl rfl HFN.out ?_; intro w5 k5 ho5 hz5 hb5)
  refine bodyPost_ret (dk_ret rfl _ rfl k5) rfl ?_
  obtain ⟨hbu, hz, _, _⟩ := HB.out
  obtain ⟨k4, hz4, l2', hb4⟩ := HQ.out
  exact ⟨⟨_, rfl, _, _, _, _, _, _, rfl, Cls.of_block ((ho5 g2 (by omega)).trans k4) (by omega) (DK.fit_len _ _) (by omega), Rw.nil _ _ _ _⟩, (hbu.trans (hb4.mono hbu.size)).trans (hb5.mono (by omega))⟩
end Go.Proofs.Ytgdefhlcgmibcaa
