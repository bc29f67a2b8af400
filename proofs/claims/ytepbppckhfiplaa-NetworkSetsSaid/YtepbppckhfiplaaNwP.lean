/-
  The reference's put: a set with one more envelope. No condition but the length.
-/
import Derived.Test.YtepbppckhfiplaaNwW
import Derived.Test.YtepbppckhfiplaaNwL
import Derived.Test.YtepbppckhfiplaaNwC
import Derived.BigQuiet
import Derived.Deep.Cut
namespace Go.Proofs.Ytepbppckhfiplaa
open Go Go.RowKit Go.Proofs
attribute [local go_sem] Oper.semAt_some

theorem info_split3 {P : Program} {t : TypeId} {z : Option Value} {s b : Nat} (h : (P.info? t).map (fun i => (i.zero, i.size, i.bytes)) = some (z, s, b)) : ∃ i, P.info? t = some i ∧ i.zero = z ∧ i.size = s ∧ i.bytes = b := by
  cases hq : P.info? t with
  | none => rw [hq] at h; cases h
  | some i =>
    rw [hq] at h
    simp only [Option.map_some, Option.some.injEq, Prod.mk.injEq] at h
    exact ⟨i, rfl, h.1, h.2.1, h.2.2⟩
set_option maxHeartbeats 4000000 in
set_option maxRecDepth 100000 in
theorem put_some (g n c : Nat) (a : NW.En) {l : List NW.En} (w : World) (h1 : Ens w (some ⟨g, 0, none⟩) n c l) (bn : n ≤ 100000) :
    Calls Try.prog 30 #[.slice (some ⟨g, 0, none⟩) n c, enV a] w fun e w' => (∃ B c', e = .returned (.slice B (n + 1) c') ∧ Ens w' B (n + 1) c' (NW.put l a) ∧ ∀ b, B = some b → w.heap.size ≤ b.block) ∧ Below w.heap.size w w' := by
  obtain ⟨i0, hi0, hz0, hs0, hb0⟩ := info_split3 info_en
  obtain ⟨U, hU⟩ : ∃ U, w.alloc (.cells #[.int .i64 a.m.c, .int .i64 a.m.h, .int .i64 a.m.t, .int .i64 a.m.i, .int .i64 a.m.p, .int .i64 a.o, .int .i64 a.k, .int .i64 a.a, .int .i64 a.b] 28) = U := ⟨_, rfl⟩
  have hb : Below w.heap.size w U := hU ▸ one_box w _
  have k1 : EnB U w.heap.size a := by rw [← hU]; exact new_at rfl
  have HK := Lib.hid (fun (V : World) (hV : Below U.heap.size U V) => (k1.keep hV).cells)
  have HX := Lib.hid (fun (V : World) (hV : Below U.heap.size U V) => (h1.keep hb).keep hV)
  have HB := Lib.hid hb
  have HL := Lib.hid h1.len
  have HC := Lib.hid h1.le
  clear k1 hb h1
  go_enter Try.func30, Try.ntmps30
  go_wp2_with fail
  clear hU
  go_loopw [5] (fun i V => ∃ k : Nat, k ≤ n ∧ i = .int .i64 (k : Int) ∧ Hid (NW.lo l a.m = k + NW.lo (l.drop k) a.m) ∧ Hid (Below U.heap.size U V)) (fun i _ => n - (intOf i).toNat)
  case atStart => exact ⟨0, by omega, rfl, by show NW.lo l a.m = 0 + NW.lo (l.drop 0) a.m; rw [List.drop_zero]; omega, Below.refl _ _⟩
  case round =>
    obtain ⟨k, hk, rfl, HQ, HV⟩ := hrel
    by_cases hin : k < n
    · have dk : decide (k < n) = true := decide_eq_true hin
      obtain ⟨x, hx⟩ : ∃ x, l[k]? = some x := ⟨_, List.getElem?_eq_getElem (by rw [HL.out]; exact hin)⟩
      have HXK := Lib.hid (fun (V : World) (hV : Below U.heap.size U V) => en_at (HX.out V hV) hx)
      have HXX := Lib.hid hx
      obtain ⟨b, hb⟩ : ∃ b, decide (NM.lexL (NM.msL x.m) (NM.msL a.m) < 0) = b := ⟨_, rfl⟩
      have HCM := Lib.hid (fun V => cmpMsgR_any x.m a.m V)
      have HBB := Lib.hid hb
      obtain ⟨r, hr⟩ : ∃ r, NM.lexL (NM.msL x.m) (NM.msL a.m) = r := ⟨_, rfl⟩
      rw [hr] at HCM hb
      clear hx hr
      go_wp2_with fail
      refine RgX.region 15 (fun i => ( 7 + i)) (fun ix_ => match ix_ with | 0 => .v (.int .i64 (k : Int)) | 1 => .v (.slice (some ⟨g, 0, none⟩) n c) | 2 => .v (.int .i64 (n : Int)) | 3 => .v (.bool true) | 4 => .v (.bool true) | 5 => .v (.slice (some ⟨g, 0, none⟩) n c) | 6 => .v (.int .i64 (k : Int)) | 7 => .v (.pointer (some ⟨g, k * 9, none⟩)) | 8 => .v (.pointer (some ⟨g, k * 9, none⟩)) | 9 => .v (.agg #[.int .i64 x.m.c, .int .i64 x.m.h, .int .i64 x.m.t, .int .i64 x.m.i, .int .i64 x.m.p]) | 10 => .v (.pointer (some ⟨w.heap.size, 0, none⟩)) | 11 => .v (.agg #[.int .i64 a.m.c, .int .i64 a.m.h, .int .i64 a.m.t, .int .i64 a.m.i, .int .i64 a.m.p]) | 12 => .v (.int .i64 r) | 13 => .v (.bool b) | 14 => .v (.bool b) | _ => .any) (by kernel_rfl) rfl (by kernel_rfl)  (fun i hi => by show ( 7 + i) < 38; (repeat' split) <;> omega) (fun i j hi hj => by show ( 7 + i) = ( 7 + j) → i = j; (repeat' split) <;> omega) ?step ?fin
      case step =>
        intro L_ A_ w3 ix op_ hI ho hdep
        have hi : ix < 15 := (Array.getElem?_eq_some_iff.1 ho).1
        have hcase : ix = 0 ∨ ix = 1 ∨ ix = 2 ∨ ix = 3 ∨ ix = 4 ∨ ix = 5 ∨ ix = 6 ∨ ix = 7 ∨ ix = 8 ∨ ix = 9 ∨ ix = 10 ∨ ix = 11 ∨ ix = 12 ∨ ix = 13 ∨ ix = 14 := by omega
        have hh := hI.held
        clear hi
        rcases hcase with rfl | rfl | rfl | rfl | rfl | rfl | rfl | rfl | rfl | rfl | rfl | rfl | rfl | rfl | rfl
        · simp only [List.getElem?_toArray, List.getElem?_cons_zero, Option.some.injEq] at ho
          subst ho
          refine ⟨rfl, ?_⟩
          have e5 : A_.tmps[5]?.getD undef = .int .i64 (k : Int) := by rw [hI.low 5 (by decide)]; rfl
          clear hI hdep
          exact .run rfl (.int .i64 (k : Int)) w3 (by simp [execOp, go_sem, Act.eval, e5]) (Below.refl _ _) rfl
        · simp only [List.getElem?_toArray, List.getElem?_cons_succ, List.getElem?_cons_zero, Option.some.injEq] at ho
          subst ho
          refine ⟨rfl, ?_⟩
          have e0 : A_.tmps[0]?.getD undef = .slice (some ⟨g, 0, none⟩) n c := by rw [hI.low 0 (by decide)]; rfl
          clear hI hdep
          exact .run rfl (.slice (some ⟨g, 0, none⟩) n c) w3 (by simp [execOp, go_sem, Act.eval, e0]) (Below.refl _ _) rfl
        · simp only [List.getElem?_toArray, List.getElem?_cons_succ, List.getElem?_cons_zero, Option.some.injEq] at ho
          subst ho
          refine ⟨rfl, ?_⟩
          have e8 : A_.tmps[8]?.getD undef = .slice (some ⟨g, 0, none⟩) n c := getD_of (hI.val_ (i := 1) rfl rfl (by decide) (hdep ⟨1, .data⟩ (by simp) rfl))
          clear hI hdep
          exact .run rfl (.int .i64 (n : Int)) w3 (by simp [go_sem, Act.eval, e8]) (Below.refl _ _) rfl
        · simp only [List.getElem?_toArray, List.getElem?_cons_succ, List.getElem?_cons_zero, Option.some.injEq] at ho
          subst ho
          refine ⟨rfl, ?_⟩
          have e7 : A_.tmps[7]?.getD undef = .int .i64 (k : Int) := getD_of (hI.val_ (i := 0) rfl rfl (by decide) (hdep ⟨0, .data⟩ (by simp) rfl))
          have e9 : A_.tmps[9]?.getD undef = .int .i64 (n : Int) := getD_of (hI.val_ (i := 2) rfl rfl (by decide) (hdep ⟨2, .data⟩ (by simp) rfl))
          clear hI hdep
          exact .run rfl (.bool true) w3 (by simp [execOp, go_sem, Act.eval, *]) (Below.refl _ _) rfl
        · simp only [List.getElem?_toArray, List.getElem?_cons_succ, List.getElem?_cons_zero, Option.some.injEq] at ho
          subst ho
          refine ⟨rfl, ?_⟩
          have e10 : A_.tmps[10]?.getD undef = .bool true := getD_of (hI.val_ (i := 3) rfl rfl (by decide) (hdep ⟨3, .data⟩ (by simp) rfl))
          clear hI hdep
          exact .run rfl (.bool true) w3 (by simp [execOp, go_sem, Act.eval, e10]) (Below.refl _ _) rfl
        · simp only [List.getElem?_toArray, List.getElem?_cons_succ, List.getElem?_cons_zero, Option.some.injEq] at ho
          subst ho
          refine ⟨rfl, ?_⟩
          have q11 : A_.tmps[11]? = some (.bool true) := hI.val_ (i := 4) rfl rfl (by decide) (hdep ⟨4, .guard⟩ (by simp) rfl)
          have e0 : A_.tmps[0]?.getD undef = .slice (some ⟨g, 0, none⟩) n c := by rw [hI.low 0 (by decide)]; rfl
          clear hI hdep
          exact .run ((wanted_some rfl rfl q11).trans rfl) (.slice (some ⟨g, 0, none⟩) n c) w3 (by simp [execOp, go_sem, Act.eval, e0]) (Below.refl _ _) rfl
        · simp only [List.getElem?_toArray, List.getElem?_cons_succ, List.getElem?_cons_zero, Option.some.injEq] at ho
          subst ho
          refine ⟨rfl, ?_⟩
          have q11 : A_.tmps[11]? = some (.bool true) := hI.val_ (i := 4) rfl rfl (by decide) (hdep ⟨4, .guard⟩ (by simp) rfl)
          have e5 : A_.tmps[5]?.getD undef = .int .i64 (k : Int) := by rw [hI.low 5 (by decide)]; rfl
          clear hI hdep
          exact .run ((wanted_some rfl rfl q11).trans rfl) (.int .i64 (k : Int)) w3 (by simp [execOp, go_sem, Act.eval, e5]) (Below.refl _ _) rfl
        · simp only [List.getElem?_toArray, List.getElem?_cons_succ, List.getElem?_cons_zero, Option.some.injEq] at ho
          subst ho
          refine ⟨rfl, ?_⟩
          have q11 : A_.tmps[11]? = some (.bool true) := hI.val_ (i := 4) rfl rfl (by decide) (hdep ⟨4, .guard⟩ (by simp) rfl)
          have e12 : A_.tmps[12]?.getD undef = .slice (some ⟨g, 0, none⟩) n c := getD_of (hI.val_ (i := 5) rfl rfl (by decide) (hdep ⟨5, .data⟩ (by simp) rfl))
          have e13 : A_.tmps[13]?.getD undef = .int .i64 (k : Int) := getD_of (hI.val_ (i := 6) rfl rfl (by decide) (hdep ⟨6, .data⟩ (by simp) rfl))
          clear hI hdep
          exact .run ((wanted_some rfl rfl q11).trans rfl) (.pointer (some ⟨g, k * 9, none⟩)) w3 (by simp [execOp, go_sem, Act.eval, e12, e13]; omega) (Below.refl _ _) rfl
        · simp only [List.getElem?_toArray, List.getElem?_cons_succ, List.getElem?_cons_zero, Option.some.injEq] at ho
          subst ho
          refine ⟨rfl, ?_⟩
          have q11 : A_.tmps[11]? = some (.bool true) := hI.val_ (i := 4) rfl rfl (by decide) (hdep ⟨4, .guard⟩ (by simp) rfl)
          have e14 : A_.tmps[14]?.getD undef = .pointer (some ⟨g, k * 9, none⟩) := getD_of (hI.val_ (i := 7) rfl rfl (by decide) (hdep ⟨7, .data⟩ (by simp) rfl))
          clear hI hdep
          exact .run ((wanted_some rfl rfl q11).trans rfl) (.pointer (some ⟨g, k * 9, none⟩)) w3 (by simp [execOp, go_sem, Act.eval, e14]) (Below.refl _ _) rfl
        · simp only [List.getElem?_toArray, List.getElem?_cons_succ, List.getElem?_cons_zero, Option.some.injEq] at ho
          subst ho
          refine ⟨rfl, ?_⟩
          have q11 : A_.tmps[11]? = some (.bool true) := hI.val_ (i := 4) rfl rfl (by decide) (hdep ⟨4, .guard⟩ (by simp) rfl)
          have e15 : A_.tmps[15]?.getD undef = .pointer (some ⟨g, k * 9, none⟩) := getD_of (hI.val_ (i := 8) rfl rfl (by decide) (hdep ⟨8, .data⟩ (by simp) rfl))
          clear hI hdep
          obtain ⟨g_, hg_, _, x0, x1, x2, x3, x4, x5, x6, x7, x8⟩ := HXK.out w3 (HV.out.trans (hh.mono HV.out.size))
          obtain rfl : g = g_ := by injection hg_ with hg_; injection hg_
          exact .run ((wanted_some rfl rfl q11).trans rfl) (.agg #[.int .i64 x.m.c, .int .i64 x.m.h, .int .i64 x.m.t, .int .i64 x.m.i, .int .i64 x.m.p]) w3 (by simp [execOp, go_sem, Act.eval, *]) (Below.refl _ _) rfl
        · simp only [List.getElem?_toArray, List.getElem?_cons_succ, List.getElem?_cons_zero, Option.some.injEq] at ho
          subst ho
          refine ⟨rfl, ?_⟩
          have q11 : A_.tmps[11]? = some (.bool true) := hI.val_ (i := 4) rfl rfl (by decide) (hdep ⟨4, .guard⟩ (by simp) rfl)
          have e3 : A_.tmps[3]?.getD undef = .pointer (some ⟨w.heap.size, 0, none⟩) := by rw [hI.low 3 (by decide)]; rfl
          clear hI hdep
          exact .run ((wanted_some rfl rfl q11).trans rfl) (.pointer (some ⟨w.heap.size, 0, none⟩)) w3 (by simp [execOp, go_sem, Act.eval, e3]) (Below.refl _ _) rfl
        · simp only [List.getElem?_toArray, List.getElem?_cons_succ, List.getElem?_cons_zero, Option.some.injEq] at ho
          subst ho
          refine ⟨rfl, ?_⟩
          have q11 : A_.tmps[11]? = some (.bool true) := hI.val_ (i := 4) rfl rfl (by decide) (hdep ⟨4, .guard⟩ (by simp) rfl)
          have e17 : A_.tmps[17]?.getD undef = .pointer (some ⟨w.heap.size, 0, none⟩) := getD_of (hI.val_ (i := 10) rfl rfl (by decide) (hdep ⟨10, .data⟩ (by simp) rfl))
          clear hI hdep
          obtain ⟨p0, p1, p2, p3, p4, p5, p6, p7, p8⟩ := HK.out w3 (HV.out.trans (hh.mono HV.out.size))
          exact .run ((wanted_some rfl rfl q11).trans rfl) (.agg #[.int .i64 a.m.c, .int .i64 a.m.h, .int .i64 a.m.t, .int .i64 a.m.i, .int .i64 a.m.p]) w3 (by simp [execOp, go_sem, Act.eval, *]) (Below.refl _ _) rfl
        · simp only [List.getElem?_toArray, List.getElem?_cons_succ, List.getElem?_cons_zero, Option.some.injEq] at ho
          subst ho
          refine ⟨rfl, ?_⟩
          have q11 : A_.tmps[11]? = some (.bool true) := hI.val_ (i := 4) rfl rfl (by decide) (hdep ⟨4, .guard⟩ (by simp) rfl)
          have e16 : A_.tmps[16]?.getD undef = .agg #[.int .i64 x.m.c, .int .i64 x.m.h, .int .i64 x.m.t, .int .i64 x.m.i, .int .i64 x.m.p] := getD_of (hI.val_ (i := 9) rfl rfl (by decide) (hdep ⟨9, .data⟩ (by simp) rfl))
          have e18 : A_.tmps[18]?.getD undef = .agg #[.int .i64 a.m.c, .int .i64 a.m.h, .int .i64 a.m.t, .int .i64 a.m.i, .int .i64 a.m.p] := getD_of (hI.val_ (i := 11) rfl rfl (by decide) (hdep ⟨11, .data⟩ (by simp) rfl))
          clear hI hdep
          exact .call ((wanted_some rfl rfl q11).trans rfl) 37 #[.agg #[.int .i64 x.m.c, .int .i64 x.m.h, .int .i64 x.m.t, .int .i64 x.m.i, .int .i64 x.m.p], .agg #[.int .i64 a.m.c, .int .i64 a.m.h, .int .i64 a.m.t, .int .i64 a.m.i, .int .i64 a.m.p]] (by simp [go_sem, Act.eval, e16, e18]) ((HCM.out w3).mono fun _ _ ⟨h1_, h2_⟩ => ⟨⟨_, h1_, rfl⟩, h2_⟩)
        · simp only [List.getElem?_toArray, List.getElem?_cons_succ, List.getElem?_cons_zero, Option.some.injEq] at ho
          subst ho
          refine ⟨rfl, ?_⟩
          have q11 : A_.tmps[11]? = some (.bool true) := hI.val_ (i := 4) rfl rfl (by decide) (hdep ⟨4, .guard⟩ (by simp) rfl)
          have e19 : A_.tmps[19]?.getD undef = .int .i64 r := getD_of (hI.val_ (i := 12) rfl rfl (by decide) (hdep ⟨12, .data⟩ (by simp) rfl))
          clear hI hdep
          exact .run ((wanted_some rfl rfl q11).trans rfl) (.bool b) w3 (by simp [execOp, go_sem, Act.eval, *]) (Below.refl _ _) rfl
        · simp only [List.getElem?_toArray, List.getElem?_cons_succ, List.getElem?_cons_zero, Option.some.injEq] at ho
          subst ho
          refine ⟨rfl, ?_⟩
          have e11 : A_.tmps[11]?.getD undef = .bool true := getD_of (hI.val_ (i := 4) rfl rfl (by decide) (hdep ⟨4, .data⟩ (by simp) rfl))
          have e20 : A_.tmps[20]?.getD undef = .bool b := getD_of (hI.val_ (i := 13) rfl rfl (by decide) (hdep ⟨13, .data⟩ (by simp) rfl))
          clear hI hdep
          exact .run rfl (.bool b) w3 (by simp [execOp, go_sem, Act.eval, e11, e20]) (Below.refl _ _) rfl
      case fin =>
      intro A_ w3 hs hd hlow hS hok
      obtain rfl : A_ = ⟨#[.slice (some ⟨g, 0, none⟩) n c, enV a, undef, .pointer (some ⟨w.heap.size, 0, none⟩), .slice none 0 0, .int .i64 (k : Int), undef, .int .i64 (k : Int), .slice (some ⟨g, 0, none⟩) n c, .int .i64 (n : Int), .bool true, .bool true, .slice (some ⟨g, 0, none⟩) n c, .int .i64 (k : Int), .pointer (some ⟨g, k * 9, none⟩), .pointer (some ⟨g, k * 9, none⟩), .agg #[.int .i64 x.m.c, .int .i64 x.m.h, .int .i64 x.m.t, .int .i64 x.m.i, .int .i64 x.m.p], .pointer (some ⟨w.heap.size, 0, none⟩), .agg #[.int .i64 a.m.c, .int .i64 a.m.h, .int .i64 a.m.t, .int .i64 a.m.i, .int .i64 a.m.p], .int .i64 r, .bool b, .bool b, u22, u23, undef, undef, undef, undef, undef, undef, undef, undef, undef, undef, undef, undef, undef, undef], []⟩ := act_ext hd hs (fun j hj => match j, hj with | 0, _ => (hlow 0 (by decide)).trans rfl | 1, _ => (hlow 1 (by decide)).trans rfl | 2, _ => (hlow 2 (by decide)).trans rfl | 3, _ => (hlow 3 (by decide)).trans rfl | 4, _ => (hlow 4 (by decide)).trans rfl | 5, _ => (hlow 5 (by decide)).trans rfl | 6, _ => (hlow 6 (by decide)).trans rfl | 7, _ => RgX.val_at (hok 0 7 _ (by decide) rfl rfl) | 8, _ => RgX.val_at (hok 1 8 _ (by decide) rfl rfl) | 9, _ => RgX.val_at (hok 2 9 _ (by decide) rfl rfl) | 10, _ => RgX.val_at (hok 3 10 _ (by decide) rfl rfl) | 11, _ => RgX.val_at (hok 4 11 _ (by decide) rfl rfl) | 12, _ => RgX.val_at (hok 5 12 _ (by decide) rfl rfl) | 13, _ => RgX.val_at (hok 6 13 _ (by decide) rfl rfl) | 14, _ => RgX.val_at (hok 7 14 _ (by decide) rfl rfl) | 15, _ => RgX.val_at (hok 8 15 _ (by decide) rfl rfl) | 16, _ => RgX.val_at (hok 9 16 _ (by decide) rfl rfl) | 17, _ => RgX.val_at (hok 10 17 _ (by decide) rfl rfl) | 18, _ => RgX.val_at (hok 11 18 _ (by decide) rfl rfl) | 19, _ => RgX.val_at (hok 12 19 _ (by decide) rfl rfl) | 20, _ => RgX.val_at (hok 13 20 _ (by decide) rfl rfl) | 21, _ => RgX.val_at (hok 14 21 _ (by decide) rfl rfl) | 22, _ => (hlow 22 (by decide)).trans rfl | 23, _ => (hlow 23 (by decide)).trans rfl | 24, _ => (hlow 24 (by decide)).trans rfl | 25, _ => (hlow 25 (by decide)).trans rfl | 26, _ => (hlow 26 (by decide)).trans rfl | 27, _ => (hlow 27 (by decide)).trans rfl | 28, _ => (hlow 28 (by decide)).trans rfl | 29, _ => (hlow 29 (by decide)).trans rfl | 30, _ => (hlow 30 (by decide)).trans rfl | 31, _ => (hlow 31 (by decide)).trans rfl | 32, _ => (hlow 32 (by decide)).trans rfl | 33, _ => (hlow 33 (by decide)).trans rfl | 34, _ => (hlow 34 (by decide)).trans rfl | 35, _ => (hlow 35 (by decide)).trans rfl | 36, _ => (hlow 36 (by decide)).trans rfl | 37, _ => (hlow 37 (by decide)).trans rfl | n + 38, h => absurd h (by show ¬ n + 38 < 38; omega))
      clear hs hd hlow hok 
      have HV3 := Lib.hid (HV.out.trans (hS.mono HV.out.size))
      clear hS HV
      cases b with
      | true =>
        have HN := Lib.hid (HQ.out.trans (NW.lo_step HXX.out (of_decide_eq_true HBB.out)))
        clear HQ
        go_wp2_with fail
        go_roundw
        case rel => exact ⟨k + 1, by omega, by go_num, HN, HV3⟩
        case measure => simp [intOf]; omega
      | false =>
        have HN := Lib.hid (HQ.out.trans (NW.lo_halt HXX.out (of_decide_eq_false HBB.out)))
        clear HQ HBB HCM HXK HXX hb
        have HV5 := HV3
        clear HV3
        obtain ⟨w5, h5⟩ : ∃ W, W = w3 := ⟨_, rfl⟩
        rw [← h5] at HV5 ⊢
        clear h5
        go_upto_region 5 with (fail)
        have s5 := HV5.out.size
        have hkc : k ≤ c := by have := HC.out; omega
        go_upto_region 6 with (at_builtin; refine RgX.wpList_append_any rfl _ _ 29 rfl U.heap.size 28 i0 _ 9 72 Try.underlying29 hi0 hz0 hs0 hb0 rfl (by decide) (.slice none 0 0) 0 [] rfl (World.ownsRow_nil _ _ _ _) (some ⟨g, 0, none⟩) k c (RS.flat enE (l.take k)) rfl (by rw [RS.flat_len, List.length_take, HL.out]; show min k n * 9 = k * 9; congr 1; omega) ((HX.out w5 HV5.out).front k hk) (RS.flat_ones _) (by simp only [maxLen]; omega) (by omega) s5 ?_; intro B6 c6 w6 own6 gr6)
        have hb6 := HV5.out.grown gr6 s5 (fun b e => by cases e)
        obtain ⟨p0, p1, p2, p3, p4, p5, p6, p7, p8⟩ := HK.out w6 hb6
        have s6 := hb6.size
        have HV6 := Lib.hid hb6
        clear hb6 gr6
        rw [Nat.zero_add, List.nil_append] at own6
        have own6' := own6.alloc (.cells (enE.f a).toArray 28)
        go_upto_region 7 with (at_builtin; refine RgX.wpList_append_any rfl _ _ 29 rfl U.heap.size 28 i0 _ 9 72 Try.underlying29 hi0 hz0 hs0 hb0 rfl (by decide) _ _ _ rfl own6' (some ⟨w6.heap.size, 0, none⟩) 1 1 (enE.f a) rfl rfl (.inr ⟨_, rfl, World.news_of_block (World.alloc_heap_new w6 _)⟩) (enE.one a) (by simp only [maxLen]; omega) (by omega) (by simp; omega) ?_; intro B7 c7 w7 own7 gr7)
        have hb7 := (HV6.out.alloc s6 (.cells (enE.f a).toArray 28)).grown gr7 (by simp; omega) (fun b e => (own6'.lt b e).1)
        have s7 := hb7.size
        have HV7 := Lib.hid hb7
        clear hb7 gr7 p0 p1 p2 p3 p4 p5 p6 p7 p8 own6 own6'
        obtain ⟨A8, hA8⟩ : ∃ A, (if c = k then (some ⟨g, 0, none⟩ : Option Addr) else some ⟨g, k * 9, none⟩) = A := ⟨_, rfl⟩
        have HS8 := Lib.hid (show RgX.Src w7 A8 (n - k) (c - k) (RS.flat enE (l.drop k)) from hA8 ▸ (HX.out w7 HV7.out).back_if k hk)
        go_wp2_with (at_builtin; refine RgX.wpList_append_any rfl _ _ 29 rfl U.heap.size 28 i0 _ 9 72 Try.underlying29 hi0 hz0 hs0 hb0 rfl (by decide) _ _ _ rfl own7 A8 (n - k) (c - k) (RS.flat enE (l.drop k)) rfl (by rw [RS.flat_len, List.length_drop, HL.out]; rfl) HS8.out (RS.flat_ones _) (by simp only [maxLen]; omega) (by omega) s7 ?_; intro B8 c8 w8 own8 gr8)
        go_ret
        have hb8 := HV7.out.grown gr8 s7 (fun b e => (own7.lt b e).1)
        have he : k + 1 + (n - k) = n + 1 := by omega
        rw [he] at own8 ⊢
        refine ⟨⟨B8, c8, rfl, ?_, fun b e => Nat.le_trans HB.out.size (own_low own8 b e)⟩, HB.out.trans (hb8.mono HB.out.size)⟩
        rw [NW.put_at HN.out]
        refine RS.Sl.of_own (E := enE) (t := 28) (base := U.heap.size) ?_ (by have := HL.out; simp; omega)
        rw [RS.flat_append, RS.flat_append, RS.flat_one_, ← List.append_assoc]
        exact own8
    · have dk : decide (k < n) = false := decide_eq_false hin
      have HN := Lib.hid (HQ.out.trans (NW.lo_over (by have := HL.out; omega)))
      clear HQ
      go_upto_region 4 with (go_quiet (fail))
      have hv5 : Below U.heap.size U (wr.drewN nq) := HV.out.trans ((drewN_below wr nq).mono HV.out.size)
      obtain ⟨w5, h5⟩ : ∃ W, W = wr.drewN nq := ⟨_, rfl⟩
      rw [← h5] at hv5 ⊢
      have HV5 := Lib.hid hv5
      clear hv5 h5
      go_upto_region 5 with (fail)
      have s5 := HV5.out.size
      have hkc : k ≤ c := by have := HC.out; omega
      go_upto_region 6 with (at_builtin; refine RgX.wpList_append_any rfl _ _ 29 rfl U.heap.size 28 i0 _ 9 72 Try.underlying29 hi0 hz0 hs0 hb0 rfl (by decide) (.slice none 0 0) 0 [] rfl (World.ownsRow_nil _ _ _ _) (some ⟨g, 0, none⟩) k c (RS.flat enE (l.take k)) rfl (by rw [RS.flat_len, List.length_take, HL.out]; show min k n * 9 = k * 9; congr 1; omega) ((HX.out w5 HV5.out).front k hk) (RS.flat_ones _) (by simp only [maxLen]; omega) (by omega) s5 ?_; intro B6 c6 w6 own6 gr6)
      have hb6 := HV5.out.grown gr6 s5 (fun b e => by cases e)
      obtain ⟨p0, p1, p2, p3, p4, p5, p6, p7, p8⟩ := HK.out w6 hb6
      have s6 := hb6.size
      have HV6 := Lib.hid hb6
      clear hb6 gr6
      rw [Nat.zero_add, List.nil_append] at own6
      have own6' := own6.alloc (.cells (enE.f a).toArray 28)
      go_upto_region 7 with (at_builtin; refine RgX.wpList_append_any rfl _ _ 29 rfl U.heap.size 28 i0 _ 9 72 Try.underlying29 hi0 hz0 hs0 hb0 rfl (by decide) _ _ _ rfl own6' (some ⟨w6.heap.size, 0, none⟩) 1 1 (enE.f a) rfl rfl (.inr ⟨_, rfl, World.news_of_block (World.alloc_heap_new w6 _)⟩) (enE.one a) (by simp only [maxLen]; omega) (by omega) (by simp; omega) ?_; intro B7 c7 w7 own7 gr7)
      have hb7 := (HV6.out.alloc s6 (.cells (enE.f a).toArray 28)).grown gr7 (by simp; omega) (fun b e => (own6'.lt b e).1)
      have s7 := hb7.size
      have HV7 := Lib.hid hb7
      clear hb7 gr7 p0 p1 p2 p3 p4 p5 p6 p7 p8 own6 own6'
      obtain ⟨A8, hA8⟩ : ∃ A, (if c = k then (some ⟨g, 0, none⟩ : Option Addr) else some ⟨g, k * 9, none⟩) = A := ⟨_, rfl⟩
      have HS8 := Lib.hid (show RgX.Src w7 A8 (n - k) (c - k) (RS.flat enE (l.drop k)) from hA8 ▸ (HX.out w7 HV7.out).back_if k hk)
      go_wp2_with (at_builtin; refine RgX.wpList_append_any rfl _ _ 29 rfl U.heap.size 28 i0 _ 9 72 Try.underlying29 hi0 hz0 hs0 hb0 rfl (by decide) _ _ _ rfl own7 A8 (n - k) (c - k) (RS.flat enE (l.drop k)) rfl (by rw [RS.flat_len, List.length_drop, HL.out]; rfl) HS8.out (RS.flat_ones _) (by simp only [maxLen]; omega) (by omega) s7 ?_; intro B8 c8 w8 own8 gr8)
      go_ret
      have hb8 := HV7.out.grown gr8 s7 (fun b e => (own7.lt b e).1)
      have he : k + 1 + (n - k) = n + 1 := by omega
      rw [he] at own8 ⊢
      refine ⟨⟨B8, c8, rfl, ?_, fun b e => Nat.le_trans HB.out.size (own_low own8 b e)⟩, HB.out.trans (hb8.mono HB.out.size)⟩
      rw [NW.put_at HN.out]
      refine RS.Sl.of_own (E := enE) (t := 28) (base := U.heap.size) ?_ (by have := HL.out; simp; omega)
      rw [RS.flat_append, RS.flat_append, RS.flat_one_, ← List.append_assoc]
      exact own8
set_option maxHeartbeats 4000000 in
set_option maxRecDepth 100000 in
theorem put_none (a : NW.En) (w : World) :
    Calls Try.prog 30 #[.slice none 0 0, enV a] w fun e w' => (∃ B c', e = .returned (.slice B 1 c') ∧ Ens w' B 1 c' [a] ∧ ∀ b, B = some b → w.heap.size ≤ b.block) ∧ Below w.heap.size w w' := by
  obtain ⟨i0, hi0, hz0, hs0, hb0⟩ := info_split3 info_en
  obtain ⟨U, hU⟩ : ∃ U, w.alloc (.cells #[.int .i64 a.m.c, .int .i64 a.m.h, .int .i64 a.m.t, .int .i64 a.m.i, .int .i64 a.m.p, .int .i64 a.o, .int .i64 a.k, .int .i64 a.a, .int .i64 a.b] 28) = U := ⟨_, rfl⟩
  have hb : Below w.heap.size w U := hU ▸ one_box w _
  have k1 : EnB U w.heap.size a := by rw [← hU]; exact new_at rfl
  have HK := Lib.hid (fun (V : World) (hV : Below U.heap.size U V) => (k1.keep hV).cells)
  have HB := Lib.hid hb
  clear k1 hb
  go_enter Try.func30, Try.ntmps30
  go_wp2_with fail
  clear hU
  go_loopw [5] (fun i V => i = .int .i64 0 ∧ Hid (Below U.heap.size U V)) (fun _ _ => 0)
  case atStart => exact ⟨rfl, Below.refl _ _⟩
  case round =>
    obtain ⟨rfl, HV⟩ := hrel
    go_upto_region 4 with (go_quiet (fail))
    have hv5 : Below U.heap.size U (wr.drewN nq) := HV.out.trans ((drewN_below wr nq).mono HV.out.size)
    obtain ⟨w5, h5⟩ : ∃ W, W = wr.drewN nq := ⟨_, rfl⟩
    rw [← h5] at hv5 ⊢
    have s5 := hv5.size
    have HV5 := Lib.hid hv5
    clear hv5 h5
    go_upto_region 6 with (at_builtin; refine RgX.wpList_append_any rfl _ _ 29 rfl U.heap.size 28 i0 _ 9 72 Try.underlying29 hi0 hz0 hs0 hb0 rfl (by decide) (.slice none 0 0) 0 [] rfl (World.ownsRow_nil _ _ _ _) none 0 0 [] rfl rfl (.inl ⟨rfl, rfl, rfl, rfl⟩) (fun u hu => by cases hu) (by simp [maxLen]) (by omega) s5 ?_; intro B6 c6 w6 own6 gr6)
    have hb6 := HV5.out.grown gr6 s5 (fun b e => by cases e)
    obtain ⟨p0, p1, p2, p3, p4, p5, p6, p7, p8⟩ := HK.out w6 hb6
    have s6 := hb6.size
    have HV6 := Lib.hid hb6
    clear hb6 gr6
    rw [List.nil_append] at own6
    have own6' := own6.alloc (.cells (enE.f a).toArray 28)
    go_upto_region 7 with (at_builtin; refine RgX.wpList_append_any rfl _ _ 29 rfl U.heap.size 28 i0 _ 9 72 Try.underlying29 hi0 hz0 hs0 hb0 rfl (by decide) _ _ _ rfl own6' (some ⟨w6.heap.size, 0, none⟩) 1 1 (enE.f a) rfl rfl (.inr ⟨_, rfl, World.news_of_block (World.alloc_heap_new w6 _)⟩) (enE.one a) (by simp [maxLen]) (by omega) (by simp; omega) ?_; intro B7 c7 w7 own7 gr7)
    have hb7 := (HV6.out.alloc s6 (.cells (enE.f a).toArray 28)).grown gr7 (by simp; omega) (fun b e => (own6'.lt b e).1)
    have s7 := hb7.size
    have HV7 := Lib.hid hb7
    clear hb7 gr7 p0 p1 p2 p3 p4 p5 p6 p7 p8 own6 own6'
    go_wp2_with (at_builtin; refine RgX.wpList_append_any rfl _ _ 29 rfl U.heap.size 28 i0 _ 9 72 Try.underlying29 hi0 hz0 hs0 hb0 rfl (by decide) _ _ _ rfl own7 none 0 0 [] rfl rfl (.inl ⟨rfl, rfl, rfl, rfl⟩) (fun u hu => by cases hu) (by simp [maxLen]) (by omega) s7 ?_; intro B8 c8 w8 own8 gr8)
    go_ret
    have hb8 := HV7.out.grown gr8 s7 (fun b e => (own7.lt b e).1)
    refine ⟨⟨B8, c8, rfl, RS.Sl.of_own (E := enE) (t := 28) (base := U.heap.size) (by rw [RS.flat_one_]; simp at own8; exact own8) rfl, fun b e => Nat.le_trans HB.out.size (own_low own8 b e)⟩, HB.out.trans (hb8.mono HB.out.size)⟩
theorem put_any {A : Option Addr} {n c : Nat} (a : NW.En) {l : List NW.En} (w : World) (h1 : Ens w A n c l) (bn : n ≤ 100000) :
    Calls Try.prog 30 #[.slice A n c, enV a] w fun e w' => (∃ v, e = .returned v ∧ (RgX.Sp.ens w.heap.size (NW.put l a) (n + 1)).p w' v) ∧ Below w.heap.size w w' := by
  have h2 := h1
  obtain ⟨e1, e2, e3, e4⟩ := h1
  rcases e4 with ⟨rfl, rfl⟩ | ⟨g, rfl, _, _⟩
  · obtain rfl : n = 0 := by omega
    obtain rfl : l = [] := List.eq_nil_of_length_eq_zero e1
    exact (put_none a w).mono fun _ _ ⟨⟨B, c', h3, h4⟩, h5⟩ => ⟨⟨_, h3, B, c', rfl, h4⟩, h5⟩
  · exact (put_some g n c a w h2 bn).mono fun _ _ ⟨⟨B, c', h3, h4⟩, h5⟩ => ⟨⟨_, h3, B, c', rfl, h4⟩, h5⟩
end Go.Proofs.Ytepbppckhfiplaa
