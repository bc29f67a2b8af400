/-
  The walk of the law TapeNormal. No condition beyond the arguments' readings.
  The statement TapeNormal: for every input the law answers true and leaves its arguments as they were. No condition is added. The frame of this proof was written after the guide's program, the walk is the text LawTapeNormal's.
-/
import Derived.Test.YtnnbfjhpeamioaaK40
import Derived.Test.YtnnbfjhpeamioaaK15
import Derived.Test.YtnnbfjhpeamioaaRows
import Derived.WalkKit
import Derived.ProofKit
import Derived.OpenShut
import Derived.ShutString
import Derived.ChangeOld
import Derived.Below
import Derived.Deep.Grids

namespace Go.Proofs.Ytnnbfjhpeamioaa
open Go Go.RowKit Go.Proofs
/-- A row of two tapes. -/
def Two (lo : Nat) (w : World) (g : Nat) (e0 : List NM.Ev) (l0 : List TP.An) (e1 : List NM.Ev) (l1 : List TP.An) : Prop :=
  ∃ (E : Option Addr) (c : Nat) (A : Option Addr) (d : Nat) (E' : Option Addr) (c' : Nat) (A' : Option Addr) (d' : Nat), w.heap[g]? = some (.cells #[.slice E e0.length c, .slice A l0.length d, .slice E' e1.length c', .slice A' l1.length d'] 26 (0, 0)) ∧ TapeIs lo w E e0.length c A l0.length d e0 l0 ∧ TapeIs lo w E' e1.length c' A' l1.length d' e1 l1
theorem Two.keep {lo : Nat} {w w' : World} {g : Nat} {e0 : List NM.Ev} {l0 : List TP.An} {e1 : List NM.Ev} {l1 : List TP.An} (h : Two lo w g e0 l0 e1 l1) (hb : Below w.heap.size w w') : Two lo w' g e0 l0 e1 l1 := by
  obtain ⟨E, c, A, d, E', c', A', d', h1, h2, h3⟩ := h
  exact ⟨E, c, A, d, E', c', A', d', (hb.block g (heap_lt h1)).trans h1, h2.keep hb, h3.keep hb⟩
namespace RgX
def Sp.two (lo : Nat) (e0 : List NM.Ev) (l0 : List TP.An) (e1 : List NM.Ev) (l1 : List TP.An) : Sp := ⟨fun w x => ∃ g, x = .slice (some ⟨g, 0, none⟩) 2 2 ∧ Two lo w g e0 l0 e1 l1, fun ⟨g, e, h⟩ hb => ⟨g, e, h.keep hb⟩⟩
end RgX
/-- A store into a box of slices leaves rows of answers and of events as they are. -/
theorem Ans.set {W W' : World} {A : Option Addr} {n g : Nat} {l : List TP.An} {a1 : Option Addr} {b1 c1 : Nat} {v : Value} {t : TypeId} (h : Ans W A n l) (hg : W.heap[g]? = some (.cells #[.slice a1 b1 c1, v] t (0, 0))) (ho : ∀ b, b ≠ g → W'.heap[b]? = W.heap[b]?) (hs : W'.heap.size = W.heap.size) : Ans W' A n l := by
  refine ⟨h.1, fun hn => ?_⟩
  obtain ⟨g2, rfl, hlt, h3⟩ := h.2 hn
  obtain ⟨x, hx⟩ : ∃ x, l[0]? = some x := ⟨_, List.getElem?_eq_getElem (by have := h.1; omega)⟩
  have hne : g2 ≠ g := by
    rintro rfl
    have c0 := (h3 0 x hx).1
    rw [cell_of_row W g2 (0 * 6) _ _ (0, 0) hg] at c0
    simp at c0
  refine ⟨g2, rfl, by omega, fun j x hx => ?_⟩
  obtain ⟨k0, k1, k2, k3, k4, k5⟩ := h3 j x hx
  have hb := fun (o : Nat) => World.cell?_of_block (w := W) (w' := W') (a := ⟨g2, o, none⟩) (ho g2 hne)
  exact ⟨(hb _).trans k0, (hb _).trans k1, (hb _).trans k2, (hb _).trans k3, (hb _).trans k4, (hb _).trans k5⟩
theorem Evs.set {W W' : World} {A : Option Addr} {n g : Nat} {l : List NM.Ev} {a1 : Option Addr} {b1 c1 : Nat} {v : Value} {t : TypeId} (h : Evs W A n l) (hg : W.heap[g]? = some (.cells #[.slice a1 b1 c1, v] t (0, 0))) (ho : ∀ b, b ≠ g → W'.heap[b]? = W.heap[b]?) (hs : W'.heap.size = W.heap.size) : Evs W' A n l := by
  refine ⟨h.1, fun hn => ?_⟩
  obtain ⟨g2, rfl, hlt, h3⟩ := h.2 hn
  obtain ⟨x, hx⟩ : ∃ x, l[0]? = some x := ⟨_, List.getElem?_eq_getElem (by have := h.1; omega)⟩
  have hne : g2 ≠ g := by
    rintro rfl
    have c0 := (h3 0 x hx).1
    rw [cell_of_row W g2 (0 * 8) _ _ (0, 0) hg] at c0
    simp at c0
  refine ⟨g2, rfl, by omega, fun j x hx => ?_⟩
  obtain ⟨k0, k1, k2, k3, k4, k5, k6, k7⟩ := h3 j x hx
  have hb := fun (o : Nat) => World.cell?_of_block (w := W) (w' := W') (a := ⟨g2, o, none⟩) (ho g2 hne)
  exact ⟨(hb _).trans k0, (hb _).trans k1, (hb _).trans k2, (hb _).trans k3, (hb _).trans k4, (hb _).trans k5, (hb _).trans k6, (hb _).trans k7⟩
theorem TIn.set {W W' : World} {E A : Option Addr} {ne ce na g : Nat} {es : List NM.Ev} {l : List TP.An} {a1 : Option Addr} {b1 c1 : Nat} {v : Value} {t : TypeId} (h : TIn W E ne ce A na es l) (hg : W.heap[g]? = some (.cells #[.slice a1 b1 c1, v] t (0, 0))) (ho : ∀ b, b ≠ g → W'.heap[b]? = W.heap[b]?) (hs : W'.heap.size = W.heap.size) : TIn W' E ne ce A na es l :=
  ⟨h.ev.set hg ho hs, h.nil, h.an.set hg ho hs, h.be, h.ba0⟩
end Go.Proofs.Ytnnbfjhpeamioaa
namespace Go.Proofs.Ytnnbfjhpeamioaa.LawTapeNormal
open Go Go.RowKit Go.Proofs Go.Proofs.Ytnnbfjhpeamioaa
attribute [local go_sem] Oper.semAt_some

set_option maxHeartbeats 16000000 in
set_option maxRecDepth 100000 in
theorem walk (a0 : Option Addr) (len0 cap0 : Nat) (z0 : List Int) (a1 : Option Addr) (len1 cap1 : Nat) (z1 : List Int) (tE : Option Addr) (tn tc : Nat) (tA : Option Addr) (tm td : Nat) (tes : List NM.Ev) (tl : List TP.An) (qc qh qt qk qi : Int) (a4 a5 : Int) (w : World) (w0 : Row .i64 w a0 len0 cap0 z0) (w1 : Row .i64 w a1 len1 cap1 z1) (w2 : (RawR evE w tE tn tc tes ∧ ∀ e ∈ tes, EvW e) ∧ (RawR anE w tA tm td tl ∧ ∀ a ∈ tl, AnW a)) (w4 : (Lit.int .i64 a4).wf = true) (w5 : (Lit.int .i64 a5).wf = true) :
    Calls Try.prog 3 #[.slice a0 len0 cap0, .slice a1 len1 cap1, .agg #[.slice tE tn tc, .slice tA tm td], .agg #[.int .i64 qc, .int .i64 qh, .int .i64 qt, .int .i64 qk, .int .i64 qi], .int .i64 a4, .int .i64 a5] w fun e w' => e = .returned (.bool true) ∧ Below w.heap.size w w' := by
  have i0 := w0.ints.1
  have j0 := i64_of w0.ints.2.2.2
  have i1 := w1.ints.1
  have j1 := i64_of w1.ints.2.2.2
  have HT := Lib.hid (fun (V : World) (hV : Below w.heap.size w V) => RgX.tape_calls_lo hV.size rfl rfl (refTape_any (cap0 := cap0) (cap1 := cap1) V ((i0.below hV).more hV.size) j0 ((i1.below hV).more hV.size) j1))
  have HC := Lib.hid (fun (V : World) (hV : Below w.heap.size w V) => RgX.tape_calls_lo hV.size rfl rfl (cut_any V (w2.1.1.keep hV) (w2.2.1.keep hV)))
  have F0 := Lib.hid (show (TP.evsG (z0.take len0)).length ≤ 10 ∧ (TP.ansG (z1.take len1)).length ≤ 10 ∧ (∀ e ∈ TP.evsG (z0.take len0), ∀ y ∈ NM.evL e, I64 y) ∧ (∀ a ∈ TP.ansG (z1.take len1), ∀ y ∈ anL a, I64 y) from ⟨by unfold TP.evsG; rw [List.length_map]; exact Nat.le_trans (List.length_take_le _ _) (by decide), by unfold TP.ansG; rw [List.length_map]; exact List.length_take_le _ _, evs64 _, ans64 _⟩)
  have F1 := Lib.hid (show (tes.take 6).length ≤ 10 ∧ (tl.take 6).length ≤ 10 ∧ (∀ e ∈ tes.take 6, ∀ y ∈ NM.evL e, I64 y) ∧ (∀ a ∈ tl.take 6, ∀ y ∈ anL a, I64 y) from ⟨Nat.le_trans (List.length_take_le _ _) (by decide), Nat.le_trans (List.length_take_le _ _) (by decide), fun e he => evw64 (w2.1.2 e (List.mem_of_mem_take he)), fun a ha => anw64 (w2.2.2 a (List.mem_of_mem_take ha))⟩)
  obtain ⟨e0, he0⟩ : ∃ x, TP.evsG (z0.take len0) = x := ⟨_, rfl⟩
  obtain ⟨l0, hl0⟩ : ∃ x, TP.ansG (z1.take len1) = x := ⟨_, rfl⟩
  obtain ⟨e1, he1⟩ : ∃ x, tes.take 6 = x := ⟨_, rfl⟩
  obtain ⟨l1, hl1⟩ : ∃ x, tl.take 6 = x := ⟨_, rfl⟩
  rw [he0, hl0] at HT F0
  rw [he1, hl1] at HC F1
  have hq5 : I64 a5 := by have := bounds_i64 w5; unfold I64; omega
  have w4_ := w4
  clear w4_ w0 w1 w2 w4 w5 i0 j0 i1 j1 he0 hl0 he1 hl1
  have HQU := Lib.hid (fun V => refQuestion_any a5 hq5 V)
  obtain ⟨p, hp⟩ : ∃ q, TP.qOf a5 = q := ⟨_, rfl⟩
  rw [hp] at HQU
  clear hp hq5
  go_enter Try.func3, Try.ntmps3
  go_upto_region 1 with (fail)
  obtain ⟨W, hW, hbW, kt, kq, hltW⟩ := two_boxes w (.cells #[.slice tE tn tc, .slice tA tm td] 26) (.cells #[.int .i64 qc, .int .i64 qh, .int .i64 qt, .int .i64 qk, .int .i64 qi] 30)
  try rw [hW]
  have HBX := Lib.hid (fun (V : World) (hV : Below W.heap.size W V) => And.intro (row2C ((hV.block _ (heap_lt kt)).trans kt)) (row5 ((hV.block _ (heap_lt kq)).trans kq)))
  have HWB := Lib.hid hbW
  clear hW hbW kt kq hltW
  refine RgX.regionB 7 (fun i => (if i = 6 then 13 else 20 + i)) (fun ix_ => match ix_ with | 0 => .v (.slice a0 len0 cap0) | 1 => .v (.slice a1 len1 cap1) | 2 => .tape w.heap.size e0 l0 e0.length l0.length | 3 => .v (.agg #[.slice tE tn tc, .slice tA tm td]) | 4 => .tape w.heap.size e1 l1 e1.length l1.length | 5 => .two w.heap.size e0 l0 e1 l1 | 6 => .two w.heap.size e0 l0 e1 l1 | _ => .any) (by kernel_rfl) rfl (by kernel_rfl)  (fun i hi => by show (if i = 6 then 13 else 20 + i) < 126; (repeat' split) <;> omega) (fun i j hi hj => by show (if i = 6 then 13 else 20 + i) = (if j = 6 then 13 else 20 + j) → i = j; (repeat' split) <;> omega) ?step ?fin
  case step =>
    intro L_ A_ w3 ix op_ hI ho hdep
    have hi : ix < 7 := (Array.getElem?_eq_some_iff.1 ho).1
    have hcase : ix = 0 ∨ ix = 1 ∨ ix = 2 ∨ ix = 3 ∨ ix = 4 ∨ ix = 5 ∨ ix = 6 := by omega
    have hh := hI.held
    clear hi
    rcases hcase with rfl | rfl | rfl | rfl | rfl | rfl | rfl
    · simp only [List.getElem?_toArray, List.getElem?_cons_zero, Option.some.injEq] at ho
      subst ho
      refine ⟨rfl, ?_⟩
      have e0 : A_.tmps[0]?.getD undef = .slice a0 len0 cap0 := by rw [hI.low 0 (by decide)]; rfl
      clear hI hdep
      exact .run rfl (.slice a0 len0 cap0) w3 (by simp [execOp, go_sem, Act.eval, e0]) (Below.refl _ _) rfl
    · simp only [List.getElem?_toArray, List.getElem?_cons_succ, List.getElem?_cons_zero, Option.some.injEq] at ho
      subst ho
      refine ⟨rfl, ?_⟩
      have e1 : A_.tmps[1]?.getD undef = .slice a1 len1 cap1 := by rw [hI.low 1 (by decide)]; rfl
      clear hI hdep
      exact .run rfl (.slice a1 len1 cap1) w3 (by simp [execOp, go_sem, Act.eval, e1]) (Below.refl _ _) rfl
    · simp only [List.getElem?_toArray, List.getElem?_cons_succ, List.getElem?_cons_zero, Option.some.injEq] at ho
      subst ho
      refine ⟨rfl, ?_⟩
      have e20 : A_.tmps[20]?.getD undef = .slice a0 len0 cap0 := getD_of (hI.val_ (i := 0) rfl rfl (by decide) (hdep ⟨0, .data⟩ (by simp) rfl))
      have e21 : A_.tmps[21]?.getD undef = .slice a1 len1 cap1 := getD_of (hI.val_ (i := 1) rfl rfl (by decide) (hdep ⟨1, .data⟩ (by simp) rfl))
      clear hI hdep
      exact .call rfl 12 #[.slice a0 len0 cap0, .slice a1 len1 cap1] (by simp [go_sem, Act.eval, e20, e21]) (HT.out w3 (HWB.out.trans (hh.mono HWB.out.size)))
    · simp only [List.getElem?_toArray, List.getElem?_cons_succ, List.getElem?_cons_zero, Option.some.injEq] at ho
      subst ho
      refine ⟨rfl, ?_⟩
      have e8 : A_.tmps[8]?.getD undef = .pointer (some ⟨w.heap.size, 0, none⟩) := by rw [hI.low 8 (by decide)]; rfl
      clear hI hdep
      obtain ⟨⟨b0, b1⟩, _⟩ := HBX.out w3 hh
      exact .run rfl (.agg #[.slice tE tn tc, .slice tA tm td]) w3 (by simp [execOp, go_sem, Act.eval, *]) (Below.refl _ _) rfl
    · simp only [List.getElem?_toArray, List.getElem?_cons_succ, List.getElem?_cons_zero, Option.some.injEq] at ho
      subst ho
      refine ⟨rfl, ?_⟩
      have e23 : A_.tmps[23]?.getD undef = .agg #[.slice tE tn tc, .slice tA tm td] := getD_of (hI.val_ (i := 3) rfl rfl (by decide) (hdep ⟨3, .data⟩ (by simp) rfl))
      clear hI hdep
      exact .call rfl 13 #[.agg #[.slice tE tn tc, .slice tA tm td]] (by simp [go_sem, Act.eval, e23]) (HC.out w3 (HWB.out.trans (hh.mono HWB.out.size)))
    · simp only [List.getElem?_toArray, List.getElem?_cons_succ, List.getElem?_cons_zero, Option.some.injEq] at ho
      subst ho
      refine ⟨rfl, ?_⟩
      obtain ⟨_, e22, E22, c22, A22, d22, rfl, h22⟩ := hI.get_ (i := 2) (j := 22) rfl rfl (by decide) (hdep ⟨2, .data⟩ (by simp) rfl)
      obtain ⟨_, e24, E24, c24, A24, d24, rfl, h24⟩ := hI.get_ (i := 4) (j := 24) rfl rfl (by decide) (hdep ⟨4, .data⟩ (by simp) rfl)
      clear hI hdep
      exact .run rfl (.slice (some ⟨w3.heap.size, 0, none⟩) 2 2) (w3.alloc (.cells #[.slice E22 e0.length c22, .slice A22 l0.length d22, .slice E24 e1.length c24, .slice A24 l1.length d24] 26)) (by simp [execOp, go_sem, Act.eval, e22, e24]) ((Below.refl _ _).alloc (Nat.le_refl _) _) ⟨_, rfl, _, _, _, _, _, _, _, _, heap_alloc_new _ _, h22.keep (one_box _ _), h24.keep (one_box _ _)⟩
    · simp only [List.getElem?_toArray, List.getElem?_cons_succ, List.getElem?_cons_zero, Option.some.injEq] at ho
      subst ho
      refine ⟨rfl, ?_⟩
      obtain ⟨y25, e25, h25⟩ := hI.get_ (i := 5) (j := 25) rfl rfl (by decide) (hdep ⟨5, .data⟩ (by simp) rfl)
      clear hI hdep
      exact .run rfl y25 w3 (by simp [execOp, go_sem, Act.eval, e25]) (Below.refl _ _) h25
  case fin =>
  intro A_ w3 hs hd hlow hS hok
  obtain ⟨_, hy13, g13, rfl, r13⟩ := hok 6 13 _ (by decide) rfl rfl
  obtain ⟨_, hy22, E22, c22, A22, d22, rfl, h22⟩ := hok 2 22 _ (by decide) rfl rfl
  obtain ⟨_, hy24, E24, c24, A24, d24, rfl, h24⟩ := hok 4 24 _ (by decide) rfl rfl
  obtain ⟨_, hy25, g25, rfl, r25⟩ := hok 5 25 _ (by decide) rfl rfl
  obtain rfl : A_ = ⟨#[.slice a0 len0 cap0, .slice a1 len1 cap1, .agg #[.slice tE tn tc, .slice tA tm td], .agg #[.int .i64 qc, .int .i64 qh, .int .i64 qt, .int .i64 qk, .int .i64 qi], .int .i64 a4, .int .i64 a5, undef, undef, .pointer (some ⟨w.heap.size, 0, none⟩), .pointer (some ⟨w.heap.size + 1, 0, none⟩), undef, undef, .bool false, .slice (some ⟨g13, 0, none⟩) 2 2, undef, undef, undef, undef, undef, undef, .slice a0 len0 cap0, .slice a1 len1 cap1, .agg #[.slice E22 e0.length c22, .slice A22 l0.length d22], .agg #[.slice tE tn tc, .slice tA tm td], .agg #[.slice E24 e1.length c24, .slice A24 l1.length d24], .slice (some ⟨g25, 0, none⟩) 2 2, undef, undef, undef, undef, undef, undef, undef, undef, undef, undef, undef, undef, undef, undef, undef, undef, undef, undef, undef, undef, undef, undef, undef, undef, undef, undef, undef, undef, undef, undef, undef, undef, undef, undef, undef, undef, undef, undef, undef, undef, undef, undef, undef, undef, undef, undef, undef, undef, undef, undef, undef, undef, undef, undef, undef, undef, undef, undef, undef, undef, undef, undef, undef, undef, undef, undef, undef, undef, undef, undef, undef, undef, undef, undef, undef, undef, undef, undef, undef, undef, undef, undef, undef, undef, undef, undef, undef, undef, undef, undef, undef, undef, undef, undef, undef, undef, undef, undef, undef, undef], []⟩ := act_ext hd hs (fun j hj => match j, hj with | 0, _ => (hlow 0 (by decide)).trans rfl | 1, _ => (hlow 1 (by decide)).trans rfl | 2, _ => (hlow 2 (by decide)).trans rfl | 3, _ => (hlow 3 (by decide)).trans rfl | 4, _ => (hlow 4 (by decide)).trans rfl | 5, _ => (hlow 5 (by decide)).trans rfl | 6, _ => (hlow 6 (by decide)).trans rfl | 7, _ => (hlow 7 (by decide)).trans rfl | 8, _ => (hlow 8 (by decide)).trans rfl | 9, _ => (hlow 9 (by decide)).trans rfl | 10, _ => (hlow 10 (by decide)).trans rfl | 11, _ => (hlow 11 (by decide)).trans rfl | 12, _ => (hlow 12 (by decide)).trans rfl | 13, _ => hy13 | 14, _ => (hlow 14 (by decide)).trans rfl | 15, _ => (hlow 15 (by decide)).trans rfl | 16, _ => (hlow 16 (by decide)).trans rfl | 17, _ => (hlow 17 (by decide)).trans rfl | 18, _ => (hlow 18 (by decide)).trans rfl | 19, _ => (hlow 19 (by decide)).trans rfl | 20, _ => RgX.val_at (hok 0 20 _ (by decide) rfl rfl) | 21, _ => RgX.val_at (hok 1 21 _ (by decide) rfl rfl) | 22, _ => hy22 | 23, _ => RgX.val_at (hok 3 23 _ (by decide) rfl rfl) | 24, _ => hy24 | 25, _ => hy25 | 26, _ => (hlow 26 (by decide)).trans rfl | 27, _ => (hlow 27 (by decide)).trans rfl | 28, _ => (hlow 28 (by decide)).trans rfl | 29, _ => (hlow 29 (by decide)).trans rfl | 30, _ => (hlow 30 (by decide)).trans rfl | 31, _ => (hlow 31 (by decide)).trans rfl | 32, _ => (hlow 32 (by decide)).trans rfl | 33, _ => (hlow 33 (by decide)).trans rfl | 34, _ => (hlow 34 (by decide)).trans rfl | 35, _ => (hlow 35 (by decide)).trans rfl | 36, _ => (hlow 36 (by decide)).trans rfl | 37, _ => (hlow 37 (by decide)).trans rfl | 38, _ => (hlow 38 (by decide)).trans rfl | 39, _ => (hlow 39 (by decide)).trans rfl | 40, _ => (hlow 40 (by decide)).trans rfl | 41, _ => (hlow 41 (by decide)).trans rfl | 42, _ => (hlow 42 (by decide)).trans rfl | 43, _ => (hlow 43 (by decide)).trans rfl | 44, _ => (hlow 44 (by decide)).trans rfl | 45, _ => (hlow 45 (by decide)).trans rfl | 46, _ => (hlow 46 (by decide)).trans rfl | 47, _ => (hlow 47 (by decide)).trans rfl | 48, _ => (hlow 48 (by decide)).trans rfl | 49, _ => (hlow 49 (by decide)).trans rfl | 50, _ => (hlow 50 (by decide)).trans rfl | 51, _ => (hlow 51 (by decide)).trans rfl | 52, _ => (hlow 52 (by decide)).trans rfl | 53, _ => (hlow 53 (by decide)).trans rfl | 54, _ => (hlow 54 (by decide)).trans rfl | 55, _ => (hlow 55 (by decide)).trans rfl | 56, _ => (hlow 56 (by decide)).trans rfl | 57, _ => (hlow 57 (by decide)).trans rfl | 58, _ => (hlow 58 (by decide)).trans rfl | 59, _ => (hlow 59 (by decide)).trans rfl | 60, _ => (hlow 60 (by decide)).trans rfl | 61, _ => (hlow 61 (by decide)).trans rfl | 62, _ => (hlow 62 (by decide)).trans rfl | 63, _ => (hlow 63 (by decide)).trans rfl | 64, _ => (hlow 64 (by decide)).trans rfl | 65, _ => (hlow 65 (by decide)).trans rfl | 66, _ => (hlow 66 (by decide)).trans rfl | 67, _ => (hlow 67 (by decide)).trans rfl | 68, _ => (hlow 68 (by decide)).trans rfl | 69, _ => (hlow 69 (by decide)).trans rfl | 70, _ => (hlow 70 (by decide)).trans rfl | 71, _ => (hlow 71 (by decide)).trans rfl | 72, _ => (hlow 72 (by decide)).trans rfl | 73, _ => (hlow 73 (by decide)).trans rfl | 74, _ => (hlow 74 (by decide)).trans rfl | 75, _ => (hlow 75 (by decide)).trans rfl | 76, _ => (hlow 76 (by decide)).trans rfl | 77, _ => (hlow 77 (by decide)).trans rfl | 78, _ => (hlow 78 (by decide)).trans rfl | 79, _ => (hlow 79 (by decide)).trans rfl | 80, _ => (hlow 80 (by decide)).trans rfl | 81, _ => (hlow 81 (by decide)).trans rfl | 82, _ => (hlow 82 (by decide)).trans rfl | 83, _ => (hlow 83 (by decide)).trans rfl | 84, _ => (hlow 84 (by decide)).trans rfl | 85, _ => (hlow 85 (by decide)).trans rfl | 86, _ => (hlow 86 (by decide)).trans rfl | 87, _ => (hlow 87 (by decide)).trans rfl | 88, _ => (hlow 88 (by decide)).trans rfl | 89, _ => (hlow 89 (by decide)).trans rfl | 90, _ => (hlow 90 (by decide)).trans rfl | 91, _ => (hlow 91 (by decide)).trans rfl | 92, _ => (hlow 92 (by decide)).trans rfl | 93, _ => (hlow 93 (by decide)).trans rfl | 94, _ => (hlow 94 (by decide)).trans rfl | 95, _ => (hlow 95 (by decide)).trans rfl | 96, _ => (hlow 96 (by decide)).trans rfl | 97, _ => (hlow 97 (by decide)).trans rfl | 98, _ => (hlow 98 (by decide)).trans rfl | 99, _ => (hlow 99 (by decide)).trans rfl | 100, _ => (hlow 100 (by decide)).trans rfl | 101, _ => (hlow 101 (by decide)).trans rfl | 102, _ => (hlow 102 (by decide)).trans rfl | 103, _ => (hlow 103 (by decide)).trans rfl | 104, _ => (hlow 104 (by decide)).trans rfl | 105, _ => (hlow 105 (by decide)).trans rfl | 106, _ => (hlow 106 (by decide)).trans rfl | 107, _ => (hlow 107 (by decide)).trans rfl | 108, _ => (hlow 108 (by decide)).trans rfl | 109, _ => (hlow 109 (by decide)).trans rfl | 110, _ => (hlow 110 (by decide)).trans rfl | 111, _ => (hlow 111 (by decide)).trans rfl | 112, _ => (hlow 112 (by decide)).trans rfl | 113, _ => (hlow 113 (by decide)).trans rfl | 114, _ => (hlow 114 (by decide)).trans rfl | 115, _ => (hlow 115 (by decide)).trans rfl | 116, _ => (hlow 116 (by decide)).trans rfl | 117, _ => (hlow 117 (by decide)).trans rfl | 118, _ => (hlow 118 (by decide)).trans rfl | 119, _ => (hlow 119 (by decide)).trans rfl | 120, _ => (hlow 120 (by decide)).trans rfl | 121, _ => (hlow 121 (by decide)).trans rfl | 122, _ => (hlow 122 (by decide)).trans rfl | 123, _ => (hlow 123 (by decide)).trans rfl | 124, _ => (hlow 124 (by decide)).trans rfl | 125, _ => (hlow 125 (by decide)).trans rfl | n + 126, h => absurd h (by show ¬ n + 126 < 126; omega))
  clear hs hd hlow hok hy13 hy22 hy24 hy25
  obtain ⟨v2, h2⟩ : ∃ V, V = w3 := ⟨_, rfl⟩
  rw [← h2] at hS r13 ⊢
  have HTW := Lib.hid r13
  have HQX := Lib.hid (fun (V : World) (hV : Below v2.heap.size v2 V) => (HBX.out V (hS.trans (hV.mono hS.size))).2)
  have HB := Lib.hid (HWB.out.trans (hS.mono HWB.out.size))
  have hgl : g13 < v2.heap.size := by obtain ⟨_, _, _, _, _, _, _, _, h_, _⟩ := r13; exact heap_lt h_
  have HALL := Lib.hid (show ∀ k : Nat, k < 2 → ∃ (E : Option Addr) (ce : Nat) (A : Option Addr) (ca : Nat) (es : List NM.Ev) (l : List TP.An), v2.cell? ⟨g13, k * 2, none⟩ = some (.slice E es.length ce) ∧ v2.cell? ⟨g13, k * 2 + 1, none⟩ = some (.slice A l.length ca) ∧ TapeIs w.heap.size v2 E es.length ce A l.length ca es l ∧ es.length ≤ 10 ∧ l.length ≤ 10 ∧ (∀ e ∈ es, ∀ y ∈ NM.evL e, I64 y) ∧ (∀ a ∈ l, ∀ y ∈ anL a, I64 y) from by
    obtain ⟨E, c, A, d, E', c', A', d', h1, h3, h4⟩ := r13
    intro k hk
    match k, hk with
    | 0, _ => exact ⟨E, c, A, d, e0, l0, cell_of_row v2 _ 0 _ _ (0, 0) h1, cell_of_row v2 _ 1 _ _ (0, 0) h1, h3, F0.out⟩
    | 1, _ => exact ⟨E', c', A', d', e1, l1, cell_of_row v2 _ 2 _ _ (0, 0) h1, cell_of_row v2 _ 3 _ _ (0, 0) h1, h4, F1.out⟩)
  clear HBX r13
  clear hS h2 h22 h24 r25 HT HC
  go_wp2_with fail
  go_loopw [12, 14, 15, 16, 17, 18, 19] (fun _ i _ _ _ _ _ V => ∃ k : Nat, k ≤ 2 ∧ i = .int .i64 (k : Int) ∧ Hid (Below v2.heap.size v2 V)) (fun _ i _ _ _ _ _ _ => 2 - (intOf i).toNat)
  case atStart => exact ⟨0, by omega, rfl, Below.refl _ _⟩
  case round =>
    obtain ⟨k, hk, rfl, HV⟩ := hrel
    by_cases hk2 : k < 2
    · have dk : decide ((k : Int) < 2) = true := decide_eq_true (by omega)
      obtain ⟨E, ce, A, ca, es, l, hc0, hc1, hT, hel, hll, he, ha⟩ := HALL.out k hk2
      have hAn := nil_of_own hT.2.2
      obtain ⟨nl, hnl⟩ : ∃ x, TP.normA l = x := ⟨_, rfl⟩
      have hnll : nl.length ≤ 10 := by have := TP.norm_len l; rw [hnl] at this; omega
      have HNN := Lib.hid (show TP.normA nl = nl by rw [← hnl, TP.norm_norm])
      have HNL := Lib.hid hnl
      have c0 := (HV.out.cell (p := ⟨g13, k * 2, none⟩) hgl).trans hc0
      have c1 := (HV.out.cell (p := ⟨g13, k * 2 + 1, none⟩) hgl).trans hc1
      have hk3 : (k : Int) < 2 := by omega
      have HTI := Lib.hid (fun V (hV : Below v2.heap.size v2 V) => TapeIs.tin (TapeIs.keep hT hV) (by omega) (by omega))
      clear hc0 hc1 hT he ha hnl
      go_upto_region 6 with (fail)
      clear c0 c1
      obtain ⟨U5, hU⟩ : ∃ U, wr.alloc (.cells #[.slice E es.length ce, .slice A l.length ca] 26) = U := ⟨_, rfl⟩
      rw [hU]
      obtain ⟨g15, hg_⟩ : ∃ g, g = wr.heap.size := ⟨_, rfl⟩
      rw [← hg_]
      have K15 := Lib.hid (show U5.heap[g15]? = some (.cells #[.slice E es.length ce, .slice A l.length ca] 26 (0, 0)) from by rw [hg_, ← hU]; exact new_at rfl)
      have hb : Below wr.heap.size wr U5 := hU ▸ one_box _ _
      have HV5 := Lib.hid (HV.out.trans (hb.mono HV.out.size))
      clear hb hU hg_
      refine RgX.regionB 5 (fun i => (if i = 4 then 16 else 34 + i)) (fun ix_ => match ix_ with | 0 => .v (.agg #[.int .i64 qc, .int .i64 qh, .int .i64 qt, .int .i64 qk, .int .i64 qi]) | 1 => .v (.int .i64 a5) | 2 => .v (.agg #[.int .i64 p.c, .int .i64 p.h, .int .i64 p.t, .int .i64 p.k, .int .i64 p.i]) | 3 => .row #[.int .i64 qc, .int .i64 qh, .int .i64 qt, .int .i64 qk, .int .i64 qi, .int .i64 p.c, .int .i64 p.h, .int .i64 p.t, .int .i64 p.k, .int .i64 p.i] 30 2 | 4 => .row #[.int .i64 qc, .int .i64 qh, .int .i64 qt, .int .i64 qk, .int .i64 qi, .int .i64 p.c, .int .i64 p.h, .int .i64 p.t, .int .i64 p.k, .int .i64 p.i] 30 2 | _ => .any) (by kernel_rfl) rfl (by kernel_rfl)  (fun i hi => by show (if i = 4 then 16 else 34 + i) < 126; (repeat' split) <;> omega) (fun i j hi hj => by show (if i = 4 then 16 else 34 + i) = (if j = 4 then 16 else 34 + j) → i = j; (repeat' split) <;> omega) ?step ?fin
      case step =>
        intro L_ A_ w3 ix op_ hI ho hdep
        have hi : ix < 5 := (Array.getElem?_eq_some_iff.1 ho).1
        have hcase : ix = 0 ∨ ix = 1 ∨ ix = 2 ∨ ix = 3 ∨ ix = 4 := by omega
        have hh := hI.held
        clear hi
        rcases hcase with rfl | rfl | rfl | rfl | rfl
        · simp only [List.getElem?_toArray, List.getElem?_cons_zero, Option.some.injEq] at ho
          subst ho
          refine ⟨rfl, ?_⟩
          have e9 : A_.tmps[9]?.getD undef = .pointer (some ⟨w.heap.size + 1, 0, none⟩) := by rw [hI.low 9 (by decide)]; rfl
          clear hI hdep
          obtain ⟨s0, s1, s2, s3, s4⟩ := HQX.out w3 (HV5.out.trans (hh.mono HV5.out.size))
          exact .run rfl (.agg #[.int .i64 qc, .int .i64 qh, .int .i64 qt, .int .i64 qk, .int .i64 qi]) w3 (by simp [execOp, go_sem, Act.eval, *]) (Below.refl _ _) rfl
        · simp only [List.getElem?_toArray, List.getElem?_cons_succ, List.getElem?_cons_zero, Option.some.injEq] at ho
          subst ho
          refine ⟨rfl, ?_⟩
          have e5 : A_.tmps[5]?.getD undef = .int .i64 a5 := by rw [hI.low 5 (by decide)]; rfl
          clear hI hdep
          exact .run rfl (.int .i64 a5) w3 (by simp [execOp, go_sem, Act.eval, e5]) (Below.refl _ _) rfl
        · simp only [List.getElem?_toArray, List.getElem?_cons_succ, List.getElem?_cons_zero, Option.some.injEq] at ho
          subst ho
          refine ⟨rfl, ?_⟩
          have e35 : A_.tmps[35]?.getD undef = .int .i64 a5 := getD_of (hI.val_ (i := 1) rfl rfl (by decide) (hdep ⟨1, .data⟩ (by simp) rfl))
          clear hI hdep
          exact .call rfl 14 #[.int .i64 a5] (by simp [go_sem, Act.eval, e35]) ((HQU.out w3).mono fun _ _ ⟨h1_, h2_⟩ => ⟨⟨_, h1_, rfl⟩, h2_⟩)
        · simp only [List.getElem?_toArray, List.getElem?_cons_succ, List.getElem?_cons_zero, Option.some.injEq] at ho
          subst ho
          refine ⟨rfl, ?_⟩
          have e34 : A_.tmps[34]?.getD undef = .agg #[.int .i64 qc, .int .i64 qh, .int .i64 qt, .int .i64 qk, .int .i64 qi] := getD_of (hI.val_ (i := 0) rfl rfl (by decide) (hdep ⟨0, .data⟩ (by simp) rfl))
          have e36 : A_.tmps[36]?.getD undef = .agg #[.int .i64 p.c, .int .i64 p.h, .int .i64 p.t, .int .i64 p.k, .int .i64 p.i] := getD_of (hI.val_ (i := 2) rfl rfl (by decide) (hdep ⟨2, .data⟩ (by simp) rfl))
          clear hI hdep
          exact .run rfl (.slice (some ⟨w3.heap.size, 0, none⟩) 2 2) (w3.alloc (.cells #[.int .i64 qc, .int .i64 qh, .int .i64 qt, .int .i64 qk, .int .i64 qi, .int .i64 p.c, .int .i64 p.h, .int .i64 p.t, .int .i64 p.k, .int .i64 p.i] 30)) (by simp [execOp, go_sem, Act.eval, e34, e36]) ((Below.refl _ _).alloc (Nat.le_refl _) _) (RgX.row_new _ _ _ _)
        · simp only [List.getElem?_toArray, List.getElem?_cons_succ, List.getElem?_cons_zero, Option.some.injEq] at ho
          subst ho
          refine ⟨rfl, ?_⟩
          obtain ⟨y37, e37, h37⟩ := hI.get_ (i := 3) (j := 37) rfl rfl (by decide) (hdep ⟨3, .data⟩ (by simp) rfl)
          clear hI hdep
          exact .run rfl y37 w3 (by simp [execOp, go_sem, Act.eval, e37]) (Below.refl _ _) h37
      case fin =>
      intro A_ w3 hs hd hlow hS hok
      obtain ⟨_, hy16, g16, rfl, r16⟩ := hok 4 16 _ (by decide) rfl rfl
      obtain ⟨_, hy37, g37, rfl, r37⟩ := hok 3 37 _ (by decide) rfl rfl
      obtain rfl : A_ = ⟨#[.slice a0 len0 cap0, .slice a1 len1 cap1, .agg #[.slice tE tn tc, .slice tA tm td], .agg #[.int .i64 qc, .int .i64 qh, .int .i64 qt, .int .i64 qk, .int .i64 qi], .int .i64 a4, .int .i64 a5, undef, undef, .pointer (some ⟨w.heap.size, 0, none⟩), .pointer (some ⟨w.heap.size + 1, 0, none⟩), undef, undef, u12, .slice (some ⟨g13, 0, none⟩) 2 2, .int .i64 (k : Int), .pointer (some ⟨g15, 0, none⟩), .slice (some ⟨g16, 0, none⟩) 2 2, u17, u18, u19, .slice a0 len0 cap0, .slice a1 len1 cap1, .agg #[.slice E22 e0.length c22, .slice A22 l0.length d22], .agg #[.slice tE tn tc, .slice tA tm td], .agg #[.slice E24 e1.length c24, .slice A24 l1.length d24], .slice (some ⟨g25, 0, none⟩) 2 2, .int .i64 (k : Int), .bool true, u28, u29, .slice (some ⟨g13, 0, none⟩) 2 2, .int .i64 (k : Int), .pointer (some { block := g13, off := k * 2 }), .agg #[.slice E es.length ce, .slice A l.length ca], .agg #[.int .i64 qc, .int .i64 qh, .int .i64 qt, .int .i64 qk, .int .i64 qi], .int .i64 a5, .agg #[.int .i64 p.c, .int .i64 p.h, .int .i64 p.t, .int .i64 p.k, .int .i64 p.i], .slice (some ⟨g37, 0, none⟩) 2 2, u38, u39, u40, u41, u42, u43, u44, u45, u46, u47, u48, u49, u50, u51, u52, u53, u54, u55, u56, u57, u58, u59, u60, u61, u62, u63, u64, u65, u66, u67, u68, u69, u70, u71, u72, u73, u74, u75, u76, u77, u78, u79, u80, u81, u82, u83, u84, u85, u86, u87, u88, u89, u90, u91, u92, u93, u94, u95, u96, u97, u98, u99, u100, u101, u102, u103, u104, u105, undef, undef, undef, undef, undef, undef, undef, undef, undef, undef, undef, undef, undef, undef, undef, undef, undef, undef, undef, undef], []⟩ := act_ext hd hs (fun j hj => match j, hj with | 0, _ => (hlow 0 (by decide)).trans rfl | 1, _ => (hlow 1 (by decide)).trans rfl | 2, _ => (hlow 2 (by decide)).trans rfl | 3, _ => (hlow 3 (by decide)).trans rfl | 4, _ => (hlow 4 (by decide)).trans rfl | 5, _ => (hlow 5 (by decide)).trans rfl | 6, _ => (hlow 6 (by decide)).trans rfl | 7, _ => (hlow 7 (by decide)).trans rfl | 8, _ => (hlow 8 (by decide)).trans rfl | 9, _ => (hlow 9 (by decide)).trans rfl | 10, _ => (hlow 10 (by decide)).trans rfl | 11, _ => (hlow 11 (by decide)).trans rfl | 12, _ => (hlow 12 (by decide)).trans rfl | 13, _ => (hlow 13 (by decide)).trans rfl | 14, _ => (hlow 14 (by decide)).trans rfl | 15, _ => (hlow 15 (by decide)).trans rfl | 16, _ => hy16 | 17, _ => (hlow 17 (by decide)).trans rfl | 18, _ => (hlow 18 (by decide)).trans rfl | 19, _ => (hlow 19 (by decide)).trans rfl | 20, _ => (hlow 20 (by decide)).trans rfl | 21, _ => (hlow 21 (by decide)).trans rfl | 22, _ => (hlow 22 (by decide)).trans rfl | 23, _ => (hlow 23 (by decide)).trans rfl | 24, _ => (hlow 24 (by decide)).trans rfl | 25, _ => (hlow 25 (by decide)).trans rfl | 26, _ => (hlow 26 (by decide)).trans rfl | 27, _ => (hlow 27 (by decide)).trans rfl | 28, _ => (hlow 28 (by decide)).trans rfl | 29, _ => (hlow 29 (by decide)).trans rfl | 30, _ => (hlow 30 (by decide)).trans rfl | 31, _ => (hlow 31 (by decide)).trans rfl | 32, _ => (hlow 32 (by decide)).trans rfl | 33, _ => (hlow 33 (by decide)).trans rfl | 34, _ => RgX.val_at (hok 0 34 _ (by decide) rfl rfl) | 35, _ => RgX.val_at (hok 1 35 _ (by decide) rfl rfl) | 36, _ => RgX.val_at (hok 2 36 _ (by decide) rfl rfl) | 37, _ => hy37 | 38, _ => (hlow 38 (by decide)).trans rfl | 39, _ => (hlow 39 (by decide)).trans rfl | 40, _ => (hlow 40 (by decide)).trans rfl | 41, _ => (hlow 41 (by decide)).trans rfl | 42, _ => (hlow 42 (by decide)).trans rfl | 43, _ => (hlow 43 (by decide)).trans rfl | 44, _ => (hlow 44 (by decide)).trans rfl | 45, _ => (hlow 45 (by decide)).trans rfl | 46, _ => (hlow 46 (by decide)).trans rfl | 47, _ => (hlow 47 (by decide)).trans rfl | 48, _ => (hlow 48 (by decide)).trans rfl | 49, _ => (hlow 49 (by decide)).trans rfl | 50, _ => (hlow 50 (by decide)).trans rfl | 51, _ => (hlow 51 (by decide)).trans rfl | 52, _ => (hlow 52 (by decide)).trans rfl | 53, _ => (hlow 53 (by decide)).trans rfl | 54, _ => (hlow 54 (by decide)).trans rfl | 55, _ => (hlow 55 (by decide)).trans rfl | 56, _ => (hlow 56 (by decide)).trans rfl | 57, _ => (hlow 57 (by decide)).trans rfl | 58, _ => (hlow 58 (by decide)).trans rfl | 59, _ => (hlow 59 (by decide)).trans rfl | 60, _ => (hlow 60 (by decide)).trans rfl | 61, _ => (hlow 61 (by decide)).trans rfl | 62, _ => (hlow 62 (by decide)).trans rfl | 63, _ => (hlow 63 (by decide)).trans rfl | 64, _ => (hlow 64 (by decide)).trans rfl | 65, _ => (hlow 65 (by decide)).trans rfl | 66, _ => (hlow 66 (by decide)).trans rfl | 67, _ => (hlow 67 (by decide)).trans rfl | 68, _ => (hlow 68 (by decide)).trans rfl | 69, _ => (hlow 69 (by decide)).trans rfl | 70, _ => (hlow 70 (by decide)).trans rfl | 71, _ => (hlow 71 (by decide)).trans rfl | 72, _ => (hlow 72 (by decide)).trans rfl | 73, _ => (hlow 73 (by decide)).trans rfl | 74, _ => (hlow 74 (by decide)).trans rfl | 75, _ => (hlow 75 (by decide)).trans rfl | 76, _ => (hlow 76 (by decide)).trans rfl | 77, _ => (hlow 77 (by decide)).trans rfl | 78, _ => (hlow 78 (by decide)).trans rfl | 79, _ => (hlow 79 (by decide)).trans rfl | 80, _ => (hlow 80 (by decide)).trans rfl | 81, _ => (hlow 81 (by decide)).trans rfl | 82, _ => (hlow 82 (by decide)).trans rfl | 83, _ => (hlow 83 (by decide)).trans rfl | 84, _ => (hlow 84 (by decide)).trans rfl | 85, _ => (hlow 85 (by decide)).trans rfl | 86, _ => (hlow 86 (by decide)).trans rfl | 87, _ => (hlow 87 (by decide)).trans rfl | 88, _ => (hlow 88 (by decide)).trans rfl | 89, _ => (hlow 89 (by decide)).trans rfl | 90, _ => (hlow 90 (by decide)).trans rfl | 91, _ => (hlow 91 (by decide)).trans rfl | 92, _ => (hlow 92 (by decide)).trans rfl | 93, _ => (hlow 93 (by decide)).trans rfl | 94, _ => (hlow 94 (by decide)).trans rfl | 95, _ => (hlow 95 (by decide)).trans rfl | 96, _ => (hlow 96 (by decide)).trans rfl | 97, _ => (hlow 97 (by decide)).trans rfl | 98, _ => (hlow 98 (by decide)).trans rfl | 99, _ => (hlow 99 (by decide)).trans rfl | 100, _ => (hlow 100 (by decide)).trans rfl | 101, _ => (hlow 101 (by decide)).trans rfl | 102, _ => (hlow 102 (by decide)).trans rfl | 103, _ => (hlow 103 (by decide)).trans rfl | 104, _ => (hlow 104 (by decide)).trans rfl | 105, _ => (hlow 105 (by decide)).trans rfl | 106, _ => (hlow 106 (by decide)).trans rfl | 107, _ => (hlow 107 (by decide)).trans rfl | 108, _ => (hlow 108 (by decide)).trans rfl | 109, _ => (hlow 109 (by decide)).trans rfl | 110, _ => (hlow 110 (by decide)).trans rfl | 111, _ => (hlow 111 (by decide)).trans rfl | 112, _ => (hlow 112 (by decide)).trans rfl | 113, _ => (hlow 113 (by decide)).trans rfl | 114, _ => (hlow 114 (by decide)).trans rfl | 115, _ => (hlow 115 (by decide)).trans rfl | 116, _ => (hlow 116 (by decide)).trans rfl | 117, _ => (hlow 117 (by decide)).trans rfl | 118, _ => (hlow 118 (by decide)).trans rfl | 119, _ => (hlow 119 (by decide)).trans rfl | 120, _ => (hlow 120 (by decide)).trans rfl | 121, _ => (hlow 121 (by decide)).trans rfl | 122, _ => (hlow 122 (by decide)).trans rfl | 123, _ => (hlow 123 (by decide)).trans rfl | 124, _ => (hlow 124 (by decide)).trans rfl | 125, _ => (hlow 125 (by decide)).trans rfl | n + 126, h => absurd h (by show ¬ n + 126 < 126; omega))
      clear hs hd hlow hok hy16 hy37
      obtain ⟨v6, h6⟩ : ∃ V, V = w3 := ⟨_, rfl⟩
      rw [← h6] at hS r16 ⊢
      have K16 := Lib.hid r16
      replace K15 := Lib.hid ((hS.block g15 (heap_lt K15.out)).trans K15.out)
      have HV6 := Lib.hid (HV5.out.trans (hS.mono HV5.out.size))
      clear hS h6 r16 r37 HV5
      obtain ⟨⟨x0, x1⟩, _, _⟩ := row2 K15.out
      go_upto_region 8 with (go_at_call 15; refine (refNormal_tin v6 (HTI.out v6 HV6.out) hel (by omega) HNL.out).mono ?_; rintro e w7 ⟨⟨v, rfl, E2, cx2, A2, d2, rfl, hT2⟩, hb⟩; have HT2 := Lib.hid hT2; have HV7 := Lib.hid hb; clear hT2 hb)
      clear x0 x1
      obtain ⟨U7, hU⟩ : ∃ U, w7.alloc (.cells #[.slice E2 es.length cx2, .slice A2 nl.length d2] 26) = U := ⟨_, rfl⟩
      rw [hU]
      obtain ⟨g17, hg_⟩ : ∃ g, g = w7.heap.size := ⟨_, rfl⟩
      rw [← hg_]
      have k17 : U7.heap[g17]? = some (.cells #[.slice E2 es.length cx2, .slice A2 nl.length d2] 26 (0, 0)) := by rw [hg_, ← hU]; exact new_at rfl
      have hb : Below w7.heap.size w7 U7 := hU ▸ one_box _ _
      have h67 : Below v6.heap.size v6 U7 := HV7.out.trans (hb.mono HV7.out.size)
      have hV7 := HV6.out.trans (h67.mono HV6.out.size)
      have k15 := (h67.block g15 (heap_lt K15.out)).trans K15.out
      have k16 := (h67.block g16 (heap_lt K16.out)).trans K16.out
      have t2 := HT2.out.keep hb
      have HV8 := Lib.hid hV7
      have HI0 := Lib.hid (fun (V : World) (hV : Below U7.heap.size U7 V) => HTI.out V (hV7.trans (hV.mono hV7.size)))
      have HI2 := Lib.hid (fun (V : World) (hV : Below U7.heap.size U7 V) => TIn.keep t2 hV)
      have HF := Lib.hid (fun (V : World) (hV : Below U7.heap.size U7 V) => And.intro (row2C ((hV.block g15 (heap_lt k15)).trans k15)) (row2C ((hV.block g17 (heap_lt k17)).trans k17)))
      have HF16 := Lib.hid (fun (V : World) (hV : Below U7.heap.size U7 V) => (hV.block g16 (heap_lt k16)).trans k16)
      clear hb hU hg_ k15 k16 k17 h67 hV7 t2 HV6 HV7 HT2 K15 K16 HTI
      refine RgX.regionB 23 (fun i => ( 40 + i)) (fun ix_ => match ix_ with | 0 => .v (.agg #[.slice E es.length ce, .slice A l.length ca]) | 1 => .tin es nl | 2 => .v (.agg #[.slice E2 es.length cx2, .slice A2 nl.length d2]) | 3 => .v (.bool true) | 4 => .v (.bool false) | 5 => .v (.bool false) | 6 => .v (.agg #[.slice E es.length ce, .slice A l.length ca]) | 7 => .v (.int .i64 ((es.length : Int) + (nl.length : Int))) | 8 => .v (.pointer (some ⟨g17, 0, none⟩)) | 9 => .v (.slice E2 es.length cx2) | 10 => .v (.int .i64 (es.length : Int)) | 11 => .v (.pointer (some ⟨g17, 1, none⟩)) | 12 => .v (.slice A2 nl.length d2) | 13 => .v (.int .i64 (nl.length : Int)) | 14 => .v (.int .i64 ((es.length : Int) + (nl.length : Int))) | 15 => .v (.bool false) | 16 => .v (.bool false) | 17 => .v (.bool false) | 18 => .v (.agg #[.slice E es.length ce, .slice A l.length ca]) | 19 => .v (.agg #[.slice E2 es.length cx2, .slice A2 nl.length d2]) | 20 => .v (.bool true) | 21 => .v (.bool false) | 22 => .v (.bool false) | _ => .any) (by kernel_rfl) rfl (by kernel_rfl)  (fun i hi => by show ( 40 + i) < 126; (repeat' split) <;> omega) (fun i j hi hj => by show ( 40 + i) = ( 40 + j) → i = j; (repeat' split) <;> omega) ?step ?fin
      case step =>
        intro L_ A_ w3 ix op_ hI ho hdep
        have hi : ix < 23 := (Array.getElem?_eq_some_iff.1 ho).1
        have hcase : ix = 0 ∨ ix = 1 ∨ ix = 2 ∨ ix = 3 ∨ ix = 4 ∨ ix = 5 ∨ ix = 6 ∨ ix = 7 ∨ ix = 8 ∨ ix = 9 ∨ ix = 10 ∨ ix = 11 ∨ ix = 12 ∨ ix = 13 ∨ ix = 14 ∨ ix = 15 ∨ ix = 16 ∨ ix = 17 ∨ ix = 18 ∨ ix = 19 ∨ ix = 20 ∨ ix = 21 ∨ ix = 22 := by omega
        have hh := hI.held
        clear hi
        rcases hcase with rfl | rfl | rfl | rfl | rfl | rfl | rfl | rfl | rfl | rfl | rfl | rfl | rfl | rfl | rfl | rfl | rfl | rfl | rfl | rfl | rfl | rfl | rfl
        · simp only [List.getElem?_toArray, List.getElem?_cons_zero, Option.some.injEq] at ho
          subst ho
          refine ⟨rfl, ?_⟩
          have e15 : A_.tmps[15]?.getD undef = .pointer (some ⟨g15, 0, none⟩) := by rw [hI.low 15 (by decide)]; rfl
          clear hI hdep
          obtain ⟨⟨x0, x1⟩, y0, y1⟩ := HF.out w3 hh
          exact .run rfl (.agg #[.slice E es.length ce, .slice A l.length ca]) w3 (by simp [execOp, go_sem, Act.eval, *]) (Below.refl _ _) rfl
        · simp only [List.getElem?_toArray, List.getElem?_cons_succ, List.getElem?_cons_zero, Option.some.injEq] at ho
          subst ho
          refine ⟨rfl, ?_⟩
          have e40 : A_.tmps[40]?.getD undef = .agg #[.slice E es.length ce, .slice A l.length ca] := getD_of (hI.val_ (i := 0) rfl rfl (by decide) (hdep ⟨0, .data⟩ (by simp) rfl))
          clear hI hdep
          exact .call rfl 17 #[.agg #[.slice E es.length ce, .slice A l.length ca]] (by simp [go_sem, Act.eval, e40]) (normal_tin w3 (HI0.out w3 hh) hel (by omega) HNL.out)
        · simp only [List.getElem?_toArray, List.getElem?_cons_succ, List.getElem?_cons_zero, Option.some.injEq] at ho
          subst ho
          refine ⟨rfl, ?_⟩
          have e17 : A_.tmps[17]?.getD undef = .pointer (some ⟨g17, 0, none⟩) := by rw [hI.low 17 (by decide)]; rfl
          clear hI hdep
          obtain ⟨⟨x0, x1⟩, y0, y1⟩ := HF.out w3 hh
          exact .run rfl (.agg #[.slice E2 es.length cx2, .slice A2 nl.length d2]) w3 (by simp [execOp, go_sem, Act.eval, *]) (Below.refl _ _) rfl
        · simp only [List.getElem?_toArray, List.getElem?_cons_succ, List.getElem?_cons_zero, Option.some.injEq] at ho
          subst ho
          refine ⟨rfl, ?_⟩
          obtain ⟨_, e41, E41, c41, A41, d41, rfl, h41⟩ := hI.get_ (i := 1) (j := 41) rfl rfl (by decide) (hdep ⟨1, .data⟩ (by simp) rfl)
          have e42 : A_.tmps[42]?.getD undef = .agg #[.slice E2 es.length cx2, .slice A2 nl.length d2] := getD_of (hI.val_ (i := 2) rfl rfl (by decide) (hdep ⟨2, .data⟩ (by simp) rfl))
          clear hI hdep
          exact .call rfl 16 #[.agg #[.slice E41 es.length c41, .slice A41 nl.length d41], .agg #[.slice E2 es.length cx2, .slice A2 nl.length d2]] (by simp [go_sem, Act.eval, e41, e42]) ((same_good w3 h41 (HI2.out w3 hh)).mono fun _ _ ⟨h1_, h2_⟩ => ⟨⟨_, h1_, rfl⟩, h2_⟩)
        · simp only [List.getElem?_toArray, List.getElem?_cons_succ, List.getElem?_cons_zero, Option.some.injEq] at ho
          subst ho
          refine ⟨rfl, ?_⟩
          have e43 : A_.tmps[43]?.getD undef = .bool true := getD_of (hI.val_ (i := 3) rfl rfl (by decide) (hdep ⟨3, .data⟩ (by simp) rfl))
          clear hI hdep
          exact .run rfl (.bool false) w3 (by simp [execOp, go_sem, Act.eval, e43]) (Below.refl _ _) rfl
        · simp only [List.getElem?_toArray, List.getElem?_cons_succ, List.getElem?_cons_zero, Option.some.injEq] at ho
          subst ho
          refine ⟨rfl, ?_⟩
          have e44 : A_.tmps[44]?.getD undef = .bool false := getD_of (hI.val_ (i := 4) rfl rfl (by decide) (hdep ⟨4, .data⟩ (by simp) rfl))
          clear hI hdep
          exact .run rfl (.bool false) w3 (by simp [execOp, go_sem, Act.eval, e44]) (Below.refl _ _) rfl
        · simp only [List.getElem?_toArray, List.getElem?_cons_succ, List.getElem?_cons_zero, Option.some.injEq] at ho
          subst ho
          refine ⟨rfl, ?_⟩
          have q45 : A_.tmps[45]? = some (.bool false) := hI.val_ (i := 5) rfl rfl (by decide) (hdep ⟨5, .guard⟩ (by simp) rfl)
          have e15 : A_.tmps[15]?.getD undef = .pointer (some ⟨g15, 0, none⟩) := by rw [hI.low 15 (by decide)]; rfl
          clear hI hdep
          obtain ⟨⟨x0, x1⟩, y0, y1⟩ := HF.out w3 hh
          exact .run ((wanted_some rfl rfl q45).trans rfl) (.agg #[.slice E es.length ce, .slice A l.length ca]) w3 (by simp [execOp, go_sem, Act.eval, *]) (Below.refl _ _) rfl
        · simp only [List.getElem?_toArray, List.getElem?_cons_succ, List.getElem?_cons_zero, Option.some.injEq] at ho
          subst ho
          refine ⟨rfl, ?_⟩
          have q45 : A_.tmps[45]? = some (.bool false) := hI.val_ (i := 5) rfl rfl (by decide) (hdep ⟨5, .guard⟩ (by simp) rfl)
          have e46 : A_.tmps[46]?.getD undef = .agg #[.slice E es.length ce, .slice A l.length ca] := getD_of (hI.val_ (i := 6) rfl rfl (by decide) (hdep ⟨6, .data⟩ (by simp) rfl))
          clear hI hdep
          exact .call ((wanted_some rfl rfl q45).trans rfl) 18 #[.agg #[.slice E es.length ce, .slice A l.length ca]] (by simp [go_sem, Act.eval, e46]) ((HNL.out ▸ parts_any w3 (HI0.out w3 hh)).mono fun _ _ ⟨h1_, h2_⟩ => ⟨⟨_, h1_, rfl⟩, h2_⟩)
        · simp only [List.getElem?_toArray, List.getElem?_cons_succ, List.getElem?_cons_zero, Option.some.injEq] at ho
          subst ho
          refine ⟨rfl, ?_⟩
          have q45 : A_.tmps[45]? = some (.bool false) := hI.val_ (i := 5) rfl rfl (by decide) (hdep ⟨5, .guard⟩ (by simp) rfl)
          have e17 : A_.tmps[17]?.getD undef = .pointer (some ⟨g17, 0, none⟩) := by rw [hI.low 17 (by decide)]; rfl
          clear hI hdep
          exact .run ((wanted_some rfl rfl q45).trans rfl) (.pointer (some ⟨g17, 0, none⟩)) w3 (by simp [execOp, go_sem, Act.eval, e17]) (Below.refl _ _) rfl
        · simp only [List.getElem?_toArray, List.getElem?_cons_succ, List.getElem?_cons_zero, Option.some.injEq] at ho
          subst ho
          refine ⟨rfl, ?_⟩
          have q45 : A_.tmps[45]? = some (.bool false) := hI.val_ (i := 5) rfl rfl (by decide) (hdep ⟨5, .guard⟩ (by simp) rfl)
          have e48 : A_.tmps[48]?.getD undef = .pointer (some ⟨g17, 0, none⟩) := getD_of (hI.val_ (i := 8) rfl rfl (by decide) (hdep ⟨8, .data⟩ (by simp) rfl))
          clear hI hdep
          obtain ⟨⟨x0, x1⟩, y0, y1⟩ := HF.out w3 hh
          exact .run ((wanted_some rfl rfl q45).trans rfl) (.slice E2 es.length cx2) w3 (by simp [execOp, go_sem, Act.eval, *]) (Below.refl _ _) rfl
        · simp only [List.getElem?_toArray, List.getElem?_cons_succ, List.getElem?_cons_zero, Option.some.injEq] at ho
          subst ho
          refine ⟨rfl, ?_⟩
          have q45 : A_.tmps[45]? = some (.bool false) := hI.val_ (i := 5) rfl rfl (by decide) (hdep ⟨5, .guard⟩ (by simp) rfl)
          have e49 : A_.tmps[49]?.getD undef = .slice E2 es.length cx2 := getD_of (hI.val_ (i := 9) rfl rfl (by decide) (hdep ⟨9, .data⟩ (by simp) rfl))
          clear hI hdep
          exact .run ((wanted_some rfl rfl q45).trans rfl) (.int .i64 (es.length : Int)) w3 (by simp [go_sem, Act.eval, e49]) (Below.refl _ _) rfl
        · simp only [List.getElem?_toArray, List.getElem?_cons_succ, List.getElem?_cons_zero, Option.some.injEq] at ho
          subst ho
          refine ⟨rfl, ?_⟩
          have q45 : A_.tmps[45]? = some (.bool false) := hI.val_ (i := 5) rfl rfl (by decide) (hdep ⟨5, .guard⟩ (by simp) rfl)
          have e17 : A_.tmps[17]?.getD undef = .pointer (some ⟨g17, 0, none⟩) := by rw [hI.low 17 (by decide)]; rfl
          clear hI hdep
          exact .run ((wanted_some rfl rfl q45).trans rfl) (.pointer (some ⟨g17, 1, none⟩)) w3 (by simp [execOp, go_sem, Act.eval, e17]) (Below.refl _ _) rfl
        · simp only [List.getElem?_toArray, List.getElem?_cons_succ, List.getElem?_cons_zero, Option.some.injEq] at ho
          subst ho
          refine ⟨rfl, ?_⟩
          have q45 : A_.tmps[45]? = some (.bool false) := hI.val_ (i := 5) rfl rfl (by decide) (hdep ⟨5, .guard⟩ (by simp) rfl)
          have e51 : A_.tmps[51]?.getD undef = .pointer (some ⟨g17, 1, none⟩) := getD_of (hI.val_ (i := 11) rfl rfl (by decide) (hdep ⟨11, .data⟩ (by simp) rfl))
          clear hI hdep
          obtain ⟨⟨x0, x1⟩, y0, y1⟩ := HF.out w3 hh
          exact .run ((wanted_some rfl rfl q45).trans rfl) (.slice A2 nl.length d2) w3 (by simp [execOp, go_sem, Act.eval, *]) (Below.refl _ _) rfl
        · simp only [List.getElem?_toArray, List.getElem?_cons_succ, List.getElem?_cons_zero, Option.some.injEq] at ho
          subst ho
          refine ⟨rfl, ?_⟩
          have q45 : A_.tmps[45]? = some (.bool false) := hI.val_ (i := 5) rfl rfl (by decide) (hdep ⟨5, .guard⟩ (by simp) rfl)
          have e52 : A_.tmps[52]?.getD undef = .slice A2 nl.length d2 := getD_of (hI.val_ (i := 12) rfl rfl (by decide) (hdep ⟨12, .data⟩ (by simp) rfl))
          clear hI hdep
          exact .run ((wanted_some rfl rfl q45).trans rfl) (.int .i64 (nl.length : Int)) w3 (by simp [go_sem, Act.eval, e52]) (Below.refl _ _) rfl
        · simp only [List.getElem?_toArray, List.getElem?_cons_succ, List.getElem?_cons_zero, Option.some.injEq] at ho
          subst ho
          refine ⟨rfl, ?_⟩
          have q45 : A_.tmps[45]? = some (.bool false) := hI.val_ (i := 5) rfl rfl (by decide) (hdep ⟨5, .guard⟩ (by simp) rfl)
          have e50 : A_.tmps[50]?.getD undef = .int .i64 (es.length : Int) := getD_of (hI.val_ (i := 10) rfl rfl (by decide) (hdep ⟨10, .data⟩ (by simp) rfl))
          have e53 : A_.tmps[53]?.getD undef = .int .i64 (nl.length : Int) := getD_of (hI.val_ (i := 13) rfl rfl (by decide) (hdep ⟨13, .data⟩ (by simp) rfl))
          clear hI hdep
          have hwr : IntKind.i64.wrap ((es.length : Int) + (nl.length : Int)) = ((es.length : Int) + (nl.length : Int)) := IntWalk.i64_in _ (by omega)
          exact .run ((wanted_some rfl rfl q45).trans rfl) (.int .i64 ((es.length : Int) + (nl.length : Int))) w3 (by simp [execOp, go_sem, Act.eval, e50, e53, hwr]) (Below.refl _ _) rfl
        · simp only [List.getElem?_toArray, List.getElem?_cons_succ, List.getElem?_cons_zero, Option.some.injEq] at ho
          subst ho
          refine ⟨rfl, ?_⟩
          have q45 : A_.tmps[45]? = some (.bool false) := hI.val_ (i := 5) rfl rfl (by decide) (hdep ⟨5, .guard⟩ (by simp) rfl)
          have e47 : A_.tmps[47]?.getD undef = .int .i64 ((es.length : Int) + (nl.length : Int)) := getD_of (hI.val_ (i := 7) rfl rfl (by decide) (hdep ⟨7, .data⟩ (by simp) rfl))
          have e54 : A_.tmps[54]?.getD undef = .int .i64 ((es.length : Int) + (nl.length : Int)) := getD_of (hI.val_ (i := 14) rfl rfl (by decide) (hdep ⟨14, .data⟩ (by simp) rfl))
          clear hI hdep
          exact .run ((wanted_some rfl rfl q45).trans rfl) (.bool false) w3 (by simp [execOp, go_sem, Act.eval, e47, e54]) (Below.refl _ _) rfl
        · simp only [List.getElem?_toArray, List.getElem?_cons_succ, List.getElem?_cons_zero, Option.some.injEq] at ho
          subst ho
          refine ⟨rfl, ?_⟩
          have e45 : A_.tmps[45]?.getD undef = .bool false := getD_of (hI.val_ (i := 5) rfl rfl (by decide) (hdep ⟨5, .data⟩ (by simp) rfl))
          have e55 : A_.tmps[55]?.getD undef = .bool false := getD_of (hI.val_ (i := 15) rfl rfl (by decide) (hdep ⟨15, .data⟩ (by simp) rfl))
          clear hI hdep
          exact .run rfl (.bool false) w3 (by simp [execOp, go_sem, Act.eval, e45, e55]) (Below.refl _ _) rfl
        · simp only [List.getElem?_toArray, List.getElem?_cons_succ, List.getElem?_cons_zero, Option.some.injEq] at ho
          subst ho
          refine ⟨rfl, ?_⟩
          have e56 : A_.tmps[56]?.getD undef = .bool false := getD_of (hI.val_ (i := 16) rfl rfl (by decide) (hdep ⟨16, .data⟩ (by simp) rfl))
          clear hI hdep
          exact .run rfl (.bool false) w3 (by simp [execOp, go_sem, Act.eval, e56]) (Below.refl _ _) rfl
        · simp only [List.getElem?_toArray, List.getElem?_cons_succ, List.getElem?_cons_zero, Option.some.injEq] at ho
          subst ho
          refine ⟨rfl, ?_⟩
          have q57 : A_.tmps[57]? = some (.bool false) := hI.val_ (i := 17) rfl rfl (by decide) (hdep ⟨17, .guard⟩ (by simp) rfl)
          have e15 : A_.tmps[15]?.getD undef = .pointer (some ⟨g15, 0, none⟩) := by rw [hI.low 15 (by decide)]; rfl
          clear hI hdep
          obtain ⟨⟨x0, x1⟩, y0, y1⟩ := HF.out w3 hh
          exact .run ((wanted_some rfl rfl q57).trans rfl) (.agg #[.slice E es.length ce, .slice A l.length ca]) w3 (by simp [execOp, go_sem, Act.eval, *]) (Below.refl _ _) rfl
        · simp only [List.getElem?_toArray, List.getElem?_cons_succ, List.getElem?_cons_zero, Option.some.injEq] at ho
          subst ho
          refine ⟨rfl, ?_⟩
          have q57 : A_.tmps[57]? = some (.bool false) := hI.val_ (i := 17) rfl rfl (by decide) (hdep ⟨17, .guard⟩ (by simp) rfl)
          have e17 : A_.tmps[17]?.getD undef = .pointer (some ⟨g17, 0, none⟩) := by rw [hI.low 17 (by decide)]; rfl
          clear hI hdep
          obtain ⟨⟨x0, x1⟩, y0, y1⟩ := HF.out w3 hh
          exact .run ((wanted_some rfl rfl q57).trans rfl) (.agg #[.slice E2 es.length cx2, .slice A2 nl.length d2]) w3 (by simp [execOp, go_sem, Act.eval, *]) (Below.refl _ _) rfl
        · simp only [List.getElem?_toArray, List.getElem?_cons_succ, List.getElem?_cons_zero, Option.some.injEq] at ho
          subst ho
          refine ⟨rfl, ?_⟩
          have q57 : A_.tmps[57]? = some (.bool false) := hI.val_ (i := 17) rfl rfl (by decide) (hdep ⟨17, .guard⟩ (by simp) rfl)
          have e58 : A_.tmps[58]?.getD undef = .agg #[.slice E es.length ce, .slice A l.length ca] := getD_of (hI.val_ (i := 18) rfl rfl (by decide) (hdep ⟨18, .data⟩ (by simp) rfl))
          have e59 : A_.tmps[59]?.getD undef = .agg #[.slice E2 es.length cx2, .slice A2 nl.length d2] := getD_of (hI.val_ (i := 19) rfl rfl (by decide) (hdep ⟨19, .data⟩ (by simp) rfl))
          clear hI hdep
          exact .call ((wanted_some rfl rfl q57).trans rfl) 19 #[.agg #[.slice E es.length ce, .slice A l.length ca], .agg #[.slice E2 es.length cx2, .slice A2 nl.length d2]] (by simp [go_sem, Act.eval, e58, e59]) ((equal_good w3 (HI0.out w3 hh) (HI2.out w3 hh) HNL.out HNN.out).mono fun _ _ ⟨h1_, h2_⟩ => ⟨⟨_, h1_, rfl⟩, h2_⟩)
        · simp only [List.getElem?_toArray, List.getElem?_cons_succ, List.getElem?_cons_zero, Option.some.injEq] at ho
          subst ho
          refine ⟨rfl, ?_⟩
          have q57 : A_.tmps[57]? = some (.bool false) := hI.val_ (i := 17) rfl rfl (by decide) (hdep ⟨17, .guard⟩ (by simp) rfl)
          have e60 : A_.tmps[60]?.getD undef = .bool true := getD_of (hI.val_ (i := 20) rfl rfl (by decide) (hdep ⟨20, .data⟩ (by simp) rfl))
          clear hI hdep
          exact .run ((wanted_some rfl rfl q57).trans rfl) (.bool false) w3 (by simp [execOp, go_sem, Act.eval, e60]) (Below.refl _ _) rfl
        · simp only [List.getElem?_toArray, List.getElem?_cons_succ, List.getElem?_cons_zero, Option.some.injEq] at ho
          subst ho
          refine ⟨rfl, ?_⟩
          have e57 : A_.tmps[57]?.getD undef = .bool false := getD_of (hI.val_ (i := 17) rfl rfl (by decide) (hdep ⟨17, .data⟩ (by simp) rfl))
          have e61 : A_.tmps[61]?.getD undef = .bool false := getD_of (hI.val_ (i := 21) rfl rfl (by decide) (hdep ⟨21, .data⟩ (by simp) rfl))
          clear hI hdep
          exact .run rfl (.bool false) w3 (by simp [execOp, go_sem, Act.eval, e57, e61]) (Below.refl _ _) rfl
      case fin =>
      intro A_ w3 hs hd hlow hS hok
      obtain ⟨_, hy41, E41, c41, A41, d41, rfl, h41⟩ := hok 1 41 _ (by decide) rfl rfl
      obtain rfl : A_ = ⟨#[.slice a0 len0 cap0, .slice a1 len1 cap1, .agg #[.slice tE tn tc, .slice tA tm td], .agg #[.int .i64 qc, .int .i64 qh, .int .i64 qt, .int .i64 qk, .int .i64 qi], .int .i64 a4, .int .i64 a5, undef, undef, .pointer (some ⟨w.heap.size, 0, none⟩), .pointer (some ⟨w.heap.size + 1, 0, none⟩), undef, undef, u12, .slice (some ⟨g13, 0, none⟩) 2 2, .int .i64 (k : Int), .pointer (some ⟨g15, 0, none⟩), .slice (some ⟨g16, 0, none⟩) 2 2, .pointer (some ⟨g17, 0, none⟩), u18, u19, .slice a0 len0 cap0, .slice a1 len1 cap1, .agg #[.slice E22 e0.length c22, .slice A22 l0.length d22], .agg #[.slice tE tn tc, .slice tA tm td], .agg #[.slice E24 e1.length c24, .slice A24 l1.length d24], .slice (some ⟨g25, 0, none⟩) 2 2, .int .i64 (k : Int), .bool true, u28, u29, .slice (some ⟨g13, 0, none⟩) 2 2, .int .i64 (k : Int), .pointer (some { block := g13, off := k * 2 }), .agg #[.slice E es.length ce, .slice A l.length ca], .agg #[.int .i64 qc, .int .i64 qh, .int .i64 qt, .int .i64 qk, .int .i64 qi], .int .i64 a5, .agg #[.int .i64 p.c, .int .i64 p.h, .int .i64 p.t, .int .i64 p.k, .int .i64 p.i], .slice (some ⟨g37, 0, none⟩) 2 2, .agg #[.slice E es.length ce, .slice A l.length ca], .agg #[.slice E2 es.length cx2, .slice A2 nl.length d2], .agg #[.slice E es.length ce, .slice A l.length ca], .agg #[.slice E41 es.length c41, .slice A41 nl.length d41], .agg #[.slice E2 es.length cx2, .slice A2 nl.length d2], .bool true, .bool false, .bool false, .agg #[.slice E es.length ce, .slice A l.length ca], .int .i64 ((es.length : Int) + (nl.length : Int)), .pointer (some ⟨g17, 0, none⟩), .slice E2 es.length cx2, .int .i64 (es.length : Int), .pointer (some ⟨g17, 1, none⟩), .slice A2 nl.length d2, .int .i64 (nl.length : Int), .int .i64 ((es.length : Int) + (nl.length : Int)), .bool false, .bool false, .bool false, .agg #[.slice E es.length ce, .slice A l.length ca], .agg #[.slice E2 es.length cx2, .slice A2 nl.length d2], .bool true, .bool false, .bool false, u63, u64, u65, u66, u67, u68, u69, u70, u71, u72, u73, u74, u75, u76, u77, u78, u79, u80, u81, u82, u83, u84, u85, u86, u87, u88, u89, u90, u91, u92, u93, u94, u95, u96, u97, u98, u99, u100, u101, u102, u103, u104, u105, undef, undef, undef, undef, undef, undef, undef, undef, undef, undef, undef, undef, undef, undef, undef, undef, undef, undef, undef, undef], []⟩ := act_ext hd hs (fun j hj => match j, hj with | 0, _ => (hlow 0 (by decide)).trans rfl | 1, _ => (hlow 1 (by decide)).trans rfl | 2, _ => (hlow 2 (by decide)).trans rfl | 3, _ => (hlow 3 (by decide)).trans rfl | 4, _ => (hlow 4 (by decide)).trans rfl | 5, _ => (hlow 5 (by decide)).trans rfl | 6, _ => (hlow 6 (by decide)).trans rfl | 7, _ => (hlow 7 (by decide)).trans rfl | 8, _ => (hlow 8 (by decide)).trans rfl | 9, _ => (hlow 9 (by decide)).trans rfl | 10, _ => (hlow 10 (by decide)).trans rfl | 11, _ => (hlow 11 (by decide)).trans rfl | 12, _ => (hlow 12 (by decide)).trans rfl | 13, _ => (hlow 13 (by decide)).trans rfl | 14, _ => (hlow 14 (by decide)).trans rfl | 15, _ => (hlow 15 (by decide)).trans rfl | 16, _ => (hlow 16 (by decide)).trans rfl | 17, _ => (hlow 17 (by decide)).trans rfl | 18, _ => (hlow 18 (by decide)).trans rfl | 19, _ => (hlow 19 (by decide)).trans rfl | 20, _ => (hlow 20 (by decide)).trans rfl | 21, _ => (hlow 21 (by decide)).trans rfl | 22, _ => (hlow 22 (by decide)).trans rfl | 23, _ => (hlow 23 (by decide)).trans rfl | 24, _ => (hlow 24 (by decide)).trans rfl | 25, _ => (hlow 25 (by decide)).trans rfl | 26, _ => (hlow 26 (by decide)).trans rfl | 27, _ => (hlow 27 (by decide)).trans rfl | 28, _ => (hlow 28 (by decide)).trans rfl | 29, _ => (hlow 29 (by decide)).trans rfl | 30, _ => (hlow 30 (by decide)).trans rfl | 31, _ => (hlow 31 (by decide)).trans rfl | 32, _ => (hlow 32 (by decide)).trans rfl | 33, _ => (hlow 33 (by decide)).trans rfl | 34, _ => (hlow 34 (by decide)).trans rfl | 35, _ => (hlow 35 (by decide)).trans rfl | 36, _ => (hlow 36 (by decide)).trans rfl | 37, _ => (hlow 37 (by decide)).trans rfl | 38, _ => (hlow 38 (by decide)).trans rfl | 39, _ => (hlow 39 (by decide)).trans rfl | 40, _ => RgX.val_at (hok 0 40 _ (by decide) rfl rfl) | 41, _ => hy41 | 42, _ => RgX.val_at (hok 2 42 _ (by decide) rfl rfl) | 43, _ => RgX.val_at (hok 3 43 _ (by decide) rfl rfl) | 44, _ => RgX.val_at (hok 4 44 _ (by decide) rfl rfl) | 45, _ => RgX.val_at (hok 5 45 _ (by decide) rfl rfl) | 46, _ => RgX.val_at (hok 6 46 _ (by decide) rfl rfl) | 47, _ => RgX.val_at (hok 7 47 _ (by decide) rfl rfl) | 48, _ => RgX.val_at (hok 8 48 _ (by decide) rfl rfl) | 49, _ => RgX.val_at (hok 9 49 _ (by decide) rfl rfl) | 50, _ => RgX.val_at (hok 10 50 _ (by decide) rfl rfl) | 51, _ => RgX.val_at (hok 11 51 _ (by decide) rfl rfl) | 52, _ => RgX.val_at (hok 12 52 _ (by decide) rfl rfl) | 53, _ => RgX.val_at (hok 13 53 _ (by decide) rfl rfl) | 54, _ => RgX.val_at (hok 14 54 _ (by decide) rfl rfl) | 55, _ => RgX.val_at (hok 15 55 _ (by decide) rfl rfl) | 56, _ => RgX.val_at (hok 16 56 _ (by decide) rfl rfl) | 57, _ => RgX.val_at (hok 17 57 _ (by decide) rfl rfl) | 58, _ => RgX.val_at (hok 18 58 _ (by decide) rfl rfl) | 59, _ => RgX.val_at (hok 19 59 _ (by decide) rfl rfl) | 60, _ => RgX.val_at (hok 20 60 _ (by decide) rfl rfl) | 61, _ => RgX.val_at (hok 21 61 _ (by decide) rfl rfl) | 62, _ => RgX.val_at (hok 22 62 _ (by decide) rfl rfl) | 63, _ => (hlow 63 (by decide)).trans rfl | 64, _ => (hlow 64 (by decide)).trans rfl | 65, _ => (hlow 65 (by decide)).trans rfl | 66, _ => (hlow 66 (by decide)).trans rfl | 67, _ => (hlow 67 (by decide)).trans rfl | 68, _ => (hlow 68 (by decide)).trans rfl | 69, _ => (hlow 69 (by decide)).trans rfl | 70, _ => (hlow 70 (by decide)).trans rfl | 71, _ => (hlow 71 (by decide)).trans rfl | 72, _ => (hlow 72 (by decide)).trans rfl | 73, _ => (hlow 73 (by decide)).trans rfl | 74, _ => (hlow 74 (by decide)).trans rfl | 75, _ => (hlow 75 (by decide)).trans rfl | 76, _ => (hlow 76 (by decide)).trans rfl | 77, _ => (hlow 77 (by decide)).trans rfl | 78, _ => (hlow 78 (by decide)).trans rfl | 79, _ => (hlow 79 (by decide)).trans rfl | 80, _ => (hlow 80 (by decide)).trans rfl | 81, _ => (hlow 81 (by decide)).trans rfl | 82, _ => (hlow 82 (by decide)).trans rfl | 83, _ => (hlow 83 (by decide)).trans rfl | 84, _ => (hlow 84 (by decide)).trans rfl | 85, _ => (hlow 85 (by decide)).trans rfl | 86, _ => (hlow 86 (by decide)).trans rfl | 87, _ => (hlow 87 (by decide)).trans rfl | 88, _ => (hlow 88 (by decide)).trans rfl | 89, _ => (hlow 89 (by decide)).trans rfl | 90, _ => (hlow 90 (by decide)).trans rfl | 91, _ => (hlow 91 (by decide)).trans rfl | 92, _ => (hlow 92 (by decide)).trans rfl | 93, _ => (hlow 93 (by decide)).trans rfl | 94, _ => (hlow 94 (by decide)).trans rfl | 95, _ => (hlow 95 (by decide)).trans rfl | 96, _ => (hlow 96 (by decide)).trans rfl | 97, _ => (hlow 97 (by decide)).trans rfl | 98, _ => (hlow 98 (by decide)).trans rfl | 99, _ => (hlow 99 (by decide)).trans rfl | 100, _ => (hlow 100 (by decide)).trans rfl | 101, _ => (hlow 101 (by decide)).trans rfl | 102, _ => (hlow 102 (by decide)).trans rfl | 103, _ => (hlow 103 (by decide)).trans rfl | 104, _ => (hlow 104 (by decide)).trans rfl | 105, _ => (hlow 105 (by decide)).trans rfl | 106, _ => (hlow 106 (by decide)).trans rfl | 107, _ => (hlow 107 (by decide)).trans rfl | 108, _ => (hlow 108 (by decide)).trans rfl | 109, _ => (hlow 109 (by decide)).trans rfl | 110, _ => (hlow 110 (by decide)).trans rfl | 111, _ => (hlow 111 (by decide)).trans rfl | 112, _ => (hlow 112 (by decide)).trans rfl | 113, _ => (hlow 113 (by decide)).trans rfl | 114, _ => (hlow 114 (by decide)).trans rfl | 115, _ => (hlow 115 (by decide)).trans rfl | 116, _ => (hlow 116 (by decide)).trans rfl | 117, _ => (hlow 117 (by decide)).trans rfl | 118, _ => (hlow 118 (by decide)).trans rfl | 119, _ => (hlow 119 (by decide)).trans rfl | 120, _ => (hlow 120 (by decide)).trans rfl | 121, _ => (hlow 121 (by decide)).trans rfl | 122, _ => (hlow 122 (by decide)).trans rfl | 123, _ => (hlow 123 (by decide)).trans rfl | 124, _ => (hlow 124 (by decide)).trans rfl | 125, _ => (hlow 125 (by decide)).trans rfl | n + 126, h => absurd h (by show ¬ n + 126 < 126; omega))
      clear hs hd hlow hok hy41
      obtain ⟨v8, h8⟩ : ∃ V, V = w3 := ⟨_, rfl⟩
      rw [← h8] at hS ⊢
      have HB8 := Lib.hid hS
      clear hS h8 h41
      go_upto_region 11 with (fail)
      obtain ⟨wo, hwo⟩ : ∃ W, W = v8 := ⟨_, rfl⟩
      go_loopw [12, 18, 19] (fun _ i _ V => ∃ j : Nat, j ≤ 2 ∧ i = .int .i64 (j : Int) ∧ Hid (Below U7.heap.size U7 V)) (fun _ i _ _ => 2 - (intOf i).toNat)
      case atStart => exact ⟨0, by omega, rfl, HB8⟩
      case round =>
        clear HB8
        obtain ⟨j, hj, rfl, HB8⟩ := hrel
        by_cases hj2 : j < 2
        · have dj : decide ((j : Int) < 2) = true := decide_eq_true (by omega)
          have hj3 : (j : Int) < 2 := by omega
          obtain ⟨q, hq⟩ : ∃ q : NM.Qu, ∀ V : World, Below U7.heap.size U7 V → V.cell? ⟨g16, j * 5, none⟩ = some (.int .i64 q.c) ∧ V.cell? ⟨g16, j * 5 + 1, none⟩ = some (.int .i64 q.h) ∧ V.cell? ⟨g16, j * 5 + 2, none⟩ = some (.int .i64 q.t) ∧ V.cell? ⟨g16, j * 5 + 3, none⟩ = some (.int .i64 q.k) ∧ V.cell? ⟨g16, j * 5 + 4, none⟩ = some (.int .i64 q.i) := by
            match j, hj2 with
            | 0, _ => exact ⟨⟨qc, qh, qt, qk, qi⟩, fun V hV => ⟨cell_of_row V g16 0 _ _ (0, 0) (HF16.out V hV), cell_of_row V g16 1 _ _ (0, 0) (HF16.out V hV), cell_of_row V g16 2 _ _ (0, 0) (HF16.out V hV), cell_of_row V g16 3 _ _ (0, 0) (HF16.out V hV), cell_of_row V g16 4 _ _ (0, 0) (HF16.out V hV)⟩⟩
            | 1, _ => exact ⟨p, fun V hV => ⟨cell_of_row V g16 5 _ _ (0, 0) (HF16.out V hV), cell_of_row V g16 6 _ _ (0, 0) (HF16.out V hV), cell_of_row V g16 7 _ _ (0, 0) (HF16.out V hV), cell_of_row V g16 8 _ _ (0, 0) (HF16.out V hV), cell_of_row V g16 9 _ _ (0, 0) (HF16.out V hV)⟩⟩
          have HQ := Lib.hid hq
          obtain ⟨wl, hwl⟩ : ∃ x, TP.withA l q a4 = x := ⟨_, rfl⟩
          obtain ⟨gv, hgv⟩ : ∃ x, TP.getA l q = x := ⟨_, rfl⟩
          have HWN := Lib.hid (show TP.normA wl = wl from by rw [← hwl]; exact TP.norm_norm _)
          have hwll : wl.length ≤ 11 := by
            have hn : (TP.withA l q a4).length ≤ (l ++ [(q, a4)]).length := TP.norm_len _
            rw [hwl] at hn
            simp only [List.length_append, List.length_cons, List.length_nil] at hn
            omega
          have HWL := Lib.hid (And.intro hwl hgv)
          clear hq hwl hgv
          go_upto_region 13 with (fail)
          refine RgX.tail 8 (fun i => (if i = 7 then 19 else 67 + i)) (fun ix_ => match ix_ with | 0 => .v (.agg #[.slice E es.length ce, .slice A l.length ca]) | 1 => .v (.slice (some ⟨g16, 0, none⟩) 2 2) | 2 => .v (.int .i64 (j : Int)) | 3 => .v (.pointer (some ⟨g16, j * 5, none⟩)) | 4 => .v (.agg #[.int .i64 q.c, .int .i64 q.h, .int .i64 q.t, .int .i64 q.k, .int .i64 q.i]) | 5 => .v (.int .i64 a4) | 6 => .tin es wl | 7 => .boxn (wr.heap.size) #[.slice none 0 0, .slice none 0 0] 26 | _ => .any) _ (by kernel_rfl) rfl rfl (by kernel_rfl) (by kernel_rfl) (fun i hi => by show (if i = 7 then 19 else 67 + i) < 126; (repeat' split) <;> omega) (fun i j hi hj => by show (if i = 7 then 19 else 67 + i) = (if j = 7 then 19 else 67 + j) → i = j; (repeat' split) <;> omega) ?step ?fin
          case step =>
            intro L_ A_ w3 ix op_ hi hI ho hdep
            have hcase : ix = 0 ∨ ix = 1 ∨ ix = 2 ∨ ix = 3 ∨ ix = 4 ∨ ix = 5 ∨ ix = 6 ∨ ix = 7 := by omega
            have hh := hI.held
            clear hi
            rcases hcase with rfl | rfl | rfl | rfl | rfl | rfl | rfl | rfl
            · simp only [List.getElem?_toArray, List.getElem?_cons_zero, Option.some.injEq] at ho
              subst ho
              refine ⟨rfl, ?_⟩
              have e15 : A_.tmps[15]?.getD undef = .pointer (some ⟨g15, 0, none⟩) := by rw [hI.low 15 (by decide)]; rfl
              clear hI hdep
              obtain ⟨⟨x0, x1⟩, y0, y1⟩ := HF.out w3 (HB8.out.trans (hh.mono HB8.out.size))
              exact .run rfl (.agg #[.slice E es.length ce, .slice A l.length ca]) w3 (by simp [execOp, go_sem, Act.eval, *]) (Below.refl _ _) rfl
            · simp only [List.getElem?_toArray, List.getElem?_cons_succ, List.getElem?_cons_zero, Option.some.injEq] at ho
              subst ho
              refine ⟨rfl, ?_⟩
              have e16 : A_.tmps[16]?.getD undef = .slice (some ⟨g16, 0, none⟩) 2 2 := by rw [hI.low 16 (by decide)]; rfl
              clear hI hdep
              exact .run rfl (.slice (some ⟨g16, 0, none⟩) 2 2) w3 (by simp [execOp, go_sem, Act.eval, e16]) (Below.refl _ _) rfl
            · simp only [List.getElem?_toArray, List.getElem?_cons_succ, List.getElem?_cons_zero, Option.some.injEq] at ho
              subst ho
              refine ⟨rfl, ?_⟩
              have e18 : A_.tmps[18]?.getD undef = .int .i64 (j : Int) := by rw [hI.low 18 (by decide)]; rfl
              clear hI hdep
              exact .run rfl (.int .i64 (j : Int)) w3 (by simp [execOp, go_sem, Act.eval, e18]) (Below.refl _ _) rfl
            · simp only [List.getElem?_toArray, List.getElem?_cons_succ, List.getElem?_cons_zero, Option.some.injEq] at ho
              subst ho
              refine ⟨rfl, ?_⟩
              have e68 : A_.tmps[68]?.getD undef = .slice (some ⟨g16, 0, none⟩) 2 2 := getD_of (hI.val_ (i := 1) rfl rfl (by decide) (hdep ⟨1, .data⟩ (by simp) rfl))
              have e69 : A_.tmps[69]?.getD undef = .int .i64 (j : Int) := getD_of (hI.val_ (i := 2) rfl rfl (by decide) (hdep ⟨2, .data⟩ (by simp) rfl))
              clear hI hdep
              exact .run rfl (.pointer (some ⟨g16, j * 5, none⟩)) w3 (by simp [execOp, go_sem, Act.eval, e68, e69, hj3]) (Below.refl _ _) rfl
            · simp only [List.getElem?_toArray, List.getElem?_cons_succ, List.getElem?_cons_zero, Option.some.injEq] at ho
              subst ho
              refine ⟨rfl, ?_⟩
              have e70 : A_.tmps[70]?.getD undef = .pointer (some ⟨g16, j * 5, none⟩) := getD_of (hI.val_ (i := 3) rfl rfl (by decide) (hdep ⟨3, .data⟩ (by simp) rfl))
              clear hI hdep
              obtain ⟨s0, s1, s2, s3, s4⟩ := HQ.out w3 (HB8.out.trans (hh.mono HB8.out.size))
              exact .run rfl (.agg #[.int .i64 q.c, .int .i64 q.h, .int .i64 q.t, .int .i64 q.k, .int .i64 q.i]) w3 (by simp [execOp, go_sem, Act.eval, e70, s0, s1, s2, s3, s4]) (Below.refl _ _) rfl
            · simp only [List.getElem?_toArray, List.getElem?_cons_succ, List.getElem?_cons_zero, Option.some.injEq] at ho
              subst ho
              refine ⟨rfl, ?_⟩
              have e4 : A_.tmps[4]?.getD undef = .int .i64 a4 := by rw [hI.low 4 (by decide)]; rfl
              clear hI hdep
              exact .run rfl (.int .i64 a4) w3 (by simp [execOp, go_sem, Act.eval, e4]) (Below.refl _ _) rfl
            · simp only [List.getElem?_toArray, List.getElem?_cons_succ, List.getElem?_cons_zero, Option.some.injEq] at ho
              subst ho
              refine ⟨rfl, ?_⟩
              have e67 : A_.tmps[67]?.getD undef = .agg #[.slice E es.length ce, .slice A l.length ca] := getD_of (hI.val_ (i := 0) rfl rfl (by decide) (hdep ⟨0, .data⟩ (by simp) rfl))
              have e71 : A_.tmps[71]?.getD undef = .agg #[.int .i64 q.c, .int .i64 q.h, .int .i64 q.t, .int .i64 q.k, .int .i64 q.i] := getD_of (hI.val_ (i := 4) rfl rfl (by decide) (hdep ⟨4, .data⟩ (by simp) rfl))
              have e72 : A_.tmps[72]?.getD undef = .int .i64 a4 := getD_of (hI.val_ (i := 5) rfl rfl (by decide) (hdep ⟨5, .data⟩ (by simp) rfl))
              clear hI hdep
              exact .call rfl 20 #[.agg #[.slice E es.length ce, .slice A l.length ca], .agg #[.int .i64 q.c, .int .i64 q.h, .int .i64 q.t, .int .i64 q.k, .int .i64 q.i], .int .i64 a4] (by simp [go_sem, Act.eval, e67, e71, e72]) (refWith_tin q a4 w3 (HI0.out w3 (HB8.out.trans (hh.mono HB8.out.size))) hAn hel (by omega) HWL.out.1)
            · simp only [List.getElem?_toArray, List.getElem?_cons_succ, List.getElem?_cons_zero, Option.some.injEq] at ho
              subst ho
              refine ⟨rfl, ?_⟩
              clear hI hdep
              exact .run rfl (.pointer (some ⟨w3.heap.size, 0, none⟩)) (w3.alloc (.cells #[.slice none 0 0, .slice none 0 0] 26)) (by simp [execOp, go_sem]) ((Below.refl _ _).alloc (Nat.le_refl _) _) ⟨_, rfl, heap_alloc_new _ _, hh.size⟩
          case fin =>
          intro A_ w3 hs hd hlow hS hok
          obtain ⟨_, hy19, g19, rfl, r19, l19⟩ := hok 7 19 _ (by decide) rfl rfl
          obtain ⟨_, hy73, E73, c73, A73, d73, rfl, h73⟩ := hok 6 73 _ (by decide) rfl rfl
          obtain rfl : A_ = ⟨#[.slice a0 len0 cap0, .slice a1 len1 cap1, .agg #[.slice tE tn tc, .slice tA tm td], .agg #[.int .i64 qc, .int .i64 qh, .int .i64 qt, .int .i64 qk, .int .i64 qi], .int .i64 a4, .int .i64 a5, undef, undef, .pointer (some ⟨w.heap.size, 0, none⟩), .pointer (some ⟨w.heap.size + 1, 0, none⟩), undef, undef, u12, .slice (some ⟨g13, 0, none⟩) 2 2, .int .i64 (k : Int), .pointer (some ⟨g15, 0, none⟩), .slice (some ⟨g16, 0, none⟩) 2 2, .pointer (some ⟨g17, 0, none⟩), .int .i64 (j : Int), .pointer (some ⟨g19, 0, none⟩), .slice a0 len0 cap0, .slice a1 len1 cap1, .agg #[.slice E22 e0.length c22, .slice A22 l0.length d22], .agg #[.slice tE tn tc, .slice tA tm td], .agg #[.slice E24 e1.length c24, .slice A24 l1.length d24], .slice (some ⟨g25, 0, none⟩) 2 2, .int .i64 (k : Int), .bool true, u28, u29, .slice (some ⟨g13, 0, none⟩) 2 2, .int .i64 (k : Int), .pointer (some { block := g13, off := k * 2 }), .agg #[.slice E es.length ce, .slice A l.length ca], .agg #[.int .i64 qc, .int .i64 qh, .int .i64 qt, .int .i64 qk, .int .i64 qi], .int .i64 a5, .agg #[.int .i64 p.c, .int .i64 p.h, .int .i64 p.t, .int .i64 p.k, .int .i64 p.i], .slice (some ⟨g37, 0, none⟩) 2 2, .agg #[.slice E es.length ce, .slice A l.length ca], .agg #[.slice E2 es.length cx2, .slice A2 nl.length d2], .agg #[.slice E es.length ce, .slice A l.length ca], .agg #[.slice E41 es.length c41, .slice A41 nl.length d41], .agg #[.slice E2 es.length cx2, .slice A2 nl.length d2], .bool true, .bool false, .bool false, .agg #[.slice E es.length ce, .slice A l.length ca], .int .i64 ((es.length : Int) + (nl.length : Int)), .pointer (some ⟨g17, 0, none⟩), .slice E2 es.length cx2, .int .i64 (es.length : Int), .pointer (some ⟨g17, 1, none⟩), .slice A2 nl.length d2, .int .i64 (nl.length : Int), .int .i64 ((es.length : Int) + (nl.length : Int)), .bool false, .bool false, .bool false, .agg #[.slice E es.length ce, .slice A l.length ca], .agg #[.slice E2 es.length cx2, .slice A2 nl.length d2], .bool true, .bool false, .bool false, .int .i64 (j : Int), .bool true, u65, u66, .agg #[.slice E es.length ce, .slice A l.length ca], .slice (some ⟨g16, 0, none⟩) 2 2, .int .i64 (j : Int), .pointer (some ⟨g16, j * 5, none⟩), .agg #[.int .i64 q.c, .int .i64 q.h, .int .i64 q.t, .int .i64 q.k, .int .i64 q.i], .int .i64 a4, .agg #[.slice E73 es.length c73, .slice A73 wl.length d73], u74, u75, u76, u77, u78, u79, u80, u81, u82, u83, u84, u85, u86, u87, u88, u89, u90, u91, u92, u93, u94, u95, u96, u97, u98, u99, u100, u101, u102, u103, u104, u105, undef, undef, undef, undef, undef, undef, undef, undef, undef, undef, undef, undef, undef, undef, undef, undef, undef, undef, undef, undef], []⟩ := act_ext hd hs (fun j hj => match j, hj with | 0, _ => (hlow 0 (by decide)).trans rfl | 1, _ => (hlow 1 (by decide)).trans rfl | 2, _ => (hlow 2 (by decide)).trans rfl | 3, _ => (hlow 3 (by decide)).trans rfl | 4, _ => (hlow 4 (by decide)).trans rfl | 5, _ => (hlow 5 (by decide)).trans rfl | 6, _ => (hlow 6 (by decide)).trans rfl | 7, _ => (hlow 7 (by decide)).trans rfl | 8, _ => (hlow 8 (by decide)).trans rfl | 9, _ => (hlow 9 (by decide)).trans rfl | 10, _ => (hlow 10 (by decide)).trans rfl | 11, _ => (hlow 11 (by decide)).trans rfl | 12, _ => (hlow 12 (by decide)).trans rfl | 13, _ => (hlow 13 (by decide)).trans rfl | 14, _ => (hlow 14 (by decide)).trans rfl | 15, _ => (hlow 15 (by decide)).trans rfl | 16, _ => (hlow 16 (by decide)).trans rfl | 17, _ => (hlow 17 (by decide)).trans rfl | 18, _ => (hlow 18 (by decide)).trans rfl | 19, _ => hy19 | 20, _ => (hlow 20 (by decide)).trans rfl | 21, _ => (hlow 21 (by decide)).trans rfl | 22, _ => (hlow 22 (by decide)).trans rfl | 23, _ => (hlow 23 (by decide)).trans rfl | 24, _ => (hlow 24 (by decide)).trans rfl | 25, _ => (hlow 25 (by decide)).trans rfl | 26, _ => (hlow 26 (by decide)).trans rfl | 27, _ => (hlow 27 (by decide)).trans rfl | 28, _ => (hlow 28 (by decide)).trans rfl | 29, _ => (hlow 29 (by decide)).trans rfl | 30, _ => (hlow 30 (by decide)).trans rfl | 31, _ => (hlow 31 (by decide)).trans rfl | 32, _ => (hlow 32 (by decide)).trans rfl | 33, _ => (hlow 33 (by decide)).trans rfl | 34, _ => (hlow 34 (by decide)).trans rfl | 35, _ => (hlow 35 (by decide)).trans rfl | 36, _ => (hlow 36 (by decide)).trans rfl | 37, _ => (hlow 37 (by decide)).trans rfl | 38, _ => (hlow 38 (by decide)).trans rfl | 39, _ => (hlow 39 (by decide)).trans rfl | 40, _ => (hlow 40 (by decide)).trans rfl | 41, _ => (hlow 41 (by decide)).trans rfl | 42, _ => (hlow 42 (by decide)).trans rfl | 43, _ => (hlow 43 (by decide)).trans rfl | 44, _ => (hlow 44 (by decide)).trans rfl | 45, _ => (hlow 45 (by decide)).trans rfl | 46, _ => (hlow 46 (by decide)).trans rfl | 47, _ => (hlow 47 (by decide)).trans rfl | 48, _ => (hlow 48 (by decide)).trans rfl | 49, _ => (hlow 49 (by decide)).trans rfl | 50, _ => (hlow 50 (by decide)).trans rfl | 51, _ => (hlow 51 (by decide)).trans rfl | 52, _ => (hlow 52 (by decide)).trans rfl | 53, _ => (hlow 53 (by decide)).trans rfl | 54, _ => (hlow 54 (by decide)).trans rfl | 55, _ => (hlow 55 (by decide)).trans rfl | 56, _ => (hlow 56 (by decide)).trans rfl | 57, _ => (hlow 57 (by decide)).trans rfl | 58, _ => (hlow 58 (by decide)).trans rfl | 59, _ => (hlow 59 (by decide)).trans rfl | 60, _ => (hlow 60 (by decide)).trans rfl | 61, _ => (hlow 61 (by decide)).trans rfl | 62, _ => (hlow 62 (by decide)).trans rfl | 63, _ => (hlow 63 (by decide)).trans rfl | 64, _ => (hlow 64 (by decide)).trans rfl | 65, _ => (hlow 65 (by decide)).trans rfl | 66, _ => (hlow 66 (by decide)).trans rfl | 67, _ => RgX.val_at (hok 0 67 _ (by decide) rfl rfl) | 68, _ => RgX.val_at (hok 1 68 _ (by decide) rfl rfl) | 69, _ => RgX.val_at (hok 2 69 _ (by decide) rfl rfl) | 70, _ => RgX.val_at (hok 3 70 _ (by decide) rfl rfl) | 71, _ => RgX.val_at (hok 4 71 _ (by decide) rfl rfl) | 72, _ => RgX.val_at (hok 5 72 _ (by decide) rfl rfl) | 73, _ => hy73 | 74, _ => (hlow 74 (by decide)).trans rfl | 75, _ => (hlow 75 (by decide)).trans rfl | 76, _ => (hlow 76 (by decide)).trans rfl | 77, _ => (hlow 77 (by decide)).trans rfl | 78, _ => (hlow 78 (by decide)).trans rfl | 79, _ => (hlow 79 (by decide)).trans rfl | 80, _ => (hlow 80 (by decide)).trans rfl | 81, _ => (hlow 81 (by decide)).trans rfl | 82, _ => (hlow 82 (by decide)).trans rfl | 83, _ => (hlow 83 (by decide)).trans rfl | 84, _ => (hlow 84 (by decide)).trans rfl | 85, _ => (hlow 85 (by decide)).trans rfl | 86, _ => (hlow 86 (by decide)).trans rfl | 87, _ => (hlow 87 (by decide)).trans rfl | 88, _ => (hlow 88 (by decide)).trans rfl | 89, _ => (hlow 89 (by decide)).trans rfl | 90, _ => (hlow 90 (by decide)).trans rfl | 91, _ => (hlow 91 (by decide)).trans rfl | 92, _ => (hlow 92 (by decide)).trans rfl | 93, _ => (hlow 93 (by decide)).trans rfl | 94, _ => (hlow 94 (by decide)).trans rfl | 95, _ => (hlow 95 (by decide)).trans rfl | 96, _ => (hlow 96 (by decide)).trans rfl | 97, _ => (hlow 97 (by decide)).trans rfl | 98, _ => (hlow 98 (by decide)).trans rfl | 99, _ => (hlow 99 (by decide)).trans rfl | 100, _ => (hlow 100 (by decide)).trans rfl | 101, _ => (hlow 101 (by decide)).trans rfl | 102, _ => (hlow 102 (by decide)).trans rfl | 103, _ => (hlow 103 (by decide)).trans rfl | 104, _ => (hlow 104 (by decide)).trans rfl | 105, _ => (hlow 105 (by decide)).trans rfl | 106, _ => (hlow 106 (by decide)).trans rfl | 107, _ => (hlow 107 (by decide)).trans rfl | 108, _ => (hlow 108 (by decide)).trans rfl | 109, _ => (hlow 109 (by decide)).trans rfl | 110, _ => (hlow 110 (by decide)).trans rfl | 111, _ => (hlow 111 (by decide)).trans rfl | 112, _ => (hlow 112 (by decide)).trans rfl | 113, _ => (hlow 113 (by decide)).trans rfl | 114, _ => (hlow 114 (by decide)).trans rfl | 115, _ => (hlow 115 (by decide)).trans rfl | 116, _ => (hlow 116 (by decide)).trans rfl | 117, _ => (hlow 117 (by decide)).trans rfl | 118, _ => (hlow 118 (by decide)).trans rfl | 119, _ => (hlow 119 (by decide)).trans rfl | 120, _ => (hlow 120 (by decide)).trans rfl | 121, _ => (hlow 121 (by decide)).trans rfl | 122, _ => (hlow 122 (by decide)).trans rfl | 123, _ => (hlow 123 (by decide)).trans rfl | 124, _ => (hlow 124 (by decide)).trans rfl | 125, _ => (hlow 125 (by decide)).trans rfl | n + 126, h => absurd h (by show ¬ n + 126 < 126; omega))
          clear hs hd hlow hok hy19 hy73
          have hs9 := hS.size
          refine RgX.wpList_store_seg rfl 26 _ _ rfl g19 0 (.agg #[.slice E73 es.length c73, .slice A73 wl.length d73]) rfl rfl 26 _ r19 (by rw [size_tapeC]; rfl) (by show 0 + 2 ≤ 2; omega) (by simp [Value.cells, Value.oneCell']) #[.slice E73 es.length c73, .slice A73 wl.length d73] rfl ?_
          intro v9 k9 ho9 hz9 hb9
          have t9 := TIn.set h73 r19 ho9 hz9
          have HB9 := Lib.hid (show Below U7.heap.size U7 v9 from HB8.out.trans ((hS.trans (hb9.mono l19)).mono HB8.out.size))
          have HI9 := Lib.hid (fun (V : World) (hV : Below v9.heap.size v9 V) => TIn.keep t9 hV)
          have HF9 := Lib.hid (fun (V : World) (hV : Below v9.heap.size v9 V) => And.intro (row2C ((hV.block g19 (heap_lt k9)).trans k9)) (And.intro (HF.out V (HB9.out.trans (hV.mono HB9.out.size))) (HQ.out V (HB9.out.trans (hV.mono HB9.out.size)))))
          clear t9 h73 r19 l19 ho9 hz9 hb9 hS hs9 k9
          go_upto_region 14 with (fail)
          refine RgX.regionB 25 (fun i => ( 74 + i)) (fun ix_ => match ix_ with | 0 => .v (.agg #[.slice E es.length ce, .slice A l.length ca]) | 1 => .v (.slice (some ⟨g16, 0, none⟩) 2 2) | 2 => .v (.int .i64 (j : Int)) | 3 => .v (.pointer (some ⟨g16, j * 5, none⟩)) | 4 => .v (.agg #[.int .i64 q.c, .int .i64 q.h, .int .i64 q.t, .int .i64 q.k, .int .i64 q.i]) | 5 => .v (.int .i64 gv) | 6 => .v (.agg #[.slice E es.length ce, .slice A l.length ca]) | 7 => .v (.slice (some ⟨g16, 0, none⟩) 2 2) | 8 => .v (.int .i64 (j : Int)) | 9 => .v (.pointer (some ⟨g16, j * 5, none⟩)) | 10 => .v (.agg #[.int .i64 q.c, .int .i64 q.h, .int .i64 q.t, .int .i64 q.k, .int .i64 q.i]) | 11 => .v (.int .i64 gv) | 12 => .v (.bool false) | 13 => .v (.bool false) | 14 => .v (.agg #[.slice E es.length ce, .slice A l.length ca]) | 15 => .v (.slice (some ⟨g16, 0, none⟩) 2 2) | 16 => .v (.int .i64 (j : Int)) | 17 => .v (.pointer (some ⟨g16, j * 5, none⟩)) | 18 => .v (.agg #[.int .i64 q.c, .int .i64 q.h, .int .i64 q.t, .int .i64 q.k, .int .i64 q.i]) | 19 => .v (.int .i64 a4) | 20 => .tin es wl | 21 => .v (.agg #[.slice E73 es.length c73, .slice A73 wl.length d73]) | 22 => .v (.bool true) | 23 => .v (.bool false) | 24 => .v (.bool false) | _ => .any) (by kernel_rfl) rfl (by kernel_rfl)  (fun i hi => by show ( 74 + i) < 126; (repeat' split) <;> omega) (fun i j hi hj => by show ( 74 + i) = ( 74 + j) → i = j; (repeat' split) <;> omega) ?step ?fin
          case step =>
            intro L_ A_ w3 ix op_ hI ho hdep
            have hi : ix < 25 := (Array.getElem?_eq_some_iff.1 ho).1
            have hcase : ix = 0 ∨ ix = 1 ∨ ix = 2 ∨ ix = 3 ∨ ix = 4 ∨ ix = 5 ∨ ix = 6 ∨ ix = 7 ∨ ix = 8 ∨ ix = 9 ∨ ix = 10 ∨ ix = 11 ∨ ix = 12 ∨ ix = 13 ∨ ix = 14 ∨ ix = 15 ∨ ix = 16 ∨ ix = 17 ∨ ix = 18 ∨ ix = 19 ∨ ix = 20 ∨ ix = 21 ∨ ix = 22 ∨ ix = 23 ∨ ix = 24 := by omega
            have hh := hI.held
            clear hi
            rcases hcase with rfl | rfl | rfl | rfl | rfl | rfl | rfl | rfl | rfl | rfl | rfl | rfl | rfl | rfl | rfl | rfl | rfl | rfl | rfl | rfl | rfl | rfl | rfl | rfl | rfl
            · simp only [List.getElem?_toArray, List.getElem?_cons_zero, Option.some.injEq] at ho
              subst ho
              refine ⟨rfl, ?_⟩
              have e15 : A_.tmps[15]?.getD undef = .pointer (some ⟨g15, 0, none⟩) := by rw [hI.low 15 (by decide)]; rfl
              clear hI hdep
              obtain ⟨⟨z0, z1⟩, ⟨⟨x0, x1⟩, y0, y1⟩, _⟩ := HF9.out w3 hh
              exact .run rfl (.agg #[.slice E es.length ce, .slice A l.length ca]) w3 (by simp [execOp, go_sem, Act.eval, *]) (Below.refl _ _) rfl
            · simp only [List.getElem?_toArray, List.getElem?_cons_succ, List.getElem?_cons_zero, Option.some.injEq] at ho
              subst ho
              refine ⟨rfl, ?_⟩
              have e16 : A_.tmps[16]?.getD undef = .slice (some ⟨g16, 0, none⟩) 2 2 := by rw [hI.low 16 (by decide)]; rfl
              clear hI hdep
              exact .run rfl (.slice (some ⟨g16, 0, none⟩) 2 2) w3 (by simp [execOp, go_sem, Act.eval, e16]) (Below.refl _ _) rfl
            · simp only [List.getElem?_toArray, List.getElem?_cons_succ, List.getElem?_cons_zero, Option.some.injEq] at ho
              subst ho
              refine ⟨rfl, ?_⟩
              have e18 : A_.tmps[18]?.getD undef = .int .i64 (j : Int) := by rw [hI.low 18 (by decide)]; rfl
              clear hI hdep
              exact .run rfl (.int .i64 (j : Int)) w3 (by simp [execOp, go_sem, Act.eval, e18]) (Below.refl _ _) rfl
            · simp only [List.getElem?_toArray, List.getElem?_cons_succ, List.getElem?_cons_zero, Option.some.injEq] at ho
              subst ho
              refine ⟨rfl, ?_⟩
              have e75 : A_.tmps[75]?.getD undef = .slice (some ⟨g16, 0, none⟩) 2 2 := getD_of (hI.val_ (i := 1) rfl rfl (by decide) (hdep ⟨1, .data⟩ (by simp) rfl))
              have e76 : A_.tmps[76]?.getD undef = .int .i64 (j : Int) := getD_of (hI.val_ (i := 2) rfl rfl (by decide) (hdep ⟨2, .data⟩ (by simp) rfl))
              clear hI hdep
              exact .run rfl (.pointer (some ⟨g16, j * 5, none⟩)) w3 (by simp [execOp, go_sem, Act.eval, e75, e76, hj3]) (Below.refl _ _) rfl
            · simp only [List.getElem?_toArray, List.getElem?_cons_succ, List.getElem?_cons_zero, Option.some.injEq] at ho
              subst ho
              refine ⟨rfl, ?_⟩
              have e77 : A_.tmps[77]?.getD undef = .pointer (some ⟨g16, j * 5, none⟩) := getD_of (hI.val_ (i := 3) rfl rfl (by decide) (hdep ⟨3, .data⟩ (by simp) rfl))
              clear hI hdep
              obtain ⟨_, _, s0, s1, s2, s3, s4⟩ := HF9.out w3 hh
              exact .run rfl (.agg #[.int .i64 q.c, .int .i64 q.h, .int .i64 q.t, .int .i64 q.k, .int .i64 q.i]) w3 (by simp [execOp, go_sem, Act.eval, e77, s0, s1, s2, s3, s4]) (Below.refl _ _) rfl
            · simp only [List.getElem?_toArray, List.getElem?_cons_succ, List.getElem?_cons_zero, Option.some.injEq] at ho
              subst ho
              refine ⟨rfl, ?_⟩
              have e74 : A_.tmps[74]?.getD undef = .agg #[.slice E es.length ce, .slice A l.length ca] := getD_of (hI.val_ (i := 0) rfl rfl (by decide) (hdep ⟨0, .data⟩ (by simp) rfl))
              have e78 : A_.tmps[78]?.getD undef = .agg #[.int .i64 q.c, .int .i64 q.h, .int .i64 q.t, .int .i64 q.k, .int .i64 q.i] := getD_of (hI.val_ (i := 4) rfl rfl (by decide) (hdep ⟨4, .data⟩ (by simp) rfl))
              clear hI hdep
              exact .call rfl 21 #[.agg #[.slice E es.length ce, .slice A l.length ca], .agg #[.int .i64 q.c, .int .i64 q.h, .int .i64 q.t, .int .i64 q.k, .int .i64 q.i]] (by simp [go_sem, Act.eval, e74, e78]) ((HWL.out.2 ▸ get_any q w3 (HI0.out w3 (HB9.out.trans (hh.mono HB9.out.size)))).mono fun _ _ ⟨h1_, h2_⟩ => ⟨⟨_, h1_, rfl⟩, h2_⟩)
            · simp only [List.getElem?_toArray, List.getElem?_cons_succ, List.getElem?_cons_zero, Option.some.injEq] at ho
              subst ho
              refine ⟨rfl, ?_⟩
              have e15 : A_.tmps[15]?.getD undef = .pointer (some ⟨g15, 0, none⟩) := by rw [hI.low 15 (by decide)]; rfl
              clear hI hdep
              obtain ⟨⟨z0, z1⟩, ⟨⟨x0, x1⟩, y0, y1⟩, _⟩ := HF9.out w3 hh
              exact .run rfl (.agg #[.slice E es.length ce, .slice A l.length ca]) w3 (by simp [execOp, go_sem, Act.eval, *]) (Below.refl _ _) rfl
            · simp only [List.getElem?_toArray, List.getElem?_cons_succ, List.getElem?_cons_zero, Option.some.injEq] at ho
              subst ho
              refine ⟨rfl, ?_⟩
              have e16 : A_.tmps[16]?.getD undef = .slice (some ⟨g16, 0, none⟩) 2 2 := by rw [hI.low 16 (by decide)]; rfl
              clear hI hdep
              exact .run rfl (.slice (some ⟨g16, 0, none⟩) 2 2) w3 (by simp [execOp, go_sem, Act.eval, e16]) (Below.refl _ _) rfl
            · simp only [List.getElem?_toArray, List.getElem?_cons_succ, List.getElem?_cons_zero, Option.some.injEq] at ho
              subst ho
              refine ⟨rfl, ?_⟩
              have e18 : A_.tmps[18]?.getD undef = .int .i64 (j : Int) := by rw [hI.low 18 (by decide)]; rfl
              clear hI hdep
              exact .run rfl (.int .i64 (j : Int)) w3 (by simp [execOp, go_sem, Act.eval, e18]) (Below.refl _ _) rfl
            · simp only [List.getElem?_toArray, List.getElem?_cons_succ, List.getElem?_cons_zero, Option.some.injEq] at ho
              subst ho
              refine ⟨rfl, ?_⟩
              have e81 : A_.tmps[81]?.getD undef = .slice (some ⟨g16, 0, none⟩) 2 2 := getD_of (hI.val_ (i := 7) rfl rfl (by decide) (hdep ⟨7, .data⟩ (by simp) rfl))
              have e82 : A_.tmps[82]?.getD undef = .int .i64 (j : Int) := getD_of (hI.val_ (i := 8) rfl rfl (by decide) (hdep ⟨8, .data⟩ (by simp) rfl))
              clear hI hdep
              exact .run rfl (.pointer (some ⟨g16, j * 5, none⟩)) w3 (by simp [execOp, go_sem, Act.eval, e81, e82, hj3]) (Below.refl _ _) rfl
            · simp only [List.getElem?_toArray, List.getElem?_cons_succ, List.getElem?_cons_zero, Option.some.injEq] at ho
              subst ho
              refine ⟨rfl, ?_⟩
              have e83 : A_.tmps[83]?.getD undef = .pointer (some ⟨g16, j * 5, none⟩) := getD_of (hI.val_ (i := 9) rfl rfl (by decide) (hdep ⟨9, .data⟩ (by simp) rfl))
              clear hI hdep
              obtain ⟨_, _, s0, s1, s2, s3, s4⟩ := HF9.out w3 hh
              exact .run rfl (.agg #[.int .i64 q.c, .int .i64 q.h, .int .i64 q.t, .int .i64 q.k, .int .i64 q.i]) w3 (by simp [execOp, go_sem, Act.eval, e83, s0, s1, s2, s3, s4]) (Below.refl _ _) rfl
            · simp only [List.getElem?_toArray, List.getElem?_cons_succ, List.getElem?_cons_zero, Option.some.injEq] at ho
              subst ho
              refine ⟨rfl, ?_⟩
              have e80 : A_.tmps[80]?.getD undef = .agg #[.slice E es.length ce, .slice A l.length ca] := getD_of (hI.val_ (i := 6) rfl rfl (by decide) (hdep ⟨6, .data⟩ (by simp) rfl))
              have e84 : A_.tmps[84]?.getD undef = .agg #[.int .i64 q.c, .int .i64 q.h, .int .i64 q.t, .int .i64 q.k, .int .i64 q.i] := getD_of (hI.val_ (i := 10) rfl rfl (by decide) (hdep ⟨10, .data⟩ (by simp) rfl))
              clear hI hdep
              exact .call rfl 22 #[.agg #[.slice E es.length ce, .slice A l.length ca], .agg #[.int .i64 q.c, .int .i64 q.h, .int .i64 q.t, .int .i64 q.k, .int .i64 q.i]] (by simp [go_sem, Act.eval, e80, e84]) ((HWL.out.2 ▸ refGet_any E es.length ce q w3 (HI0.out w3 (HB9.out.trans (hh.mono HB9.out.size))).an (by omega)).mono fun _ _ ⟨h1_, h2_⟩ => ⟨⟨_, h1_, rfl⟩, h2_⟩)
            · simp only [List.getElem?_toArray, List.getElem?_cons_succ, List.getElem?_cons_zero, Option.some.injEq] at ho
              subst ho
              refine ⟨rfl, ?_⟩
              have e79 : A_.tmps[79]?.getD undef = .int .i64 gv := getD_of (hI.val_ (i := 5) rfl rfl (by decide) (hdep ⟨5, .data⟩ (by simp) rfl))
              have e85 : A_.tmps[85]?.getD undef = .int .i64 gv := getD_of (hI.val_ (i := 11) rfl rfl (by decide) (hdep ⟨11, .data⟩ (by simp) rfl))
              clear hI hdep
              exact .run rfl (.bool false) w3 (by simp [execOp, go_sem, Act.eval, e79, e85]) (Below.refl _ _) rfl
            · simp only [List.getElem?_toArray, List.getElem?_cons_succ, List.getElem?_cons_zero, Option.some.injEq] at ho
              subst ho
              refine ⟨rfl, ?_⟩
              have e86 : A_.tmps[86]?.getD undef = .bool false := getD_of (hI.val_ (i := 12) rfl rfl (by decide) (hdep ⟨12, .data⟩ (by simp) rfl))
              clear hI hdep
              exact .run rfl (.bool false) w3 (by simp [execOp, go_sem, Act.eval, e86]) (Below.refl _ _) rfl
            · simp only [List.getElem?_toArray, List.getElem?_cons_succ, List.getElem?_cons_zero, Option.some.injEq] at ho
              subst ho
              refine ⟨rfl, ?_⟩
              have q87 : A_.tmps[87]? = some (.bool false) := hI.val_ (i := 13) rfl rfl (by decide) (hdep ⟨13, .guard⟩ (by simp) rfl)
              have e15 : A_.tmps[15]?.getD undef = .pointer (some ⟨g15, 0, none⟩) := by rw [hI.low 15 (by decide)]; rfl
              clear hI hdep
              obtain ⟨⟨z0, z1⟩, ⟨⟨x0, x1⟩, y0, y1⟩, _⟩ := HF9.out w3 hh
              exact .run ((wanted_some rfl rfl q87).trans rfl) (.agg #[.slice E es.length ce, .slice A l.length ca]) w3 (by simp [execOp, go_sem, Act.eval, *]) (Below.refl _ _) rfl
            · simp only [List.getElem?_toArray, List.getElem?_cons_succ, List.getElem?_cons_zero, Option.some.injEq] at ho
              subst ho
              refine ⟨rfl, ?_⟩
              have q87 : A_.tmps[87]? = some (.bool false) := hI.val_ (i := 13) rfl rfl (by decide) (hdep ⟨13, .guard⟩ (by simp) rfl)
              have e16 : A_.tmps[16]?.getD undef = .slice (some ⟨g16, 0, none⟩) 2 2 := by rw [hI.low 16 (by decide)]; rfl
              clear hI hdep
              exact .run ((wanted_some rfl rfl q87).trans rfl) (.slice (some ⟨g16, 0, none⟩) 2 2) w3 (by simp [execOp, go_sem, Act.eval, e16]) (Below.refl _ _) rfl
            · simp only [List.getElem?_toArray, List.getElem?_cons_succ, List.getElem?_cons_zero, Option.some.injEq] at ho
              subst ho
              refine ⟨rfl, ?_⟩
              have q87 : A_.tmps[87]? = some (.bool false) := hI.val_ (i := 13) rfl rfl (by decide) (hdep ⟨13, .guard⟩ (by simp) rfl)
              have e18 : A_.tmps[18]?.getD undef = .int .i64 (j : Int) := by rw [hI.low 18 (by decide)]; rfl
              clear hI hdep
              exact .run ((wanted_some rfl rfl q87).trans rfl) (.int .i64 (j : Int)) w3 (by simp [execOp, go_sem, Act.eval, e18]) (Below.refl _ _) rfl
            · simp only [List.getElem?_toArray, List.getElem?_cons_succ, List.getElem?_cons_zero, Option.some.injEq] at ho
              subst ho
              refine ⟨rfl, ?_⟩
              have q87 : A_.tmps[87]? = some (.bool false) := hI.val_ (i := 13) rfl rfl (by decide) (hdep ⟨13, .guard⟩ (by simp) rfl)
              have e89 : A_.tmps[89]?.getD undef = .slice (some ⟨g16, 0, none⟩) 2 2 := getD_of (hI.val_ (i := 15) rfl rfl (by decide) (hdep ⟨15, .data⟩ (by simp) rfl))
              have e90 : A_.tmps[90]?.getD undef = .int .i64 (j : Int) := getD_of (hI.val_ (i := 16) rfl rfl (by decide) (hdep ⟨16, .data⟩ (by simp) rfl))
              clear hI hdep
              exact .run ((wanted_some rfl rfl q87).trans rfl) (.pointer (some ⟨g16, j * 5, none⟩)) w3 (by simp [execOp, go_sem, Act.eval, e89, e90, hj3]) (Below.refl _ _) rfl
            · simp only [List.getElem?_toArray, List.getElem?_cons_succ, List.getElem?_cons_zero, Option.some.injEq] at ho
              subst ho
              refine ⟨rfl, ?_⟩
              have q87 : A_.tmps[87]? = some (.bool false) := hI.val_ (i := 13) rfl rfl (by decide) (hdep ⟨13, .guard⟩ (by simp) rfl)
              have e91 : A_.tmps[91]?.getD undef = .pointer (some ⟨g16, j * 5, none⟩) := getD_of (hI.val_ (i := 17) rfl rfl (by decide) (hdep ⟨17, .data⟩ (by simp) rfl))
              clear hI hdep
              obtain ⟨_, _, s0, s1, s2, s3, s4⟩ := HF9.out w3 hh
              exact .run ((wanted_some rfl rfl q87).trans rfl) (.agg #[.int .i64 q.c, .int .i64 q.h, .int .i64 q.t, .int .i64 q.k, .int .i64 q.i]) w3 (by simp [execOp, go_sem, Act.eval, e91, s0, s1, s2, s3, s4]) (Below.refl _ _) rfl
            · simp only [List.getElem?_toArray, List.getElem?_cons_succ, List.getElem?_cons_zero, Option.some.injEq] at ho
              subst ho
              refine ⟨rfl, ?_⟩
              have q87 : A_.tmps[87]? = some (.bool false) := hI.val_ (i := 13) rfl rfl (by decide) (hdep ⟨13, .guard⟩ (by simp) rfl)
              have e4 : A_.tmps[4]?.getD undef = .int .i64 a4 := by rw [hI.low 4 (by decide)]; rfl
              clear hI hdep
              exact .run ((wanted_some rfl rfl q87).trans rfl) (.int .i64 a4) w3 (by simp [execOp, go_sem, Act.eval, e4]) (Below.refl _ _) rfl
            · simp only [List.getElem?_toArray, List.getElem?_cons_succ, List.getElem?_cons_zero, Option.some.injEq] at ho
              subst ho
              refine ⟨rfl, ?_⟩
              have q87 : A_.tmps[87]? = some (.bool false) := hI.val_ (i := 13) rfl rfl (by decide) (hdep ⟨13, .guard⟩ (by simp) rfl)
              have e88 : A_.tmps[88]?.getD undef = .agg #[.slice E es.length ce, .slice A l.length ca] := getD_of (hI.val_ (i := 14) rfl rfl (by decide) (hdep ⟨14, .data⟩ (by simp) rfl))
              have e92 : A_.tmps[92]?.getD undef = .agg #[.int .i64 q.c, .int .i64 q.h, .int .i64 q.t, .int .i64 q.k, .int .i64 q.i] := getD_of (hI.val_ (i := 18) rfl rfl (by decide) (hdep ⟨18, .data⟩ (by simp) rfl))
              have e93 : A_.tmps[93]?.getD undef = .int .i64 a4 := getD_of (hI.val_ (i := 19) rfl rfl (by decide) (hdep ⟨19, .data⟩ (by simp) rfl))
              clear hI hdep
              exact .call ((wanted_some rfl rfl q87).trans rfl) 23 #[.agg #[.slice E es.length ce, .slice A l.length ca], .agg #[.int .i64 q.c, .int .i64 q.h, .int .i64 q.t, .int .i64 q.k, .int .i64 q.i], .int .i64 a4] (by simp [go_sem, Act.eval, e88, e92, e93]) (with_tin q a4 w3 (HI0.out w3 (HB9.out.trans (hh.mono HB9.out.size))) hel (by omega) HWL.out.1)
            · simp only [List.getElem?_toArray, List.getElem?_cons_succ, List.getElem?_cons_zero, Option.some.injEq] at ho
              subst ho
              refine ⟨rfl, ?_⟩
              have q87 : A_.tmps[87]? = some (.bool false) := hI.val_ (i := 13) rfl rfl (by decide) (hdep ⟨13, .guard⟩ (by simp) rfl)
              have e19 : A_.tmps[19]?.getD undef = .pointer (some ⟨g19, 0, none⟩) := by rw [hI.low 19 (by decide)]; rfl
              clear hI hdep
              obtain ⟨⟨z0, z1⟩, ⟨⟨x0, x1⟩, y0, y1⟩, _⟩ := HF9.out w3 hh
              exact .run ((wanted_some rfl rfl q87).trans rfl) (.agg #[.slice E73 es.length c73, .slice A73 wl.length d73]) w3 (by simp [execOp, go_sem, Act.eval, *]) (Below.refl _ _) rfl
            · simp only [List.getElem?_toArray, List.getElem?_cons_succ, List.getElem?_cons_zero, Option.some.injEq] at ho
              subst ho
              refine ⟨rfl, ?_⟩
              have q87 : A_.tmps[87]? = some (.bool false) := hI.val_ (i := 13) rfl rfl (by decide) (hdep ⟨13, .guard⟩ (by simp) rfl)
              obtain ⟨_, e94, E94, c94, A94, d94, rfl, h94⟩ := hI.get_ (i := 20) (j := 94) rfl rfl (by decide) (hdep ⟨20, .data⟩ (by simp) rfl)
              have e95 : A_.tmps[95]?.getD undef = .agg #[.slice E73 es.length c73, .slice A73 wl.length d73] := getD_of (hI.val_ (i := 21) rfl rfl (by decide) (hdep ⟨21, .data⟩ (by simp) rfl))
              clear hI hdep
              exact .call ((wanted_some rfl rfl q87).trans rfl) 16 #[.agg #[.slice E94 es.length c94, .slice A94 wl.length d94], .agg #[.slice E73 es.length c73, .slice A73 wl.length d73]] (by simp [go_sem, Act.eval, e94, e95]) ((same_good w3 h94 (HI9.out w3 hh)).mono fun _ _ ⟨h1_, h2_⟩ => ⟨⟨_, h1_, rfl⟩, h2_⟩)
            · simp only [List.getElem?_toArray, List.getElem?_cons_succ, List.getElem?_cons_zero, Option.some.injEq] at ho
              subst ho
              refine ⟨rfl, ?_⟩
              have q87 : A_.tmps[87]? = some (.bool false) := hI.val_ (i := 13) rfl rfl (by decide) (hdep ⟨13, .guard⟩ (by simp) rfl)
              have e96 : A_.tmps[96]?.getD undef = .bool true := getD_of (hI.val_ (i := 22) rfl rfl (by decide) (hdep ⟨22, .data⟩ (by simp) rfl))
              clear hI hdep
              exact .run ((wanted_some rfl rfl q87).trans rfl) (.bool false) w3 (by simp [execOp, go_sem, Act.eval, e96]) (Below.refl _ _) rfl
            · simp only [List.getElem?_toArray, List.getElem?_cons_succ, List.getElem?_cons_zero, Option.some.injEq] at ho
              subst ho
              refine ⟨rfl, ?_⟩
              have e87 : A_.tmps[87]?.getD undef = .bool false := getD_of (hI.val_ (i := 13) rfl rfl (by decide) (hdep ⟨13, .data⟩ (by simp) rfl))
              have e97 : A_.tmps[97]?.getD undef = .bool false := getD_of (hI.val_ (i := 23) rfl rfl (by decide) (hdep ⟨23, .data⟩ (by simp) rfl))
              clear hI hdep
              exact .run rfl (.bool false) w3 (by simp [execOp, go_sem, Act.eval, e87, e97]) (Below.refl _ _) rfl
          case fin =>
          intro A_ w3 hs hd hlow hS hok
          obtain ⟨_, hy94, E94, c94, A94, d94, rfl, h94⟩ := hok 20 94 _ (by decide) rfl rfl
          obtain rfl : A_ = ⟨#[.slice a0 len0 cap0, .slice a1 len1 cap1, .agg #[.slice tE tn tc, .slice tA tm td], .agg #[.int .i64 qc, .int .i64 qh, .int .i64 qt, .int .i64 qk, .int .i64 qi], .int .i64 a4, .int .i64 a5, undef, undef, .pointer (some ⟨w.heap.size, 0, none⟩), .pointer (some ⟨w.heap.size + 1, 0, none⟩), undef, undef, u12, .slice (some ⟨g13, 0, none⟩) 2 2, .int .i64 (k : Int), .pointer (some ⟨g15, 0, none⟩), .slice (some ⟨g16, 0, none⟩) 2 2, .pointer (some ⟨g17, 0, none⟩), .int .i64 (j : Int), .pointer (some ⟨g19, 0, none⟩), .slice a0 len0 cap0, .slice a1 len1 cap1, .agg #[.slice E22 e0.length c22, .slice A22 l0.length d22], .agg #[.slice tE tn tc, .slice tA tm td], .agg #[.slice E24 e1.length c24, .slice A24 l1.length d24], .slice (some ⟨g25, 0, none⟩) 2 2, .int .i64 (k : Int), .bool true, u28, u29, .slice (some ⟨g13, 0, none⟩) 2 2, .int .i64 (k : Int), .pointer (some { block := g13, off := k * 2 }), .agg #[.slice E es.length ce, .slice A l.length ca], .agg #[.int .i64 qc, .int .i64 qh, .int .i64 qt, .int .i64 qk, .int .i64 qi], .int .i64 a5, .agg #[.int .i64 p.c, .int .i64 p.h, .int .i64 p.t, .int .i64 p.k, .int .i64 p.i], .slice (some ⟨g37, 0, none⟩) 2 2, .agg #[.slice E es.length ce, .slice A l.length ca], .agg #[.slice E2 es.length cx2, .slice A2 nl.length d2], .agg #[.slice E es.length ce, .slice A l.length ca], .agg #[.slice E41 es.length c41, .slice A41 nl.length d41], .agg #[.slice E2 es.length cx2, .slice A2 nl.length d2], .bool true, .bool false, .bool false, .agg #[.slice E es.length ce, .slice A l.length ca], .int .i64 ((es.length : Int) + (nl.length : Int)), .pointer (some ⟨g17, 0, none⟩), .slice E2 es.length cx2, .int .i64 (es.length : Int), .pointer (some ⟨g17, 1, none⟩), .slice A2 nl.length d2, .int .i64 (nl.length : Int), .int .i64 ((es.length : Int) + (nl.length : Int)), .bool false, .bool false, .bool false, .agg #[.slice E es.length ce, .slice A l.length ca], .agg #[.slice E2 es.length cx2, .slice A2 nl.length d2], .bool true, .bool false, .bool false, .int .i64 (j : Int), .bool true, u65, u66, .agg #[.slice E es.length ce, .slice A l.length ca], .slice (some ⟨g16, 0, none⟩) 2 2, .int .i64 (j : Int), .pointer (some { block := g16, off := j * 5 }), .agg #[.int .i64 q.c, .int .i64 q.h, .int .i64 q.t, .int .i64 q.k, .int .i64 q.i], .int .i64 a4, .agg #[.slice E73 es.length c73, .slice A73 wl.length d73], .agg #[.slice E es.length ce, .slice A l.length ca], .slice (some ⟨g16, 0, none⟩) 2 2, .int .i64 (j : Int), .pointer (some ⟨g16, j * 5, none⟩), .agg #[.int .i64 q.c, .int .i64 q.h, .int .i64 q.t, .int .i64 q.k, .int .i64 q.i], .int .i64 gv, .agg #[.slice E es.length ce, .slice A l.length ca], .slice (some ⟨g16, 0, none⟩) 2 2, .int .i64 (j : Int), .pointer (some ⟨g16, j * 5, none⟩), .agg #[.int .i64 q.c, .int .i64 q.h, .int .i64 q.t, .int .i64 q.k, .int .i64 q.i], .int .i64 gv, .bool false, .bool false, .agg #[.slice E es.length ce, .slice A l.length ca], .slice (some ⟨g16, 0, none⟩) 2 2, .int .i64 (j : Int), .pointer (some ⟨g16, j * 5, none⟩), .agg #[.int .i64 q.c, .int .i64 q.h, .int .i64 q.t, .int .i64 q.k, .int .i64 q.i], .int .i64 a4, .agg #[.slice E94 es.length c94, .slice A94 wl.length d94], .agg #[.slice E73 es.length c73, .slice A73 wl.length d73], .bool true, .bool false, .bool false, u99, u100, u101, u102, u103, u104, u105, undef, undef, undef, undef, undef, undef, undef, undef, undef, undef, undef, undef, undef, undef, undef, undef, undef, undef, undef, undef], []⟩ := act_ext hd hs (fun j hj => match j, hj with | 0, _ => (hlow 0 (by decide)).trans rfl | 1, _ => (hlow 1 (by decide)).trans rfl | 2, _ => (hlow 2 (by decide)).trans rfl | 3, _ => (hlow 3 (by decide)).trans rfl | 4, _ => (hlow 4 (by decide)).trans rfl | 5, _ => (hlow 5 (by decide)).trans rfl | 6, _ => (hlow 6 (by decide)).trans rfl | 7, _ => (hlow 7 (by decide)).trans rfl | 8, _ => (hlow 8 (by decide)).trans rfl | 9, _ => (hlow 9 (by decide)).trans rfl | 10, _ => (hlow 10 (by decide)).trans rfl | 11, _ => (hlow 11 (by decide)).trans rfl | 12, _ => (hlow 12 (by decide)).trans rfl | 13, _ => (hlow 13 (by decide)).trans rfl | 14, _ => (hlow 14 (by decide)).trans rfl | 15, _ => (hlow 15 (by decide)).trans rfl | 16, _ => (hlow 16 (by decide)).trans rfl | 17, _ => (hlow 17 (by decide)).trans rfl | 18, _ => (hlow 18 (by decide)).trans rfl | 19, _ => (hlow 19 (by decide)).trans rfl | 20, _ => (hlow 20 (by decide)).trans rfl | 21, _ => (hlow 21 (by decide)).trans rfl | 22, _ => (hlow 22 (by decide)).trans rfl | 23, _ => (hlow 23 (by decide)).trans rfl | 24, _ => (hlow 24 (by decide)).trans rfl | 25, _ => (hlow 25 (by decide)).trans rfl | 26, _ => (hlow 26 (by decide)).trans rfl | 27, _ => (hlow 27 (by decide)).trans rfl | 28, _ => (hlow 28 (by decide)).trans rfl | 29, _ => (hlow 29 (by decide)).trans rfl | 30, _ => (hlow 30 (by decide)).trans rfl | 31, _ => (hlow 31 (by decide)).trans rfl | 32, _ => (hlow 32 (by decide)).trans rfl | 33, _ => (hlow 33 (by decide)).trans rfl | 34, _ => (hlow 34 (by decide)).trans rfl | 35, _ => (hlow 35 (by decide)).trans rfl | 36, _ => (hlow 36 (by decide)).trans rfl | 37, _ => (hlow 37 (by decide)).trans rfl | 38, _ => (hlow 38 (by decide)).trans rfl | 39, _ => (hlow 39 (by decide)).trans rfl | 40, _ => (hlow 40 (by decide)).trans rfl | 41, _ => (hlow 41 (by decide)).trans rfl | 42, _ => (hlow 42 (by decide)).trans rfl | 43, _ => (hlow 43 (by decide)).trans rfl | 44, _ => (hlow 44 (by decide)).trans rfl | 45, _ => (hlow 45 (by decide)).trans rfl | 46, _ => (hlow 46 (by decide)).trans rfl | 47, _ => (hlow 47 (by decide)).trans rfl | 48, _ => (hlow 48 (by decide)).trans rfl | 49, _ => (hlow 49 (by decide)).trans rfl | 50, _ => (hlow 50 (by decide)).trans rfl | 51, _ => (hlow 51 (by decide)).trans rfl | 52, _ => (hlow 52 (by decide)).trans rfl | 53, _ => (hlow 53 (by decide)).trans rfl | 54, _ => (hlow 54 (by decide)).trans rfl | 55, _ => (hlow 55 (by decide)).trans rfl | 56, _ => (hlow 56 (by decide)).trans rfl | 57, _ => (hlow 57 (by decide)).trans rfl | 58, _ => (hlow 58 (by decide)).trans rfl | 59, _ => (hlow 59 (by decide)).trans rfl | 60, _ => (hlow 60 (by decide)).trans rfl | 61, _ => (hlow 61 (by decide)).trans rfl | 62, _ => (hlow 62 (by decide)).trans rfl | 63, _ => (hlow 63 (by decide)).trans rfl | 64, _ => (hlow 64 (by decide)).trans rfl | 65, _ => (hlow 65 (by decide)).trans rfl | 66, _ => (hlow 66 (by decide)).trans rfl | 67, _ => (hlow 67 (by decide)).trans rfl | 68, _ => (hlow 68 (by decide)).trans rfl | 69, _ => (hlow 69 (by decide)).trans rfl | 70, _ => (hlow 70 (by decide)).trans rfl | 71, _ => (hlow 71 (by decide)).trans rfl | 72, _ => (hlow 72 (by decide)).trans rfl | 73, _ => (hlow 73 (by decide)).trans rfl | 74, _ => RgX.val_at (hok 0 74 _ (by decide) rfl rfl) | 75, _ => RgX.val_at (hok 1 75 _ (by decide) rfl rfl) | 76, _ => RgX.val_at (hok 2 76 _ (by decide) rfl rfl) | 77, _ => RgX.val_at (hok 3 77 _ (by decide) rfl rfl) | 78, _ => RgX.val_at (hok 4 78 _ (by decide) rfl rfl) | 79, _ => RgX.val_at (hok 5 79 _ (by decide) rfl rfl) | 80, _ => RgX.val_at (hok 6 80 _ (by decide) rfl rfl) | 81, _ => RgX.val_at (hok 7 81 _ (by decide) rfl rfl) | 82, _ => RgX.val_at (hok 8 82 _ (by decide) rfl rfl) | 83, _ => RgX.val_at (hok 9 83 _ (by decide) rfl rfl) | 84, _ => RgX.val_at (hok 10 84 _ (by decide) rfl rfl) | 85, _ => RgX.val_at (hok 11 85 _ (by decide) rfl rfl) | 86, _ => RgX.val_at (hok 12 86 _ (by decide) rfl rfl) | 87, _ => RgX.val_at (hok 13 87 _ (by decide) rfl rfl) | 88, _ => RgX.val_at (hok 14 88 _ (by decide) rfl rfl) | 89, _ => RgX.val_at (hok 15 89 _ (by decide) rfl rfl) | 90, _ => RgX.val_at (hok 16 90 _ (by decide) rfl rfl) | 91, _ => RgX.val_at (hok 17 91 _ (by decide) rfl rfl) | 92, _ => RgX.val_at (hok 18 92 _ (by decide) rfl rfl) | 93, _ => RgX.val_at (hok 19 93 _ (by decide) rfl rfl) | 94, _ => hy94 | 95, _ => RgX.val_at (hok 21 95 _ (by decide) rfl rfl) | 96, _ => RgX.val_at (hok 22 96 _ (by decide) rfl rfl) | 97, _ => RgX.val_at (hok 23 97 _ (by decide) rfl rfl) | 98, _ => RgX.val_at (hok 24 98 _ (by decide) rfl rfl) | 99, _ => (hlow 99 (by decide)).trans rfl | 100, _ => (hlow 100 (by decide)).trans rfl | 101, _ => (hlow 101 (by decide)).trans rfl | 102, _ => (hlow 102 (by decide)).trans rfl | 103, _ => (hlow 103 (by decide)).trans rfl | 104, _ => (hlow 104 (by decide)).trans rfl | 105, _ => (hlow 105 (by decide)).trans rfl | 106, _ => (hlow 106 (by decide)).trans rfl | 107, _ => (hlow 107 (by decide)).trans rfl | 108, _ => (hlow 108 (by decide)).trans rfl | 109, _ => (hlow 109 (by decide)).trans rfl | 110, _ => (hlow 110 (by decide)).trans rfl | 111, _ => (hlow 111 (by decide)).trans rfl | 112, _ => (hlow 112 (by decide)).trans rfl | 113, _ => (hlow 113 (by decide)).trans rfl | 114, _ => (hlow 114 (by decide)).trans rfl | 115, _ => (hlow 115 (by decide)).trans rfl | 116, _ => (hlow 116 (by decide)).trans rfl | 117, _ => (hlow 117 (by decide)).trans rfl | 118, _ => (hlow 118 (by decide)).trans rfl | 119, _ => (hlow 119 (by decide)).trans rfl | 120, _ => (hlow 120 (by decide)).trans rfl | 121, _ => (hlow 121 (by decide)).trans rfl | 122, _ => (hlow 122 (by decide)).trans rfl | 123, _ => (hlow 123 (by decide)).trans rfl | 124, _ => (hlow 124 (by decide)).trans rfl | 125, _ => (hlow 125 (by decide)).trans rfl | n + 126, h => absurd h (by show ¬ n + 126 < 126; omega))
          clear hs hd hlow hok hy94
          obtain ⟨v10, h10⟩ : ∃ V, V = w3 := ⟨_, rfl⟩
          rw [← h10] at hS ⊢
          have HB10 := Lib.hid hS
          clear hS h10 h94
          obtain ⟨bq, hbq⟩ : ∃ b, decide (es = es ∧ nl = wl) = b := ⟨_, rfl⟩
          have HEQ := Lib.hid (fun (V : World) (hV : Below v9.heap.size v9 V) => show Calls Try.prog 19 #[.agg #[.slice E es.length ce, .slice A l.length ca], .agg #[.slice E73 es.length c73, .slice A73 wl.length d73]] V fun e w' => e = .returned (.bool bq) ∧ Below V.heap.size V w' from by
            have := equalP_any (d1 := ca) (d2 := d73) V (HI0.out V (HB9.out.trans (hV.mono HB9.out.size))) (HI9.out V hV)
            rw [HNL.out, HWN.out, hbq] at this
            exact this)
          have HSQ := Lib.hid (fun (V : World) (hV : Below v9.heap.size v9 V) => show Calls Try.prog 16 #[.agg #[.slice E2 es.length cx2, .slice A2 nl.length d2], .agg #[.slice E73 es.length c73, .slice A73 wl.length d73]] V fun e w' => e = .returned (.bool bq) ∧ Below V.heap.size V w' from by
            have h1 := HI2.out V (HB9.out.trans (hV.mono HB9.out.size))
            have h2 := HI9.out V hV
            have := refSame_any (c1 := cx2) (d1 := d2) (c2 := c73) (d2 := d73) V h1.ev h1.an h2.ev h2.an h1.be h1.ba
            rw [hbq] at this
            exact this)
          clear hbq
          go_upto_region 16 with (fail)
          refine RgX.regionB 7 (fun i => ( 99 + i)) (fun ix_ => match ix_ with | 0 => .v (.agg #[.slice E es.length ce, .slice A l.length ca]) | 1 => .v (.agg #[.slice E73 es.length c73, .slice A73 wl.length d73]) | 2 => .v (.bool bq) | 3 => .v (.agg #[.slice E2 es.length cx2, .slice A2 nl.length d2]) | 4 => .v (.agg #[.slice E73 es.length c73, .slice A73 wl.length d73]) | 5 => .v (.bool bq) | 6 => .v (.bool false) | _ => .any) (by kernel_rfl) rfl (by kernel_rfl)  (fun i hi => by show ( 99 + i) < 126; (repeat' split) <;> omega) (fun i j hi hj => by show ( 99 + i) = ( 99 + j) → i = j; (repeat' split) <;> omega) ?step ?fin
          case step =>
            intro L_ A_ w3 ix op_ hI ho hdep
            have hi : ix < 7 := (Array.getElem?_eq_some_iff.1 ho).1
            have hcase : ix = 0 ∨ ix = 1 ∨ ix = 2 ∨ ix = 3 ∨ ix = 4 ∨ ix = 5 ∨ ix = 6 := by omega
            have hh := hI.held
            clear hi
            rcases hcase with rfl | rfl | rfl | rfl | rfl | rfl | rfl
            · simp only [List.getElem?_toArray, List.getElem?_cons_zero, Option.some.injEq] at ho
              subst ho
              refine ⟨rfl, ?_⟩
              have e15 : A_.tmps[15]?.getD undef = .pointer (some ⟨g15, 0, none⟩) := by rw [hI.low 15 (by decide)]; rfl
              clear hI hdep
              obtain ⟨⟨z0, z1⟩, ⟨⟨x0, x1⟩, y0, y1⟩, _⟩ := HF9.out w3 (HB10.out.trans (hh.mono HB10.out.size))
              exact .run rfl (.agg #[.slice E es.length ce, .slice A l.length ca]) w3 (by simp [execOp, go_sem, Act.eval, *]) (Below.refl _ _) rfl
            · simp only [List.getElem?_toArray, List.getElem?_cons_succ, List.getElem?_cons_zero, Option.some.injEq] at ho
              subst ho
              refine ⟨rfl, ?_⟩
              have e19 : A_.tmps[19]?.getD undef = .pointer (some ⟨g19, 0, none⟩) := by rw [hI.low 19 (by decide)]; rfl
              clear hI hdep
              obtain ⟨⟨z0, z1⟩, ⟨⟨x0, x1⟩, y0, y1⟩, _⟩ := HF9.out w3 (HB10.out.trans (hh.mono HB10.out.size))
              exact .run rfl (.agg #[.slice E73 es.length c73, .slice A73 wl.length d73]) w3 (by simp [execOp, go_sem, Act.eval, *]) (Below.refl _ _) rfl
            · simp only [List.getElem?_toArray, List.getElem?_cons_succ, List.getElem?_cons_zero, Option.some.injEq] at ho
              subst ho
              refine ⟨rfl, ?_⟩
              have e99 : A_.tmps[99]?.getD undef = .agg #[.slice E es.length ce, .slice A l.length ca] := getD_of (hI.val_ (i := 0) rfl rfl (by decide) (hdep ⟨0, .data⟩ (by simp) rfl))
              have e100 : A_.tmps[100]?.getD undef = .agg #[.slice E73 es.length c73, .slice A73 wl.length d73] := getD_of (hI.val_ (i := 1) rfl rfl (by decide) (hdep ⟨1, .data⟩ (by simp) rfl))
              clear hI hdep
              exact .call rfl 19 #[.agg #[.slice E es.length ce, .slice A l.length ca], .agg #[.slice E73 es.length c73, .slice A73 wl.length d73]] (by simp [go_sem, Act.eval, e99, e100]) ((HEQ.out w3 (HB10.out.trans (hh.mono HB10.out.size))).mono fun _ _ ⟨h1_, h2_⟩ => ⟨⟨_, h1_, rfl⟩, h2_⟩)
            · simp only [List.getElem?_toArray, List.getElem?_cons_succ, List.getElem?_cons_zero, Option.some.injEq] at ho
              subst ho
              refine ⟨rfl, ?_⟩
              have e17 : A_.tmps[17]?.getD undef = .pointer (some ⟨g17, 0, none⟩) := by rw [hI.low 17 (by decide)]; rfl
              clear hI hdep
              obtain ⟨⟨z0, z1⟩, ⟨⟨x0, x1⟩, y0, y1⟩, _⟩ := HF9.out w3 (HB10.out.trans (hh.mono HB10.out.size))
              exact .run rfl (.agg #[.slice E2 es.length cx2, .slice A2 nl.length d2]) w3 (by simp [execOp, go_sem, Act.eval, *]) (Below.refl _ _) rfl
            · simp only [List.getElem?_toArray, List.getElem?_cons_succ, List.getElem?_cons_zero, Option.some.injEq] at ho
              subst ho
              refine ⟨rfl, ?_⟩
              have e19 : A_.tmps[19]?.getD undef = .pointer (some ⟨g19, 0, none⟩) := by rw [hI.low 19 (by decide)]; rfl
              clear hI hdep
              obtain ⟨⟨z0, z1⟩, ⟨⟨x0, x1⟩, y0, y1⟩, _⟩ := HF9.out w3 (HB10.out.trans (hh.mono HB10.out.size))
              exact .run rfl (.agg #[.slice E73 es.length c73, .slice A73 wl.length d73]) w3 (by simp [execOp, go_sem, Act.eval, *]) (Below.refl _ _) rfl
            · simp only [List.getElem?_toArray, List.getElem?_cons_succ, List.getElem?_cons_zero, Option.some.injEq] at ho
              subst ho
              refine ⟨rfl, ?_⟩
              have e102 : A_.tmps[102]?.getD undef = .agg #[.slice E2 es.length cx2, .slice A2 nl.length d2] := getD_of (hI.val_ (i := 3) rfl rfl (by decide) (hdep ⟨3, .data⟩ (by simp) rfl))
              have e103 : A_.tmps[103]?.getD undef = .agg #[.slice E73 es.length c73, .slice A73 wl.length d73] := getD_of (hI.val_ (i := 4) rfl rfl (by decide) (hdep ⟨4, .data⟩ (by simp) rfl))
              clear hI hdep
              exact .call rfl 16 #[.agg #[.slice E2 es.length cx2, .slice A2 nl.length d2], .agg #[.slice E73 es.length c73, .slice A73 wl.length d73]] (by simp [go_sem, Act.eval, e102, e103]) ((HSQ.out w3 (HB10.out.trans (hh.mono HB10.out.size))).mono fun _ _ ⟨h1_, h2_⟩ => ⟨⟨_, h1_, rfl⟩, h2_⟩)
            · simp only [List.getElem?_toArray, List.getElem?_cons_succ, List.getElem?_cons_zero, Option.some.injEq] at ho
              subst ho
              refine ⟨rfl, ?_⟩
              have e101 : A_.tmps[101]?.getD undef = .bool bq := getD_of (hI.val_ (i := 2) rfl rfl (by decide) (hdep ⟨2, .data⟩ (by simp) rfl))
              have e104 : A_.tmps[104]?.getD undef = .bool bq := getD_of (hI.val_ (i := 5) rfl rfl (by decide) (hdep ⟨5, .data⟩ (by simp) rfl))
              clear hI hdep
              exact .run rfl (.bool false) w3 (by simp [execOp, go_sem, Act.eval, e101, e104]) (Below.refl _ _) rfl
          case fin =>
          intro A_ w3 hs hd hlow hS hok
          obtain rfl : A_ = ⟨#[.slice a0 len0 cap0, .slice a1 len1 cap1, .agg #[.slice tE tn tc, .slice tA tm td], .agg #[.int .i64 qc, .int .i64 qh, .int .i64 qt, .int .i64 qk, .int .i64 qi], .int .i64 a4, .int .i64 a5, undef, undef, .pointer (some ⟨w.heap.size, 0, none⟩), .pointer (some ⟨w.heap.size + 1, 0, none⟩), undef, undef, u12, .slice (some ⟨g13, 0, none⟩) 2 2, .int .i64 (k : Int), .pointer (some ⟨g15, 0, none⟩), .slice (some ⟨g16, 0, none⟩) 2 2, .pointer (some ⟨g17, 0, none⟩), .int .i64 (j : Int), .pointer (some ⟨g19, 0, none⟩), .slice a0 len0 cap0, .slice a1 len1 cap1, .agg #[.slice E22 e0.length c22, .slice A22 l0.length d22], .agg #[.slice tE tn tc, .slice tA tm td], .agg #[.slice E24 e1.length c24, .slice A24 l1.length d24], .slice (some ⟨g25, 0, none⟩) 2 2, .int .i64 (k : Int), .bool true, u28, u29, .slice (some ⟨g13, 0, none⟩) 2 2, .int .i64 (k : Int), .pointer (some { block := g13, off := k * 2 }), .agg #[.slice E es.length ce, .slice A l.length ca], .agg #[.int .i64 qc, .int .i64 qh, .int .i64 qt, .int .i64 qk, .int .i64 qi], .int .i64 a5, .agg #[.int .i64 p.c, .int .i64 p.h, .int .i64 p.t, .int .i64 p.k, .int .i64 p.i], .slice (some ⟨g37, 0, none⟩) 2 2, .agg #[.slice E es.length ce, .slice A l.length ca], .agg #[.slice E2 es.length cx2, .slice A2 nl.length d2], .agg #[.slice E es.length ce, .slice A l.length ca], .agg #[.slice E41 es.length c41, .slice A41 nl.length d41], .agg #[.slice E2 es.length cx2, .slice A2 nl.length d2], .bool true, .bool false, .bool false, .agg #[.slice E es.length ce, .slice A l.length ca], .int .i64 ((es.length : Int) + (nl.length : Int)), .pointer (some ⟨g17, 0, none⟩), .slice E2 es.length cx2, .int .i64 (es.length : Int), .pointer (some ⟨g17, 1, none⟩), .slice A2 nl.length d2, .int .i64 (nl.length : Int), .int .i64 ((es.length : Int) + (nl.length : Int)), .bool false, .bool false, .bool false, .agg #[.slice E es.length ce, .slice A l.length ca], .agg #[.slice E2 es.length cx2, .slice A2 nl.length d2], .bool true, .bool false, .bool false, .int .i64 (j : Int), .bool true, u65, u66, .agg #[.slice E es.length ce, .slice A l.length ca], .slice (some ⟨g16, 0, none⟩) 2 2, .int .i64 (j : Int), .pointer (some { block := g16, off := j * 5 }), .agg #[.int .i64 q.c, .int .i64 q.h, .int .i64 q.t, .int .i64 q.k, .int .i64 q.i], .int .i64 a4, .agg #[.slice E73 es.length c73, .slice A73 wl.length d73], .agg #[.slice E es.length ce, .slice A l.length ca], .slice (some ⟨g16, 0, none⟩) 2 2, .int .i64 (j : Int), .pointer (some { block := g16, off := j * 5 }), .agg #[.int .i64 q.c, .int .i64 q.h, .int .i64 q.t, .int .i64 q.k, .int .i64 q.i], .int .i64 gv, .agg #[.slice E es.length ce, .slice A l.length ca], .slice (some ⟨g16, 0, none⟩) 2 2, .int .i64 (j : Int), .pointer (some { block := g16, off := j * 5 }), .agg #[.int .i64 q.c, .int .i64 q.h, .int .i64 q.t, .int .i64 q.k, .int .i64 q.i], .int .i64 gv, .bool false, .bool false, .agg #[.slice E es.length ce, .slice A l.length ca], .slice (some ⟨g16, 0, none⟩) 2 2, .int .i64 (j : Int), .pointer (some { block := g16, off := j * 5 }), .agg #[.int .i64 q.c, .int .i64 q.h, .int .i64 q.t, .int .i64 q.k, .int .i64 q.i], .int .i64 a4, .agg #[.slice E94 es.length c94, .slice A94 wl.length d94], .agg #[.slice E73 es.length c73, .slice A73 wl.length d73], .bool true, .bool false, .bool false, .agg #[.slice E es.length ce, .slice A l.length ca], .agg #[.slice E73 es.length c73, .slice A73 wl.length d73], .bool bq, .agg #[.slice E2 es.length cx2, .slice A2 nl.length d2], .agg #[.slice E73 es.length c73, .slice A73 wl.length d73], .bool bq, .bool false, undef, undef, undef, undef, undef, undef, undef, undef, undef, undef, undef, undef, undef, undef, undef, undef, undef, undef, undef, undef], []⟩ := act_ext hd hs (fun j hj => match j, hj with | 0, _ => (hlow 0 (by decide)).trans rfl | 1, _ => (hlow 1 (by decide)).trans rfl | 2, _ => (hlow 2 (by decide)).trans rfl | 3, _ => (hlow 3 (by decide)).trans rfl | 4, _ => (hlow 4 (by decide)).trans rfl | 5, _ => (hlow 5 (by decide)).trans rfl | 6, _ => (hlow 6 (by decide)).trans rfl | 7, _ => (hlow 7 (by decide)).trans rfl | 8, _ => (hlow 8 (by decide)).trans rfl | 9, _ => (hlow 9 (by decide)).trans rfl | 10, _ => (hlow 10 (by decide)).trans rfl | 11, _ => (hlow 11 (by decide)).trans rfl | 12, _ => (hlow 12 (by decide)).trans rfl | 13, _ => (hlow 13 (by decide)).trans rfl | 14, _ => (hlow 14 (by decide)).trans rfl | 15, _ => (hlow 15 (by decide)).trans rfl | 16, _ => (hlow 16 (by decide)).trans rfl | 17, _ => (hlow 17 (by decide)).trans rfl | 18, _ => (hlow 18 (by decide)).trans rfl | 19, _ => (hlow 19 (by decide)).trans rfl | 20, _ => (hlow 20 (by decide)).trans rfl | 21, _ => (hlow 21 (by decide)).trans rfl | 22, _ => (hlow 22 (by decide)).trans rfl | 23, _ => (hlow 23 (by decide)).trans rfl | 24, _ => (hlow 24 (by decide)).trans rfl | 25, _ => (hlow 25 (by decide)).trans rfl | 26, _ => (hlow 26 (by decide)).trans rfl | 27, _ => (hlow 27 (by decide)).trans rfl | 28, _ => (hlow 28 (by decide)).trans rfl | 29, _ => (hlow 29 (by decide)).trans rfl | 30, _ => (hlow 30 (by decide)).trans rfl | 31, _ => (hlow 31 (by decide)).trans rfl | 32, _ => (hlow 32 (by decide)).trans rfl | 33, _ => (hlow 33 (by decide)).trans rfl | 34, _ => (hlow 34 (by decide)).trans rfl | 35, _ => (hlow 35 (by decide)).trans rfl | 36, _ => (hlow 36 (by decide)).trans rfl | 37, _ => (hlow 37 (by decide)).trans rfl | 38, _ => (hlow 38 (by decide)).trans rfl | 39, _ => (hlow 39 (by decide)).trans rfl | 40, _ => (hlow 40 (by decide)).trans rfl | 41, _ => (hlow 41 (by decide)).trans rfl | 42, _ => (hlow 42 (by decide)).trans rfl | 43, _ => (hlow 43 (by decide)).trans rfl | 44, _ => (hlow 44 (by decide)).trans rfl | 45, _ => (hlow 45 (by decide)).trans rfl | 46, _ => (hlow 46 (by decide)).trans rfl | 47, _ => (hlow 47 (by decide)).trans rfl | 48, _ => (hlow 48 (by decide)).trans rfl | 49, _ => (hlow 49 (by decide)).trans rfl | 50, _ => (hlow 50 (by decide)).trans rfl | 51, _ => (hlow 51 (by decide)).trans rfl | 52, _ => (hlow 52 (by decide)).trans rfl | 53, _ => (hlow 53 (by decide)).trans rfl | 54, _ => (hlow 54 (by decide)).trans rfl | 55, _ => (hlow 55 (by decide)).trans rfl | 56, _ => (hlow 56 (by decide)).trans rfl | 57, _ => (hlow 57 (by decide)).trans rfl | 58, _ => (hlow 58 (by decide)).trans rfl | 59, _ => (hlow 59 (by decide)).trans rfl | 60, _ => (hlow 60 (by decide)).trans rfl | 61, _ => (hlow 61 (by decide)).trans rfl | 62, _ => (hlow 62 (by decide)).trans rfl | 63, _ => (hlow 63 (by decide)).trans rfl | 64, _ => (hlow 64 (by decide)).trans rfl | 65, _ => (hlow 65 (by decide)).trans rfl | 66, _ => (hlow 66 (by decide)).trans rfl | 67, _ => (hlow 67 (by decide)).trans rfl | 68, _ => (hlow 68 (by decide)).trans rfl | 69, _ => (hlow 69 (by decide)).trans rfl | 70, _ => (hlow 70 (by decide)).trans rfl | 71, _ => (hlow 71 (by decide)).trans rfl | 72, _ => (hlow 72 (by decide)).trans rfl | 73, _ => (hlow 73 (by decide)).trans rfl | 74, _ => (hlow 74 (by decide)).trans rfl | 75, _ => (hlow 75 (by decide)).trans rfl | 76, _ => (hlow 76 (by decide)).trans rfl | 77, _ => (hlow 77 (by decide)).trans rfl | 78, _ => (hlow 78 (by decide)).trans rfl | 79, _ => (hlow 79 (by decide)).trans rfl | 80, _ => (hlow 80 (by decide)).trans rfl | 81, _ => (hlow 81 (by decide)).trans rfl | 82, _ => (hlow 82 (by decide)).trans rfl | 83, _ => (hlow 83 (by decide)).trans rfl | 84, _ => (hlow 84 (by decide)).trans rfl | 85, _ => (hlow 85 (by decide)).trans rfl | 86, _ => (hlow 86 (by decide)).trans rfl | 87, _ => (hlow 87 (by decide)).trans rfl | 88, _ => (hlow 88 (by decide)).trans rfl | 89, _ => (hlow 89 (by decide)).trans rfl | 90, _ => (hlow 90 (by decide)).trans rfl | 91, _ => (hlow 91 (by decide)).trans rfl | 92, _ => (hlow 92 (by decide)).trans rfl | 93, _ => (hlow 93 (by decide)).trans rfl | 94, _ => (hlow 94 (by decide)).trans rfl | 95, _ => (hlow 95 (by decide)).trans rfl | 96, _ => (hlow 96 (by decide)).trans rfl | 97, _ => (hlow 97 (by decide)).trans rfl | 98, _ => (hlow 98 (by decide)).trans rfl | 99, _ => RgX.val_at (hok 0 99 _ (by decide) rfl rfl) | 100, _ => RgX.val_at (hok 1 100 _ (by decide) rfl rfl) | 101, _ => RgX.val_at (hok 2 101 _ (by decide) rfl rfl) | 102, _ => RgX.val_at (hok 3 102 _ (by decide) rfl rfl) | 103, _ => RgX.val_at (hok 4 103 _ (by decide) rfl rfl) | 104, _ => RgX.val_at (hok 5 104 _ (by decide) rfl rfl) | 105, _ => RgX.val_at (hok 6 105 _ (by decide) rfl rfl) | 106, _ => (hlow 106 (by decide)).trans rfl | 107, _ => (hlow 107 (by decide)).trans rfl | 108, _ => (hlow 108 (by decide)).trans rfl | 109, _ => (hlow 109 (by decide)).trans rfl | 110, _ => (hlow 110 (by decide)).trans rfl | 111, _ => (hlow 111 (by decide)).trans rfl | 112, _ => (hlow 112 (by decide)).trans rfl | 113, _ => (hlow 113 (by decide)).trans rfl | 114, _ => (hlow 114 (by decide)).trans rfl | 115, _ => (hlow 115 (by decide)).trans rfl | 116, _ => (hlow 116 (by decide)).trans rfl | 117, _ => (hlow 117 (by decide)).trans rfl | 118, _ => (hlow 118 (by decide)).trans rfl | 119, _ => (hlow 119 (by decide)).trans rfl | 120, _ => (hlow 120 (by decide)).trans rfl | 121, _ => (hlow 121 (by decide)).trans rfl | 122, _ => (hlow 122 (by decide)).trans rfl | 123, _ => (hlow 123 (by decide)).trans rfl | 124, _ => (hlow 124 (by decide)).trans rfl | 125, _ => (hlow 125 (by decide)).trans rfl | n + 126, h => absurd h (by show ¬ n + 126 < 126; omega))
          clear hs hd hlow hok 
          have HB11 := Lib.hid (show Below U7.heap.size U7 w3 from HB9.out.trans ((HB10.out.trans (hS.mono HB10.out.size)).mono HB9.out.size))
          clear hS
          go_wp2_with fail
          go_roundw
          case rel => exact ⟨j + 1, by omega, by go_num, HB11⟩
          case measure => simp [intOf]; omega
        · have dj : decide ((j : Int) < 2) = false := decide_eq_false (by omega)
          have HVn := Lib.hid (HV8.out.trans (HB8.out.mono HV8.out.size))
          go_wp2_with fail
          go_roundw
          case rel => exact ⟨k + 1, by omega, by go_num, HVn⟩
          case measure => simp [intOf]; omega
    · have dk : decide ((k : Int) < 2) = false := decide_eq_false (by omega)
      obtain ⟨E, c, A, d, E', c', A', d', kk, t0, t1⟩ := HTW.out.keep HV.out
      have hF0 := F0.out
      have hF1 := F1.out
      have HI0 := Lib.hid (fun (V : World) (hV : Below wr.heap.size wr V) => TapeIs.tin (t0.keep hV) (by omega) (by omega))
      have HI1 := Lib.hid (fun (V : World) (hV : Below wr.heap.size wr V) => TapeIs.tin (t1.keep hV) (by omega) (by omega))
      have HR := Lib.hid (fun (V : World) (hV : Below wr.heap.size wr V) => And.intro (And.intro (cell_of_row V g13 0 _ _ (0, 0) ((hV.block g13 (heap_lt kk)).trans kk)) (cell_of_row V g13 1 _ _ (0, 0) ((hV.block g13 (heap_lt kk)).trans kk))) (And.intro (cell_of_row V g13 2 _ _ (0, 0) ((hV.block g13 (heap_lt kk)).trans kk)) (cell_of_row V g13 3 _ _ (0, 0) ((hV.block g13 (heap_lt kk)).trans kk))))
      obtain ⟨n0, hn0⟩ : ∃ x, TP.normA l0 = x := ⟨_, rfl⟩
      obtain ⟨n1, hn1⟩ : ∃ x, TP.normA l1 = x := ⟨_, rfl⟩
      have HN := Lib.hid (And.intro hn0 hn1)
      obtain ⟨bq, hbq⟩ : ∃ b, decide (e0 = e1 ∧ n0 = n1) = b := ⟨_, rfl⟩
      have HEQ := Lib.hid (fun (V : World) (hV : Below wr.heap.size wr V) => show Calls Try.prog 19 #[.agg #[.slice E e0.length c, .slice A l0.length d], .agg #[.slice E' e1.length c', .slice A' l1.length d']] V fun e w' => e = .returned (.bool bq) ∧ Below V.heap.size V w' from by
        have := equalP_any (d1 := d) (d2 := d') V (HI0.out V hV) (HI1.out V hV)
        rw [hn0, hn1, hbq] at this
        exact this)
      have HSQ := Lib.hid (fun (V : World) {X0 Y0 X1 Y1 : Option Addr} {x0 y0 x1 y1 : Nat} (h1 : TIn V X0 e0.length x0 Y0 n0.length e0 n0) (h2 : TIn V X1 e1.length x1 Y1 n1.length e1 n1) => show Calls Try.prog 16 #[.agg #[.slice X0 e0.length x0, .slice Y0 n0.length y0], .agg #[.slice X1 e1.length x1, .slice Y1 n1.length y1]] V fun e w' => e = .returned (.bool bq) ∧ Below V.heap.size V w' from by
        have := refSame_any (c1 := x0) (d1 := y0) (c2 := x1) (d2 := y1) V h1.ev h1.an h2.ev h2.an h1.be h1.ba
        rw [hbq] at this
        exact this)
      have hf0 := hF0.1
      have hf1 := hF0.2.1
      have hf2 := hF1.1
      have hf3 := hF1.2.1
      clear kk t0 t1 hn0 hn1 hbq hF0 hF1
      go_upto_region 18 with (fail)
      refine RgX.regionB 21 (fun i => (if i = 20 then 12 else 106 + i)) (fun ix_ => match ix_ with | 0 => .v (.slice (some ⟨g13, 0, none⟩) 2 2) | 1 => .v (.pointer (some ⟨g13, 0, none⟩)) | 2 => .v (.agg #[.slice E e0.length c, .slice A l0.length d]) | 3 => .v (.slice (some ⟨g13, 0, none⟩) 2 2) | 4 => .v (.pointer (some ⟨g13, 2, none⟩)) | 5 => .v (.agg #[.slice E' e1.length c', .slice A' l1.length d']) | 6 => .v (.bool bq) | 7 => .v (.slice (some ⟨g13, 0, none⟩) 2 2) | 8 => .v (.pointer (some ⟨g13, 0, none⟩)) | 9 => .v (.agg #[.slice E e0.length c, .slice A l0.length d]) | 10 => .tin e0 n0 | 11 => .v (.slice (some ⟨g13, 0, none⟩) 2 2) | 12 => .v (.pointer (some ⟨g13, 2, none⟩)) | 13 => .v (.agg #[.slice E' e1.length c', .slice A' l1.length d']) | 14 => .tin e1 n1 | 15 => .v (.bool bq) | 16 => .v (.bool true) | 17 => .v (.bool true) | 18 => .v (.bool true) | 19 => .v (.bool true) | 20 => .v (.bool true) | _ => .any) (by kernel_rfl) rfl (by kernel_rfl)  (fun i hi => by show (if i = 20 then 12 else 106 + i) < 126; (repeat' split) <;> omega) (fun i j hi hj => by show (if i = 20 then 12 else 106 + i) = (if j = 20 then 12 else 106 + j) → i = j; (repeat' split) <;> omega) ?step ?fin
      case step =>
        intro L_ A_ w3 ix op_ hI ho hdep
        have hi : ix < 21 := (Array.getElem?_eq_some_iff.1 ho).1
        have hcase : ix = 0 ∨ ix = 1 ∨ ix = 2 ∨ ix = 3 ∨ ix = 4 ∨ ix = 5 ∨ ix = 6 ∨ ix = 7 ∨ ix = 8 ∨ ix = 9 ∨ ix = 10 ∨ ix = 11 ∨ ix = 12 ∨ ix = 13 ∨ ix = 14 ∨ ix = 15 ∨ ix = 16 ∨ ix = 17 ∨ ix = 18 ∨ ix = 19 ∨ ix = 20 := by omega
        have hh := hI.held
        clear hi
        rcases hcase with rfl | rfl | rfl | rfl | rfl | rfl | rfl | rfl | rfl | rfl | rfl | rfl | rfl | rfl | rfl | rfl | rfl | rfl | rfl | rfl | rfl
        · simp only [List.getElem?_toArray, List.getElem?_cons_zero, Option.some.injEq] at ho
          subst ho
          refine ⟨rfl, ?_⟩
          have e13 : A_.tmps[13]?.getD undef = .slice (some ⟨g13, 0, none⟩) 2 2 := by rw [hI.low 13 (by decide)]; rfl
          clear hI hdep
          exact .run rfl (.slice (some ⟨g13, 0, none⟩) 2 2) w3 (by simp [execOp, go_sem, Act.eval, e13]) (Below.refl _ _) rfl
        · simp only [List.getElem?_toArray, List.getElem?_cons_succ, List.getElem?_cons_zero, Option.some.injEq] at ho
          subst ho
          refine ⟨rfl, ?_⟩
          have e106 : A_.tmps[106]?.getD undef = .slice (some ⟨g13, 0, none⟩) 2 2 := getD_of (hI.val_ (i := 0) rfl rfl (by decide) (hdep ⟨0, .data⟩ (by simp) rfl))
          clear hI hdep
          exact .run rfl (.pointer (some ⟨g13, 0, none⟩)) w3 (by simp [execOp, go_sem, Act.eval, e106]) (Below.refl _ _) rfl
        · simp only [List.getElem?_toArray, List.getElem?_cons_succ, List.getElem?_cons_zero, Option.some.injEq] at ho
          subst ho
          refine ⟨rfl, ?_⟩
          have e107 : A_.tmps[107]?.getD undef = .pointer (some ⟨g13, 0, none⟩) := getD_of (hI.val_ (i := 1) rfl rfl (by decide) (hdep ⟨1, .data⟩ (by simp) rfl))
          clear hI hdep
          obtain ⟨⟨s0, s1⟩, s2, s3⟩ := HR.out w3 hh
          exact .run rfl (.agg #[.slice E e0.length c, .slice A l0.length d]) w3 (by simp [execOp, go_sem, Act.eval, e107, s0, s1]) (Below.refl _ _) rfl
        · simp only [List.getElem?_toArray, List.getElem?_cons_succ, List.getElem?_cons_zero, Option.some.injEq] at ho
          subst ho
          refine ⟨rfl, ?_⟩
          have e13 : A_.tmps[13]?.getD undef = .slice (some ⟨g13, 0, none⟩) 2 2 := by rw [hI.low 13 (by decide)]; rfl
          clear hI hdep
          exact .run rfl (.slice (some ⟨g13, 0, none⟩) 2 2) w3 (by simp [execOp, go_sem, Act.eval, e13]) (Below.refl _ _) rfl
        · simp only [List.getElem?_toArray, List.getElem?_cons_succ, List.getElem?_cons_zero, Option.some.injEq] at ho
          subst ho
          refine ⟨rfl, ?_⟩
          have e109 : A_.tmps[109]?.getD undef = .slice (some ⟨g13, 0, none⟩) 2 2 := getD_of (hI.val_ (i := 3) rfl rfl (by decide) (hdep ⟨3, .data⟩ (by simp) rfl))
          clear hI hdep
          exact .run rfl (.pointer (some ⟨g13, 2, none⟩)) w3 (by simp [execOp, go_sem, Act.eval, e109]) (Below.refl _ _) rfl
        · simp only [List.getElem?_toArray, List.getElem?_cons_succ, List.getElem?_cons_zero, Option.some.injEq] at ho
          subst ho
          refine ⟨rfl, ?_⟩
          have e110 : A_.tmps[110]?.getD undef = .pointer (some ⟨g13, 2, none⟩) := getD_of (hI.val_ (i := 4) rfl rfl (by decide) (hdep ⟨4, .data⟩ (by simp) rfl))
          clear hI hdep
          obtain ⟨⟨s0, s1⟩, s2, s3⟩ := HR.out w3 hh
          exact .run rfl (.agg #[.slice E' e1.length c', .slice A' l1.length d']) w3 (by simp [execOp, go_sem, Act.eval, e110, s2, s3]) (Below.refl _ _) rfl
        · simp only [List.getElem?_toArray, List.getElem?_cons_succ, List.getElem?_cons_zero, Option.some.injEq] at ho
          subst ho
          refine ⟨rfl, ?_⟩
          have e108 : A_.tmps[108]?.getD undef = .agg #[.slice E e0.length c, .slice A l0.length d] := getD_of (hI.val_ (i := 2) rfl rfl (by decide) (hdep ⟨2, .data⟩ (by simp) rfl))
          have e111 : A_.tmps[111]?.getD undef = .agg #[.slice E' e1.length c', .slice A' l1.length d'] := getD_of (hI.val_ (i := 5) rfl rfl (by decide) (hdep ⟨5, .data⟩ (by simp) rfl))
          clear hI hdep
          exact .call rfl 19 #[.agg #[.slice E e0.length c, .slice A l0.length d], .agg #[.slice E' e1.length c', .slice A' l1.length d']] (by simp [go_sem, Act.eval, e108, e111]) ((HEQ.out w3 hh).mono fun _ _ ⟨h1_, h2_⟩ => ⟨⟨_, h1_, rfl⟩, h2_⟩)
        · simp only [List.getElem?_toArray, List.getElem?_cons_succ, List.getElem?_cons_zero, Option.some.injEq] at ho
          subst ho
          refine ⟨rfl, ?_⟩
          have e13 : A_.tmps[13]?.getD undef = .slice (some ⟨g13, 0, none⟩) 2 2 := by rw [hI.low 13 (by decide)]; rfl
          clear hI hdep
          exact .run rfl (.slice (some ⟨g13, 0, none⟩) 2 2) w3 (by simp [execOp, go_sem, Act.eval, e13]) (Below.refl _ _) rfl
        · simp only [List.getElem?_toArray, List.getElem?_cons_succ, List.getElem?_cons_zero, Option.some.injEq] at ho
          subst ho
          refine ⟨rfl, ?_⟩
          have e113 : A_.tmps[113]?.getD undef = .slice (some ⟨g13, 0, none⟩) 2 2 := getD_of (hI.val_ (i := 7) rfl rfl (by decide) (hdep ⟨7, .data⟩ (by simp) rfl))
          clear hI hdep
          exact .run rfl (.pointer (some ⟨g13, 0, none⟩)) w3 (by simp [execOp, go_sem, Act.eval, e113]) (Below.refl _ _) rfl
        · simp only [List.getElem?_toArray, List.getElem?_cons_succ, List.getElem?_cons_zero, Option.some.injEq] at ho
          subst ho
          refine ⟨rfl, ?_⟩
          have e114 : A_.tmps[114]?.getD undef = .pointer (some ⟨g13, 0, none⟩) := getD_of (hI.val_ (i := 8) rfl rfl (by decide) (hdep ⟨8, .data⟩ (by simp) rfl))
          clear hI hdep
          obtain ⟨⟨s0, s1⟩, s2, s3⟩ := HR.out w3 hh
          exact .run rfl (.agg #[.slice E e0.length c, .slice A l0.length d]) w3 (by simp [execOp, go_sem, Act.eval, e114, s0, s1]) (Below.refl _ _) rfl
        · simp only [List.getElem?_toArray, List.getElem?_cons_succ, List.getElem?_cons_zero, Option.some.injEq] at ho
          subst ho
          refine ⟨rfl, ?_⟩
          have e115 : A_.tmps[115]?.getD undef = .agg #[.slice E e0.length c, .slice A l0.length d] := getD_of (hI.val_ (i := 9) rfl rfl (by decide) (hdep ⟨9, .data⟩ (by simp) rfl))
          clear hI hdep
          exact .call rfl 15 #[.agg #[.slice E e0.length c, .slice A l0.length d]] (by simp [go_sem, Act.eval, e115]) (refNormal_tin w3 (HI0.out w3 hh) hf0 (by omega) HN.out.1)
        · simp only [List.getElem?_toArray, List.getElem?_cons_succ, List.getElem?_cons_zero, Option.some.injEq] at ho
          subst ho
          refine ⟨rfl, ?_⟩
          have e13 : A_.tmps[13]?.getD undef = .slice (some ⟨g13, 0, none⟩) 2 2 := by rw [hI.low 13 (by decide)]; rfl
          clear hI hdep
          exact .run rfl (.slice (some ⟨g13, 0, none⟩) 2 2) w3 (by simp [execOp, go_sem, Act.eval, e13]) (Below.refl _ _) rfl
        · simp only [List.getElem?_toArray, List.getElem?_cons_succ, List.getElem?_cons_zero, Option.some.injEq] at ho
          subst ho
          refine ⟨rfl, ?_⟩
          have e117 : A_.tmps[117]?.getD undef = .slice (some ⟨g13, 0, none⟩) 2 2 := getD_of (hI.val_ (i := 11) rfl rfl (by decide) (hdep ⟨11, .data⟩ (by simp) rfl))
          clear hI hdep
          exact .run rfl (.pointer (some ⟨g13, 2, none⟩)) w3 (by simp [execOp, go_sem, Act.eval, e117]) (Below.refl _ _) rfl
        · simp only [List.getElem?_toArray, List.getElem?_cons_succ, List.getElem?_cons_zero, Option.some.injEq] at ho
          subst ho
          refine ⟨rfl, ?_⟩
          have e118 : A_.tmps[118]?.getD undef = .pointer (some ⟨g13, 2, none⟩) := getD_of (hI.val_ (i := 12) rfl rfl (by decide) (hdep ⟨12, .data⟩ (by simp) rfl))
          clear hI hdep
          obtain ⟨⟨s0, s1⟩, s2, s3⟩ := HR.out w3 hh
          exact .run rfl (.agg #[.slice E' e1.length c', .slice A' l1.length d']) w3 (by simp [execOp, go_sem, Act.eval, e118, s2, s3]) (Below.refl _ _) rfl
        · simp only [List.getElem?_toArray, List.getElem?_cons_succ, List.getElem?_cons_zero, Option.some.injEq] at ho
          subst ho
          refine ⟨rfl, ?_⟩
          have e119 : A_.tmps[119]?.getD undef = .agg #[.slice E' e1.length c', .slice A' l1.length d'] := getD_of (hI.val_ (i := 13) rfl rfl (by decide) (hdep ⟨13, .data⟩ (by simp) rfl))
          clear hI hdep
          exact .call rfl 15 #[.agg #[.slice E' e1.length c', .slice A' l1.length d']] (by simp [go_sem, Act.eval, e119]) (refNormal_tin w3 (HI1.out w3 hh) hf2 (by omega) HN.out.2)
        · simp only [List.getElem?_toArray, List.getElem?_cons_succ, List.getElem?_cons_zero, Option.some.injEq] at ho
          subst ho
          refine ⟨rfl, ?_⟩
          obtain ⟨_, e116, E116, c116, A116, d116, rfl, h116⟩ := hI.get_ (i := 10) (j := 116) rfl rfl (by decide) (hdep ⟨10, .data⟩ (by simp) rfl)
          obtain ⟨_, e120, E120, c120, A120, d120, rfl, h120⟩ := hI.get_ (i := 14) (j := 120) rfl rfl (by decide) (hdep ⟨14, .data⟩ (by simp) rfl)
          clear hI hdep
          exact .call rfl 16 #[.agg #[.slice E116 e0.length c116, .slice A116 n0.length d116], .agg #[.slice E120 e1.length c120, .slice A120 n1.length d120]] (by simp [go_sem, Act.eval, e116, e120]) ((HSQ.out w3 h116 h120).mono fun _ _ ⟨h1_, h2_⟩ => ⟨⟨_, h1_, rfl⟩, h2_⟩)
        · simp only [List.getElem?_toArray, List.getElem?_cons_succ, List.getElem?_cons_zero, Option.some.injEq] at ho
          subst ho
          refine ⟨rfl, ?_⟩
          have e112 : A_.tmps[112]?.getD undef = .bool bq := getD_of (hI.val_ (i := 6) rfl rfl (by decide) (hdep ⟨6, .data⟩ (by simp) rfl))
          have e121 : A_.tmps[121]?.getD undef = .bool bq := getD_of (hI.val_ (i := 15) rfl rfl (by decide) (hdep ⟨15, .data⟩ (by simp) rfl))
          clear hI hdep
          exact .run rfl (.bool true) w3 (by simp [execOp, go_sem, Act.eval, e112, e121]) (Below.refl _ _) rfl
        · simp only [List.getElem?_toArray, List.getElem?_cons_succ, List.getElem?_cons_zero, Option.some.injEq] at ho
          subst ho
          refine ⟨rfl, ?_⟩
          have e122 : A_.tmps[122]?.getD undef = .bool true := getD_of (hI.val_ (i := 16) rfl rfl (by decide) (hdep ⟨16, .data⟩ (by simp) rfl))
          clear hI hdep
          exact .run rfl (.bool true) w3 (by simp [execOp, go_sem, Act.eval, e122]) (Below.refl _ _) rfl
        · simp only [List.getElem?_toArray, List.getElem?_cons_succ, List.getElem?_cons_zero, Option.some.injEq] at ho
          subst ho
          refine ⟨rfl, ?_⟩
          have q123 : A_.tmps[123]? = some (.bool true) := hI.val_ (i := 17) rfl rfl (by decide) (hdep ⟨17, .guard⟩ (by simp) rfl)
          clear hI hdep
          exact .call ((wanted_some rfl rfl q123).trans rfl) 24 #[] (by simp [go_sem]) ((lives_any w3).mono fun _ _ ⟨h1_, h2_⟩ => ⟨⟨_, h1_, rfl⟩, h2_⟩)
        · simp only [List.getElem?_toArray, List.getElem?_cons_succ, List.getElem?_cons_zero, Option.some.injEq] at ho
          subst ho
          refine ⟨rfl, ?_⟩
          have e123 : A_.tmps[123]?.getD undef = .bool true := getD_of (hI.val_ (i := 17) rfl rfl (by decide) (hdep ⟨17, .data⟩ (by simp) rfl))
          have e124 : A_.tmps[124]?.getD undef = .bool true := getD_of (hI.val_ (i := 18) rfl rfl (by decide) (hdep ⟨18, .data⟩ (by simp) rfl))
          clear hI hdep
          exact .run rfl (.bool true) w3 (by simp [execOp, go_sem, Act.eval, e123, e124]) (Below.refl _ _) rfl
        · simp only [List.getElem?_toArray, List.getElem?_cons_succ, List.getElem?_cons_zero, Option.some.injEq] at ho
          subst ho
          refine ⟨rfl, ?_⟩
          have e125 : A_.tmps[125]?.getD undef = .bool true := getD_of (hI.val_ (i := 19) rfl rfl (by decide) (hdep ⟨19, .data⟩ (by simp) rfl))
          clear hI hdep
          exact .run rfl (.bool true) w3 (by simp [execOp, go_sem, Act.eval, e125]) (Below.refl _ _) rfl
      case fin =>
      intro A_ w3 hs hd hlow hS hok
      obtain ⟨_, hy116, E116, c116, A116, d116, rfl, h116⟩ := hok 10 116 _ (by decide) rfl rfl
      obtain ⟨_, hy120, E120, c120, A120, d120, rfl, h120⟩ := hok 14 120 _ (by decide) rfl rfl
      obtain rfl : A_ = ⟨#[.slice a0 len0 cap0, .slice a1 len1 cap1, .agg #[.slice tE tn tc, .slice tA tm td], .agg #[.int .i64 qc, .int .i64 qh, .int .i64 qt, .int .i64 qk, .int .i64 qi], .int .i64 a4, .int .i64 a5, undef, undef, .pointer (some ⟨w.heap.size, 0, none⟩), .pointer (some ⟨w.heap.size + 1, 0, none⟩), undef, undef, .bool true, .slice (some ⟨g13, 0, none⟩) 2 2, .int .i64 (k : Int), u15, u16, u17, u18, u19, .slice a0 len0 cap0, .slice a1 len1 cap1, .agg #[.slice E22 e0.length c22, .slice A22 l0.length d22], .agg #[.slice tE tn tc, .slice tA tm td], .agg #[.slice E24 e1.length c24, .slice A24 l1.length d24], .slice (some ⟨g25, 0, none⟩) 2 2, .int .i64 (k : Int), .bool false, u28, u29, u30, u31, u32, u33, u34, u35, u36, u37, u38, u39, u40, u41, u42, u43, u44, u45, u46, u47, u48, u49, u50, u51, u52, u53, u54, u55, u56, u57, u58, u59, u60, u61, u62, u63, u64, u65, u66, u67, u68, u69, u70, u71, u72, u73, u74, u75, u76, u77, u78, u79, u80, u81, u82, u83, u84, u85, u86, u87, u88, u89, u90, u91, u92, u93, u94, u95, u96, u97, u98, u99, u100, u101, u102, u103, u104, u105, .slice (some ⟨g13, 0, none⟩) 2 2, .pointer (some ⟨g13, 0, none⟩), .agg #[.slice E e0.length c, .slice A l0.length d], .slice (some ⟨g13, 0, none⟩) 2 2, .pointer (some ⟨g13, 2, none⟩), .agg #[.slice E' e1.length c', .slice A' l1.length d'], .bool bq, .slice (some ⟨g13, 0, none⟩) 2 2, .pointer (some ⟨g13, 0, none⟩), .agg #[.slice E e0.length c, .slice A l0.length d], .agg #[.slice E116 e0.length c116, .slice A116 n0.length d116], .slice (some ⟨g13, 0, none⟩) 2 2, .pointer (some ⟨g13, 2, none⟩), .agg #[.slice E' e1.length c', .slice A' l1.length d'], .agg #[.slice E120 e1.length c120, .slice A120 n1.length d120], .bool bq, .bool true, .bool true, .bool true, .bool true], []⟩ := act_ext hd hs (fun j hj => match j, hj with | 0, _ => (hlow 0 (by decide)).trans rfl | 1, _ => (hlow 1 (by decide)).trans rfl | 2, _ => (hlow 2 (by decide)).trans rfl | 3, _ => (hlow 3 (by decide)).trans rfl | 4, _ => (hlow 4 (by decide)).trans rfl | 5, _ => (hlow 5 (by decide)).trans rfl | 6, _ => (hlow 6 (by decide)).trans rfl | 7, _ => (hlow 7 (by decide)).trans rfl | 8, _ => (hlow 8 (by decide)).trans rfl | 9, _ => (hlow 9 (by decide)).trans rfl | 10, _ => (hlow 10 (by decide)).trans rfl | 11, _ => (hlow 11 (by decide)).trans rfl | 12, _ => RgX.val_at (hok 20 12 _ (by decide) rfl rfl) | 13, _ => (hlow 13 (by decide)).trans rfl | 14, _ => (hlow 14 (by decide)).trans rfl | 15, _ => (hlow 15 (by decide)).trans rfl | 16, _ => (hlow 16 (by decide)).trans rfl | 17, _ => (hlow 17 (by decide)).trans rfl | 18, _ => (hlow 18 (by decide)).trans rfl | 19, _ => (hlow 19 (by decide)).trans rfl | 20, _ => (hlow 20 (by decide)).trans rfl | 21, _ => (hlow 21 (by decide)).trans rfl | 22, _ => (hlow 22 (by decide)).trans rfl | 23, _ => (hlow 23 (by decide)).trans rfl | 24, _ => (hlow 24 (by decide)).trans rfl | 25, _ => (hlow 25 (by decide)).trans rfl | 26, _ => (hlow 26 (by decide)).trans rfl | 27, _ => (hlow 27 (by decide)).trans rfl | 28, _ => (hlow 28 (by decide)).trans rfl | 29, _ => (hlow 29 (by decide)).trans rfl | 30, _ => (hlow 30 (by decide)).trans rfl | 31, _ => (hlow 31 (by decide)).trans rfl | 32, _ => (hlow 32 (by decide)).trans rfl | 33, _ => (hlow 33 (by decide)).trans rfl | 34, _ => (hlow 34 (by decide)).trans rfl | 35, _ => (hlow 35 (by decide)).trans rfl | 36, _ => (hlow 36 (by decide)).trans rfl | 37, _ => (hlow 37 (by decide)).trans rfl | 38, _ => (hlow 38 (by decide)).trans rfl | 39, _ => (hlow 39 (by decide)).trans rfl | 40, _ => (hlow 40 (by decide)).trans rfl | 41, _ => (hlow 41 (by decide)).trans rfl | 42, _ => (hlow 42 (by decide)).trans rfl | 43, _ => (hlow 43 (by decide)).trans rfl | 44, _ => (hlow 44 (by decide)).trans rfl | 45, _ => (hlow 45 (by decide)).trans rfl | 46, _ => (hlow 46 (by decide)).trans rfl | 47, _ => (hlow 47 (by decide)).trans rfl | 48, _ => (hlow 48 (by decide)).trans rfl | 49, _ => (hlow 49 (by decide)).trans rfl | 50, _ => (hlow 50 (by decide)).trans rfl | 51, _ => (hlow 51 (by decide)).trans rfl | 52, _ => (hlow 52 (by decide)).trans rfl | 53, _ => (hlow 53 (by decide)).trans rfl | 54, _ => (hlow 54 (by decide)).trans rfl | 55, _ => (hlow 55 (by decide)).trans rfl | 56, _ => (hlow 56 (by decide)).trans rfl | 57, _ => (hlow 57 (by decide)).trans rfl | 58, _ => (hlow 58 (by decide)).trans rfl | 59, _ => (hlow 59 (by decide)).trans rfl | 60, _ => (hlow 60 (by decide)).trans rfl | 61, _ => (hlow 61 (by decide)).trans rfl | 62, _ => (hlow 62 (by decide)).trans rfl | 63, _ => (hlow 63 (by decide)).trans rfl | 64, _ => (hlow 64 (by decide)).trans rfl | 65, _ => (hlow 65 (by decide)).trans rfl | 66, _ => (hlow 66 (by decide)).trans rfl | 67, _ => (hlow 67 (by decide)).trans rfl | 68, _ => (hlow 68 (by decide)).trans rfl | 69, _ => (hlow 69 (by decide)).trans rfl | 70, _ => (hlow 70 (by decide)).trans rfl | 71, _ => (hlow 71 (by decide)).trans rfl | 72, _ => (hlow 72 (by decide)).trans rfl | 73, _ => (hlow 73 (by decide)).trans rfl | 74, _ => (hlow 74 (by decide)).trans rfl | 75, _ => (hlow 75 (by decide)).trans rfl | 76, _ => (hlow 76 (by decide)).trans rfl | 77, _ => (hlow 77 (by decide)).trans rfl | 78, _ => (hlow 78 (by decide)).trans rfl | 79, _ => (hlow 79 (by decide)).trans rfl | 80, _ => (hlow 80 (by decide)).trans rfl | 81, _ => (hlow 81 (by decide)).trans rfl | 82, _ => (hlow 82 (by decide)).trans rfl | 83, _ => (hlow 83 (by decide)).trans rfl | 84, _ => (hlow 84 (by decide)).trans rfl | 85, _ => (hlow 85 (by decide)).trans rfl | 86, _ => (hlow 86 (by decide)).trans rfl | 87, _ => (hlow 87 (by decide)).trans rfl | 88, _ => (hlow 88 (by decide)).trans rfl | 89, _ => (hlow 89 (by decide)).trans rfl | 90, _ => (hlow 90 (by decide)).trans rfl | 91, _ => (hlow 91 (by decide)).trans rfl | 92, _ => (hlow 92 (by decide)).trans rfl | 93, _ => (hlow 93 (by decide)).trans rfl | 94, _ => (hlow 94 (by decide)).trans rfl | 95, _ => (hlow 95 (by decide)).trans rfl | 96, _ => (hlow 96 (by decide)).trans rfl | 97, _ => (hlow 97 (by decide)).trans rfl | 98, _ => (hlow 98 (by decide)).trans rfl | 99, _ => (hlow 99 (by decide)).trans rfl | 100, _ => (hlow 100 (by decide)).trans rfl | 101, _ => (hlow 101 (by decide)).trans rfl | 102, _ => (hlow 102 (by decide)).trans rfl | 103, _ => (hlow 103 (by decide)).trans rfl | 104, _ => (hlow 104 (by decide)).trans rfl | 105, _ => (hlow 105 (by decide)).trans rfl | 106, _ => RgX.val_at (hok 0 106 _ (by decide) rfl rfl) | 107, _ => RgX.val_at (hok 1 107 _ (by decide) rfl rfl) | 108, _ => RgX.val_at (hok 2 108 _ (by decide) rfl rfl) | 109, _ => RgX.val_at (hok 3 109 _ (by decide) rfl rfl) | 110, _ => RgX.val_at (hok 4 110 _ (by decide) rfl rfl) | 111, _ => RgX.val_at (hok 5 111 _ (by decide) rfl rfl) | 112, _ => RgX.val_at (hok 6 112 _ (by decide) rfl rfl) | 113, _ => RgX.val_at (hok 7 113 _ (by decide) rfl rfl) | 114, _ => RgX.val_at (hok 8 114 _ (by decide) rfl rfl) | 115, _ => RgX.val_at (hok 9 115 _ (by decide) rfl rfl) | 116, _ => hy116 | 117, _ => RgX.val_at (hok 11 117 _ (by decide) rfl rfl) | 118, _ => RgX.val_at (hok 12 118 _ (by decide) rfl rfl) | 119, _ => RgX.val_at (hok 13 119 _ (by decide) rfl rfl) | 120, _ => hy120 | 121, _ => RgX.val_at (hok 15 121 _ (by decide) rfl rfl) | 122, _ => RgX.val_at (hok 16 122 _ (by decide) rfl rfl) | 123, _ => RgX.val_at (hok 17 123 _ (by decide) rfl rfl) | 124, _ => RgX.val_at (hok 18 124 _ (by decide) rfl rfl) | 125, _ => RgX.val_at (hok 19 125 _ (by decide) rfl rfl) | n + 126, h => absurd h (by show ¬ n + 126 < 126; omega))
      clear hs hd hlow hok hy116 hy120
      have HE := Lib.hid (HB.out.trans ((HV.out.trans (hS.mono HV.out.size)).mono HB.out.size))
      go_wp2_with fail
      go_ret
      exact ⟨rfl, HE.out⟩
end Go.Proofs.Ytnnbfjhpeamioaa.LawTapeNormal

namespace Go.Proofs.Ytnnbfjhpeamioaa.tapeNormal
open Go.ChangeShapes Go.WideShapes Go.ChangeAt Go.RowKit Go.Proofs Go.Proofs.Ytnnbfjhpeamioaa
open Go.ChangeMaps (open_string shut_string)
open Go.Deep (open_bools)
set_option linter.unusedVariables false

theorem own : ownKnob Try.prog.godebug = none := by kernel_rfl
theorem laidOut : laidOutB Try.prog = true := by kernel_rfl
theorem walk (a0 : Option Addr) (len0 cap0 : Nat) (z0 : List Int) (a1 : Option Addr) (len1 cap1 : Nat) (z1 : List Int) (tE2 : Option Addr) (tn2 tc2 : Nat) (tA2 : Option Addr) (tm2 td2 : Nat) (tes2 : List NM.Ev) (tl2 : List TP.An) (ec3 eh3 et3 ek3 ei3 : Int) (a4 : Int) (a5 : Int) (w : World) (w0 : Row .i64 w a0 len0 cap0 z0) (w1 : Row .i64 w a1 len1 cap1 z1) (w2 : (RawR evE w tE2 tn2 tc2 tes2 ∧ ∀ e ∈ tes2, EvW e) ∧ (RawR anE w tA2 tm2 td2 tl2 ∧ ∀ a ∈ tl2, AnW a)) (w4 : (Lit.int .i64 a4).wf = true) (w5 : (Lit.int .i64 a5).wf = true) :
    Calls Try.prog 3 #[.slice a0 len0 cap0, .slice a1 len1 cap1, .agg #[.slice tE2 tn2 tc2, .slice tA2 tm2 td2], .agg #[.int .i64 ec3, .int .i64 eh3, .int .i64 et3, .int .i64 ek3, .int .i64 ei3], .int .i64 a4, .int .i64 a5] w fun e w' => e = .returned (.bool true) ∧ Below w.heap.size w w' := by
  exact LawTapeNormal.walk a0 len0 cap0 z0 a1 len1 cap1 z1 tE2 tn2 tc2 tA2 tm2 td2 tes2 tl2 ec3 eh3 et3 ek3 ei3 a4 a5 w w0 w1 w2 w4 w5
set_option maxRecDepth 100000 in
theorem lifted (os : Os) (started : os.Started) (H : Type) (enc : TypeId × Value → H) :
    ReturnsInHanded {} Try.checked os 3 .any (Rows.tapeNormalSpec.pre6 enc Try.prog Try.f3 Rows.tapeNormalRow.domain false) (Rows.tapeNormalSpec.post enc Try.prog Try.f3 false true false false) := by
  refine returnsInHanded_of_change (C := Try.checked) own started (by kernel_rfl) Try.func3
    (ChangeSpec.witness6 (enc := enc) (C := Try.checked) false ⟨#[], #[.slice none 0 0, .slice none 0 0, .agg #[.slice none 0 0, .slice none 0 0], .agg #[.int .i64 0, .int .i64 0, .int .i64 0, .int .i64 0, .int .i64 0], .int .i64 0, .int .i64 0], []⟩ 8 (by kernel_rfl) (by kernel_rfl) (by kernel_rfl) (by kernel_rfl)) ?_
  intro W base args ds gs before hval0 hW hcnd _
  have hval : ∀ (j : Nat) t v, Try.f3.params[j]? = some t → args[j]? = some v → Value.okWide Try.prog W .any base t v := hval0
  have hW' := hW
  obtain ⟨p, q, hA0, hV, rfl, hfz, hnd⟩ := hW
  have hA : DataW.TrodAll enc Try.prog W 0 (fun _ => true) true Try.f3.params.toList args.toList ds p := hA0
  rw [Try.params3] at hA hval
  obtain ⟨v0, vs0, d0, ds0, p0, q0, hargs, rfl, rfl, h0, r0⟩ := trodAll_cons hA
  obtain ⟨v1, vs1, d1, ds1, p1, q1, rfl, rfl, rfl, h1, r1⟩ := trodAll_cons r0
  obtain ⟨v2, vs2, d2, ds2, p2, q2, rfl, rfl, rfl, h2, r2⟩ := trodAll_cons r1
  obtain ⟨v3, vs3, d3, ds3, p3, q3, rfl, rfl, rfl, h3, r3⟩ := trodAll_cons r2
  obtain ⟨v4, vs4, d4, ds4, p4, q4, rfl, rfl, rfl, h4, r4⟩ := trodAll_cons r3
  obtain ⟨v5, vs5, d5, ds5, p5, q5, rfl, rfl, rfl, h5, r5⟩ := trodAll_cons r4
  obtain ⟨rfl, rfl, rfl⟩ := trodAll_nil r5
  obtain rfl : args = #[v0, v1, v2, v3, v4, v5] := by cases args; simp_all
  obtain ⟨rfl, rfl⟩ := trodVars_none hV
  obtain ⟨a0, len0, cap0, rfl⟩ := okWide_slice Try.underlying22 (hval 0 22 v0 rfl rfl)
  have k0 := h0
  have lt0 : ∀ x ∈ p0, x.block < W.heap.size := by obtain ⟨m, hm⟩ := k0; exact DataW.trod_lt m _ _ _ hm
  obtain ⟨z0, w0⟩ : ∃ zs, Row .i64 W a0 len0 cap0 zs := by
    obtain ⟨fuel, hf⟩ := h0
    rcases open_ints Try.underlying22 Try.underlying3 (by kernel_rfl) hf with ⟨hcs, _⟩ | ⟨x, l, c, zs, hcs, _, hl, hm, hz, _, hcell, hwz⟩
    · simp [Value.cells] at hcs
      obtain ⟨rfl, rfl, rfl⟩ := hcs
      exact ⟨[], .inl ⟨rfl, rfl, rfl, rfl⟩⟩
    · simp [Value.cells] at hcs
      obtain ⟨rfl, rfl, rfl⟩ := hcs
      exact ⟨zs, .inr ⟨_, rfl, hl, hm, by simpa using hz, hcell, hwz⟩⟩
  obtain ⟨a1, len1, cap1, rfl⟩ := okWide_slice Try.underlying22 (hval 1 22 v1 rfl rfl)
  have k1 := h1
  have lt1 : ∀ x ∈ p1, x.block < W.heap.size := by obtain ⟨m, hm⟩ := k1; exact DataW.trod_lt m _ _ _ hm
  obtain ⟨z1, w1⟩ : ∃ zs, Row .i64 W a1 len1 cap1 zs := by
    obtain ⟨fuel, hf⟩ := h1
    rcases open_ints Try.underlying22 Try.underlying3 (by kernel_rfl) hf with ⟨hcs, _⟩ | ⟨x, l, c, zs, hcs, _, hl, hm, hz, _, hcell, hwz⟩
    · simp [Value.cells] at hcs
      obtain ⟨rfl, rfl, rfl⟩ := hcs
      exact ⟨[], .inl ⟨rfl, rfl, rfl, rfl⟩⟩
    · simp [Value.cells] at hcs
      obtain ⟨rfl, rfl, rfl⟩ := hcs
      exact ⟨zs, .inr ⟨_, rfl, hl, hm, by simpa using hz, hcell, hwz⟩⟩
  obtain ⟨tE2, tn2, tc2, tA2, tm2, td2, tes2, tl2, rfl, w2⟩ := open_tape (hval 2 26 v2 rfl rfl) h2
  have k2 := h2
  have lt2 : ∀ x ∈ p2, x.block < W.heap.size := by obtain ⟨m, hm⟩ := k2; exact DataW.trod_lt m _ _ _ hm
  obtain ⟨ec3, eh3, et3, ek3, ei3, rfl⟩ := open_que (hval 3 30 v3 rfl rfl) h3
  have k3 := h3
  have lt3 : ∀ x ∈ p3, x.block < W.heap.size := by obtain ⟨m, hm⟩ := k3; exact DataW.trod_lt m _ _ _ hm
  obtain ⟨a4, rfl, rfl, rfl, w4⟩ := open_int Try.underlying3 (hval 4 3 v4 rfl rfl) h4
  obtain ⟨a5, rfl, rfl, rfl, w5⟩ := open_int Try.underlying3 (hval 5 3 v5 rfl rfl) h5
  clear hA0 hval0
  refine (walk a0 len0 cap0 z0 a1 len1 cap1 z1 tE2 tn2 tc2 tA2 tm2 td2 tes2 tl2 ec3 eh3 et3 ek3 ei3 a4 a5 W w0 w1 w2 w4 w5).mono fun e W' ⟨he, bel⟩ => ?_
  subst he
  exact ⟨_, rfl, _, _, _, [], _, [], hW', trodAll_mk1 (shut_bool Try.underlying4 _), (trodAll_cons_mk (Below.trod laidOut (by kernel_rfl) (of_decide_eq_true (by kernel_rfl)) k0 bel lt0) (trodAll_cons_mk (Below.trod laidOut (by kernel_rfl) (of_decide_eq_true (by kernel_rfl)) k1 bel lt1) (trodAll_cons_mk (Below.trod laidOut (by kernel_rfl) (of_decide_eq_true (by kernel_rfl)) k2 bel lt2) (trodAll_cons_mk (Below.trod laidOut (by kernel_rfl) (of_decide_eq_true (by kernel_rfl)) k3 bel lt3) (trodAll_cons_mk (shut_int Try.underlying3 w4) (trodAll_cons_mk (shut_int Try.underlying3 w5) trodAll_mk0)))))), rfl, bel.frame _, fun h => by cases h⟩

theorem over : Rows.tapeNormalRow.holds Try.pinned (OpenSpec.ofChange Rows.tapeNormalSpec) :=
  OpenClaim.holds_of_wide 3 Try.f3 rfl rfl rfl rfl rfl rfl rfl ⟨rfl, rfl, rfl, rfl, rfl⟩ rfl rfl rfl rfl rfl (by kernel_rfl) Try.func3 (by kernel_rfl)
    (of_decide_eq_true (by kernel_rfl)) (by unfold Func.isWrapper; first | (rw [if_pos (by decide +kernel)]; kernel_rfl) | (rw [if_neg (by decide +kernel)]; exact ⟨rfl, rfl⟩))
    (fun os started H enc _ => lifted os started H enc)

theorem proved : Rows.TapeNormalSaid := over
end Go.Proofs.Ytnnbfjhpeamioaa.tapeNormal
