/-
  The walk of the law TapeRound: encoding and decoding give the normal form. No condition beyond the arguments' readings.
  The statement TapeRound: for every input the law answers true and leaves its arguments as they were. No condition is added. The frame of this proof was written after the guide's program, the walk is the text LawTapeRound's.
-/
import Derived.Test.YtnnbfjhpeamioaaK30
import Derived.Test.YtnnbfjhpeamioaaK32
import Derived.Test.YtnnbfjhpeamioaaK25
import Derived.Test.YtnnbfjhpeamioaaK15
import Derived.Test.YtnnbfjhpeamioaaK5
import Derived.Test.YtnnbfjhpeamioaaRows
import Derived.Test.YtnnbfjhpeamioaaK29
import Derived.WalkKit
import Derived.ProofKit
import Derived.OpenShut
import Derived.ShutString
import Derived.ChangeOld
import Derived.Below
import Derived.Deep.Grids

namespace Go.Proofs.Ytnnbfjhpeamioaa
open Go Go.RowKit Go.Proofs
/-- A row of two tapes. -/
def Two (lo : Nat) (w : World) (g : Nat) (e0 : List NM.Ev) (l0 : List TP.An) (e1 : List NM.Ev) (l1 : List TP.An) : Prop :=
  ∃ (E : Option Addr) (c : Nat) (A : Option Addr) (d : Nat) (E' : Option Addr) (c' : Nat) (A' : Option Addr) (d' : Nat), w.heap[g]? = some (.cells #[.slice E e0.length c, .slice A l0.length d, .slice E' e1.length c', .slice A' l1.length d'] 26 (0, 0)) ∧ TapeIs lo w E e0.length c A l0.length d e0 l0 ∧ TapeIs lo w E' e1.length c' A' l1.length d' e1 l1
theorem Two.keep {lo : Nat} {w w' : World} {g : Nat} {e0 : List NM.Ev} {l0 : List TP.An} {e1 : List NM.Ev} {l1 : List TP.An} (h : Two lo w g e0 l0 e1 l1) (hb : Below w.heap.size w w') : Two lo w' g e0 l0 e1 l1 := by
  obtain ⟨E, c, A, d, E', c', A', d', h1, h2, h3⟩ := h
  exact ⟨E, c, A, d, E', c', A', d', (hb.block g (heap_lt h1)).trans h1, h2.keep hb, h3.keep hb⟩
/-- Bytes in a row. -/
def Byt (w : World) (B : Option Addr) (n c : Nat) (zs : List Int) : Prop := zs.length = n ∧ Lst 5 .u8 w.heap.size w B n c zs
theorem Byt.keep {w w' : World} {B : Option Addr} {n c : Nat} {zs : List Int} (h : Byt w B n c zs) (hb : Below w.heap.size w w') : Byt w' B n c zs := ⟨h.1, (h.2.below hb).more hb.size⟩
namespace RgX
def Sp.two (lo : Nat) (e0 : List NM.Ev) (l0 : List TP.An) (e1 : List NM.Ev) (l1 : List TP.An) : Sp := ⟨fun w x => ∃ g, x = .slice (some ⟨g, 0, none⟩) 2 2 ∧ Two lo w g e0 l0 e1 l1, fun ⟨g, e, h⟩ hb => ⟨g, e, h.keep hb⟩⟩
def Sp.byt (zs : List Int) : Sp := ⟨fun w x => ∃ B n c, x = .slice B n c ∧ Byt w B n c zs, fun ⟨B, n, c, e, h⟩ hb => ⟨B, n, c, e, h.keep hb⟩⟩
end RgX
theorem decode_good {B0 : Nat} {AD : Option Addr} {nD cD : Nat} {zs : List Int} {es : List NM.Ev} {nl : List TP.An} (w : World) (hz : Lst 5 .u8 B0 w AD nD cD zs) (hn : nD ≤ 1000000) (h8 : ∀ x ∈ zs, B8 x) (hd : decP zs = ((es, nl), 0)) :
    Calls Try.prog 37 #[.slice AD nD cD] w fun e w' => (∃ E ne ce A na ca, e = .returned (.tuple #[.agg #[.slice E ne ce, .slice A na ca], .int .i64 0]) ∧ TapeIs w.heap.size w' E ne ce A na ca es nl) ∧ Below w.heap.size w w' := by
  have := decodeP_any w hz hn h8
  rw [hd] at this
  exact this
theorem same_good {E1 A1 E2 A2 : Option Addr} {n1 c1 a1 d1 n2 c2 a2 d2 : Nat} {es : List NM.Ev} {l : List TP.An} (w : World) (h1 : TIn w E1 n1 c1 A1 a1 es l) (h2 : TIn w E2 n2 c2 A2 a2 es l) :
    Calls Try.prog 16 #[.agg #[.slice E1 n1 c1, .slice A1 a1 d1], .agg #[.slice E2 n2 c2, .slice A2 a2 d2]] w fun e w' => e = .returned (.bool true) ∧ Below w.heap.size w w' := by
  have := refSame_any (c1 := c1) (d1 := d1) (c2 := c2) (d2 := d2) w h1.ev h1.an h2.ev h2.an h1.be h1.ba
  rw [decide_eq_true (⟨rfl, rfl⟩ : es = es ∧ l = l)] at this
  exact this
theorem equal_good {E1 A1 E2 A2 : Option Addr} {n1 c1 a1 d1 n2 c2 a2 d2 : Nat} {es : List NM.Ev} {l nl : List TP.An} (w : World) (h1 : TIn w E1 n1 c1 A1 a1 es l) (h2 : TIn w E2 n2 c2 A2 a2 es nl) (hl : TP.normA l = nl) (hn : TP.normA nl = nl) :
    Calls Try.prog 19 #[.agg #[.slice E1 n1 c1, .slice A1 a1 d1], .agg #[.slice E2 n2 c2, .slice A2 a2 d2]] w fun e w' => e = .returned (.bool true) ∧ Below w.heap.size w w' := by
  have := equalP_any (d1 := d1) (d2 := d2) w h1 h2
  rw [decide_eq_true (⟨rfl, by rw [hl, hn]⟩ : es = es ∧ TP.normA l = TP.normA nl)] at this
  exact this
theorem normal_good {E A : Option Addr} {ne ce na ca lo : Nat} {es : List NM.Ev} {l nl : List TP.An} (w : World) (h : TIn w E ne ce A na es l) (hl : TP.normA l = nl) (hlo : lo ≤ w.heap.size) :
    Calls Try.prog 17 #[.agg #[.slice E ne ce, .slice A na ca]] w fun e w' => (∃ v, e = .returned v ∧ (RgX.Sp.tape lo es nl es.length nl.length).p w' v) ∧ Below w.heap.size w w' := by
  have := normal_any (ce := ce) (ca := ca) w h
  rw [hl] at this
  exact RgX.tape_calls_lo hlo rfl rfl this
theorem encode_good {E A : Option Addr} {ne ce na ca : Nat} {es : List NM.Ev} {l nl : List TP.An} (w : World) (h : TIn w E ne ce A na es l) (h1 : es.length ≤ 10) (h2 : l.length ≤ 10) (he : ∀ e ∈ es, ∀ x ∈ NM.evL e, I64 x) (ha : ∀ a ∈ l, ∀ x ∈ anL a, I64 x) (hl : TP.normA l = nl) :
    Calls Try.prog 33 #[.agg #[.slice E ne ce, .slice A na ca]] w fun e w' => (∃ v, e = .returned v ∧ (RgX.Sp.byt (encT es nl)).p w' v) ∧ Below w.heap.size w w' := by
  have e1 := h.ev.1
  have e2 := h.an.1
  have := encodeP_any (ce := ce) (ca := ca) w h (by omega) (by omega) he ha
  rw [hl] at this
  exact this.mono fun _ _ ⟨B_, m_, d_, h1_, h2_, h3_, _, h4_⟩ => ⟨⟨_, h1_, B_, m_, d_, rfl, h2_, h3_⟩, h4_⟩
theorem bytes_good {B1 B2 : Option Addr} {n1 c1 n2 c2 : Nat} {zs : List Int} (w : World) (h1 : Byt w B1 n1 c1 zs) (h2 : Byt w B2 n2 c2 zs) (hl : zs.length ≤ 2000) :
    Calls Try.prog 32 #[.slice B1 n1 c1, .slice B2 n2 c2] w fun e w' => e = .returned (.bool true) ∧ Below w.heap.size w w' := by
  have := sameBytes_any B1 B2 n1 n2 c1 c2 zs zs w h1.2.ints h2.2.ints (by have := h1.1; omega)
  rw [decide_eq_true (rfl : zs = zs)] at this
  exact this
theorem cmp_good (a b : NM.Qu) (w : World) : Calls Try.prog 39 #[quV a, quV b] w fun e w' => e = .returned (.int .i64 (NM.lexL (NM.quL a) (NM.quL b))) ∧ Below w.heap.size w w' :=
  (cmpQueD_any a b w).mono fun _ _ h => ⟨h.1, h.2.1⟩
end Go.Proofs.Ytnnbfjhpeamioaa
namespace Go.Proofs.Ytnnbfjhpeamioaa.LawTapeRound
open Go Go.RowKit Go.Proofs Go.Proofs.Ytnnbfjhpeamioaa
attribute [local go_sem] Oper.semAt_some

set_option maxHeartbeats 16000000 in
set_option maxRecDepth 100000 in
theorem walk (a0 : Option Addr) (len0 cap0 : Nat) (z0 : List Int) (a1 : Option Addr) (len1 cap1 : Nat) (z1 : List Int) (tE : Option Addr) (tn tc : Nat) (tA : Option Addr) (tm td : Nat) (tes : List NM.Ev) (tl : List TP.An) (w : World) (w0 : Row .i64 w a0 len0 cap0 z0) (w1 : Row .i64 w a1 len1 cap1 z1) (w2 : (RawR evE w tE tn tc tes ∧ ∀ e ∈ tes, EvW e) ∧ (RawR anE w tA tm td tl ∧ ∀ a ∈ tl, AnW a)) :
    Calls Try.prog 8 #[.slice a0 len0 cap0, .slice a1 len1 cap1, .agg #[.slice tE tn tc, .slice tA tm td]] w fun e w' => e = .returned (.bool true) ∧ Below w.heap.size w w' := by
  have i0 := w0.ints.1
  have j0 := i64_of w0.ints.2.2.2
  have i1 := w1.ints.1
  have j1 := i64_of w1.ints.2.2.2
  have HT := Lib.hid (fun (V : World) (hV : Below w.heap.size w V) => RgX.tape_calls_lo hV.size rfl rfl (refTape_any (cap0 := cap0) (cap1 := cap1) V ((i0.below hV).more hV.size) j0 ((i1.below hV).more hV.size) j1))
  have HC := Lib.hid (fun (V : World) (hV : Below w.heap.size w V) => RgX.tape_calls_lo hV.size rfl rfl (cut_any V (w2.1.1.keep hV) (w2.2.1.keep hV)))
  have F0 := Lib.hid (show (TP.evsG (z0.take len0)).length ≤ 10 ∧ (TP.ansG (z1.take len1)).length ≤ 10 ∧ (∀ e ∈ TP.evsG (z0.take len0), ∀ y ∈ NM.evL e, I64 y) ∧ (∀ a ∈ TP.ansG (z1.take len1), ∀ y ∈ anL a, I64 y) from ⟨by unfold TP.evsG; rw [List.length_map]; exact Nat.le_trans (List.length_take_le _ _) (by decide), by unfold TP.ansG; rw [List.length_map]; exact List.length_take_le _ _, evs64 _, ans64 _⟩)
  have F1 := Lib.hid (show (tes.take 6).length ≤ 10 ∧ (tl.take 6).length ≤ 10 ∧ (∀ e ∈ tes.take 6, ∀ y ∈ NM.evL e, I64 y) ∧ (∀ a ∈ tl.take 6, ∀ y ∈ anL a, I64 y) from ⟨Nat.le_trans (List.length_take_le _ _) (by decide), Nat.le_trans (List.length_take_le _ _) (by decide), fun e he => evw64 (w2.1.2 e (List.mem_of_mem_take he)), fun a ha => anw64 (w2.2.2 a (List.mem_of_mem_take ha))⟩)
  obtain ⟨e0, he0⟩ : ∃ x, TP.evsG (z0.take len0) = x := ⟨_, rfl⟩
  obtain ⟨l0, hl0⟩ : ∃ x, TP.ansG (z1.take len1) = x := ⟨_, rfl⟩
  obtain ⟨e1, he1⟩ : ∃ x, tes.take 6 = x := ⟨_, rfl⟩
  obtain ⟨l1, hl1⟩ : ∃ x, tl.take 6 = x := ⟨_, rfl⟩
  rw [he0, hl0] at HT F0
  rw [he1, hl1] at HC F1
  clear w0 w1 w2 i0 j0 i1 j1 he0 hl0 he1 hl1
  go_enter Try.func8, Try.ntmps8
  go_upto_region 1 with (fail)
  obtain ⟨W, hW⟩ : ∃ W, w.alloc (.cells #[.slice tE tn tc, .slice tA tm td] 26) = W := ⟨_, rfl⟩
  try rw [hW]
  have HBX := Lib.hid (fun (V : World) (hV : Below W.heap.size W V) => row2C ((hV.block _ (by rw [← hW]; simp)).trans (show W.heap[w.heap.size]? = some (.cells #[.slice tE tn tc, .slice tA tm td] 26 (0, 0)) from by rw [← hW]; exact new_at rfl)))
  have HWB := Lib.hid (show Below w.heap.size w W from hW ▸ one_box w _)
  clear hW
  refine RgX.regionB 7 (fun i => (if i = 6 then 7 else 13 + i)) (fun ix_ => match ix_ with | 0 => .v (.slice a0 len0 cap0) | 1 => .v (.slice a1 len1 cap1) | 2 => .tape w.heap.size e0 l0 e0.length l0.length | 3 => .v (.agg #[.slice tE tn tc, .slice tA tm td]) | 4 => .tape w.heap.size e1 l1 e1.length l1.length | 5 => .two w.heap.size e0 l0 e1 l1 | 6 => .two w.heap.size e0 l0 e1 l1 | _ => .any) (by kernel_rfl) rfl (by kernel_rfl)  (fun i hi => by show (if i = 6 then 7 else 13 + i) < 108; (repeat' split) <;> omega) (fun i j hi hj => by show (if i = 6 then 7 else 13 + i) = (if j = 6 then 7 else 13 + j) → i = j; (repeat' split) <;> omega) ?step ?fin
  case step =>
    intro L_ A_ w3 ix op_ hI ho hdep
    have hi : ix < 7 := (Array.getElem?_eq_some_iff.1 ho).1
    have hcase : ix = 0 ∨ ix = 1 ∨ ix = 2 ∨ ix = 3 ∨ ix = 4 ∨ ix = 5 ∨ ix = 6 := by omega
    have hh := hI.held
    clear hi
    rcases hcase with rfl | rfl | rfl | rfl | rfl | rfl | rfl
    · simp only [List.getElem?_toArray, List.getElem?_cons_zero, Option.some.injEq] at ho
      subst ho
      refine ⟨rfl, ?_⟩
      have e0 : A_.tmps[0]?.getD undef = .slice a0 len0 cap0 := by rw [hI.low 0 (by decide)]; rfl
      clear hI hdep
      exact .run rfl (.slice a0 len0 cap0) w3 (by simp [execOp, go_sem, Act.eval, e0]) (Below.refl _ _) rfl
    · simp only [List.getElem?_toArray, List.getElem?_cons_succ, List.getElem?_cons_zero, Option.some.injEq] at ho
      subst ho
      refine ⟨rfl, ?_⟩
      have e1 : A_.tmps[1]?.getD undef = .slice a1 len1 cap1 := by rw [hI.low 1 (by decide)]; rfl
      clear hI hdep
      exact .run rfl (.slice a1 len1 cap1) w3 (by simp [execOp, go_sem, Act.eval, e1]) (Below.refl _ _) rfl
    · simp only [List.getElem?_toArray, List.getElem?_cons_succ, List.getElem?_cons_zero, Option.some.injEq] at ho
      subst ho
      refine ⟨rfl, ?_⟩
      have e13 : A_.tmps[13]?.getD undef = .slice a0 len0 cap0 := getD_of (hI.val_ (i := 0) rfl rfl (by decide) (hdep ⟨0, .data⟩ (by simp) rfl))
      have e14 : A_.tmps[14]?.getD undef = .slice a1 len1 cap1 := getD_of (hI.val_ (i := 1) rfl rfl (by decide) (hdep ⟨1, .data⟩ (by simp) rfl))
      clear hI hdep
      exact .call rfl 12 #[.slice a0 len0 cap0, .slice a1 len1 cap1] (by simp [go_sem, Act.eval, e13, e14]) (HT.out w3 (HWB.out.trans (hh.mono HWB.out.size)))
    · simp only [List.getElem?_toArray, List.getElem?_cons_succ, List.getElem?_cons_zero, Option.some.injEq] at ho
      subst ho
      refine ⟨rfl, ?_⟩
      have e5 : A_.tmps[5]?.getD undef = .pointer (some ⟨w.heap.size, 0, none⟩) := by rw [hI.low 5 (by decide)]; rfl
      clear hI hdep
      obtain ⟨b0, b1⟩ := HBX.out w3 hh
      exact .run rfl (.agg #[.slice tE tn tc, .slice tA tm td]) w3 (by simp [execOp, go_sem, Act.eval, *]) (Below.refl _ _) rfl
    · simp only [List.getElem?_toArray, List.getElem?_cons_succ, List.getElem?_cons_zero, Option.some.injEq] at ho
      subst ho
      refine ⟨rfl, ?_⟩
      have e16 : A_.tmps[16]?.getD undef = .agg #[.slice tE tn tc, .slice tA tm td] := getD_of (hI.val_ (i := 3) rfl rfl (by decide) (hdep ⟨3, .data⟩ (by simp) rfl))
      clear hI hdep
      exact .call rfl 13 #[.agg #[.slice tE tn tc, .slice tA tm td]] (by simp [go_sem, Act.eval, e16]) (HC.out w3 (HWB.out.trans (hh.mono HWB.out.size)))
    · simp only [List.getElem?_toArray, List.getElem?_cons_succ, List.getElem?_cons_zero, Option.some.injEq] at ho
      subst ho
      refine ⟨rfl, ?_⟩
      obtain ⟨_, e15, E15, c15, A15, d15, rfl, h15⟩ := hI.get_ (i := 2) (j := 15) rfl rfl (by decide) (hdep ⟨2, .data⟩ (by simp) rfl)
      obtain ⟨_, e17, E17, c17, A17, d17, rfl, h17⟩ := hI.get_ (i := 4) (j := 17) rfl rfl (by decide) (hdep ⟨4, .data⟩ (by simp) rfl)
      clear hI hdep
      exact .run rfl (.slice (some ⟨w3.heap.size, 0, none⟩) 2 2) (w3.alloc (.cells #[.slice E15 e0.length c15, .slice A15 l0.length d15, .slice E17 e1.length c17, .slice A17 l1.length d17] 26)) (by simp [execOp, go_sem, Act.eval, e15, e17]) ((Below.refl _ _).alloc (Nat.le_refl _) _) ⟨_, rfl, _, _, _, _, _, _, _, _, heap_alloc_new _ _, h15.keep (one_box _ _), h17.keep (one_box _ _)⟩
    · simp only [List.getElem?_toArray, List.getElem?_cons_succ, List.getElem?_cons_zero, Option.some.injEq] at ho
      subst ho
      refine ⟨rfl, ?_⟩
      obtain ⟨y18, e18, h18⟩ := hI.get_ (i := 5) (j := 18) rfl rfl (by decide) (hdep ⟨5, .data⟩ (by simp) rfl)
      clear hI hdep
      exact .run rfl y18 w3 (by simp [execOp, go_sem, Act.eval, e18]) (Below.refl _ _) h18
  case fin =>
  intro A_ w3 hs hd hlow hS hok
  obtain ⟨_, hy7, g7, rfl, r7⟩ := hok 6 7 _ (by decide) rfl rfl
  obtain ⟨_, hy15, E15, c15, A15, d15, rfl, h15⟩ := hok 2 15 _ (by decide) rfl rfl
  obtain ⟨_, hy17, E17, c17, A17, d17, rfl, h17⟩ := hok 4 17 _ (by decide) rfl rfl
  obtain ⟨_, hy18, g18, rfl, r18⟩ := hok 5 18 _ (by decide) rfl rfl
  obtain rfl : A_ = ⟨#[.slice a0 len0 cap0, .slice a1 len1 cap1, .agg #[.slice tE tn tc, .slice tA tm td], undef, undef, .pointer (some ⟨w.heap.size, 0, none⟩), .bool false, .slice (some ⟨g7, 0, none⟩) 2 2, undef, undef, undef, undef, undef, .slice a0 len0 cap0, .slice a1 len1 cap1, .agg #[.slice E15 e0.length c15, .slice A15 l0.length d15], .agg #[.slice tE tn tc, .slice tA tm td], .agg #[.slice E17 e1.length c17, .slice A17 l1.length d17], .slice (some ⟨g18, 0, none⟩) 2 2, undef, undef, undef, undef, undef, undef, undef, undef, undef, undef, undef, undef, undef, undef, undef, undef, undef, undef, undef, undef, undef, undef, undef, undef, undef, undef, undef, undef, undef, undef, undef, undef, undef, undef, undef, undef, undef, undef, undef, undef, undef, undef, undef, undef, undef, undef, undef, undef, undef, undef, undef, undef, undef, undef, undef, undef, undef, undef, undef, undef, undef, undef, undef, undef, undef, undef, undef, undef, undef, undef, undef, undef, undef, undef, undef, undef, undef, undef, undef, undef, undef, undef, undef, undef, undef, undef, undef, undef, undef], []⟩ := act_ext hd hs (fun j hj => match j, hj with | 0, _ => (hlow 0 (by decide)).trans rfl | 1, _ => (hlow 1 (by decide)).trans rfl | 2, _ => (hlow 2 (by decide)).trans rfl | 3, _ => (hlow 3 (by decide)).trans rfl | 4, _ => (hlow 4 (by decide)).trans rfl | 5, _ => (hlow 5 (by decide)).trans rfl | 6, _ => (hlow 6 (by decide)).trans rfl | 7, _ => hy7 | 8, _ => (hlow 8 (by decide)).trans rfl | 9, _ => (hlow 9 (by decide)).trans rfl | 10, _ => (hlow 10 (by decide)).trans rfl | 11, _ => (hlow 11 (by decide)).trans rfl | 12, _ => (hlow 12 (by decide)).trans rfl | 13, _ => RgX.val_at (hok 0 13 _ (by decide) rfl rfl) | 14, _ => RgX.val_at (hok 1 14 _ (by decide) rfl rfl) | 15, _ => hy15 | 16, _ => RgX.val_at (hok 3 16 _ (by decide) rfl rfl) | 17, _ => hy17 | 18, _ => hy18 | 19, _ => (hlow 19 (by decide)).trans rfl | 20, _ => (hlow 20 (by decide)).trans rfl | 21, _ => (hlow 21 (by decide)).trans rfl | 22, _ => (hlow 22 (by decide)).trans rfl | 23, _ => (hlow 23 (by decide)).trans rfl | 24, _ => (hlow 24 (by decide)).trans rfl | 25, _ => (hlow 25 (by decide)).trans rfl | 26, _ => (hlow 26 (by decide)).trans rfl | 27, _ => (hlow 27 (by decide)).trans rfl | 28, _ => (hlow 28 (by decide)).trans rfl | 29, _ => (hlow 29 (by decide)).trans rfl | 30, _ => (hlow 30 (by decide)).trans rfl | 31, _ => (hlow 31 (by decide)).trans rfl | 32, _ => (hlow 32 (by decide)).trans rfl | 33, _ => (hlow 33 (by decide)).trans rfl | 34, _ => (hlow 34 (by decide)).trans rfl | 35, _ => (hlow 35 (by decide)).trans rfl | 36, _ => (hlow 36 (by decide)).trans rfl | 37, _ => (hlow 37 (by decide)).trans rfl | 38, _ => (hlow 38 (by decide)).trans rfl | 39, _ => (hlow 39 (by decide)).trans rfl | 40, _ => (hlow 40 (by decide)).trans rfl | 41, _ => (hlow 41 (by decide)).trans rfl | 42, _ => (hlow 42 (by decide)).trans rfl | 43, _ => (hlow 43 (by decide)).trans rfl | 44, _ => (hlow 44 (by decide)).trans rfl | 45, _ => (hlow 45 (by decide)).trans rfl | 46, _ => (hlow 46 (by decide)).trans rfl | 47, _ => (hlow 47 (by decide)).trans rfl | 48, _ => (hlow 48 (by decide)).trans rfl | 49, _ => (hlow 49 (by decide)).trans rfl | 50, _ => (hlow 50 (by decide)).trans rfl | 51, _ => (hlow 51 (by decide)).trans rfl | 52, _ => (hlow 52 (by decide)).trans rfl | 53, _ => (hlow 53 (by decide)).trans rfl | 54, _ => (hlow 54 (by decide)).trans rfl | 55, _ => (hlow 55 (by decide)).trans rfl | 56, _ => (hlow 56 (by decide)).trans rfl | 57, _ => (hlow 57 (by decide)).trans rfl | 58, _ => (hlow 58 (by decide)).trans rfl | 59, _ => (hlow 59 (by decide)).trans rfl | 60, _ => (hlow 60 (by decide)).trans rfl | 61, _ => (hlow 61 (by decide)).trans rfl | 62, _ => (hlow 62 (by decide)).trans rfl | 63, _ => (hlow 63 (by decide)).trans rfl | 64, _ => (hlow 64 (by decide)).trans rfl | 65, _ => (hlow 65 (by decide)).trans rfl | 66, _ => (hlow 66 (by decide)).trans rfl | 67, _ => (hlow 67 (by decide)).trans rfl | 68, _ => (hlow 68 (by decide)).trans rfl | 69, _ => (hlow 69 (by decide)).trans rfl | 70, _ => (hlow 70 (by decide)).trans rfl | 71, _ => (hlow 71 (by decide)).trans rfl | 72, _ => (hlow 72 (by decide)).trans rfl | 73, _ => (hlow 73 (by decide)).trans rfl | 74, _ => (hlow 74 (by decide)).trans rfl | 75, _ => (hlow 75 (by decide)).trans rfl | 76, _ => (hlow 76 (by decide)).trans rfl | 77, _ => (hlow 77 (by decide)).trans rfl | 78, _ => (hlow 78 (by decide)).trans rfl | 79, _ => (hlow 79 (by decide)).trans rfl | 80, _ => (hlow 80 (by decide)).trans rfl | 81, _ => (hlow 81 (by decide)).trans rfl | 82, _ => (hlow 82 (by decide)).trans rfl | 83, _ => (hlow 83 (by decide)).trans rfl | 84, _ => (hlow 84 (by decide)).trans rfl | 85, _ => (hlow 85 (by decide)).trans rfl | 86, _ => (hlow 86 (by decide)).trans rfl | 87, _ => (hlow 87 (by decide)).trans rfl | 88, _ => (hlow 88 (by decide)).trans rfl | 89, _ => (hlow 89 (by decide)).trans rfl | 90, _ => (hlow 90 (by decide)).trans rfl | 91, _ => (hlow 91 (by decide)).trans rfl | 92, _ => (hlow 92 (by decide)).trans rfl | 93, _ => (hlow 93 (by decide)).trans rfl | 94, _ => (hlow 94 (by decide)).trans rfl | 95, _ => (hlow 95 (by decide)).trans rfl | 96, _ => (hlow 96 (by decide)).trans rfl | 97, _ => (hlow 97 (by decide)).trans rfl | 98, _ => (hlow 98 (by decide)).trans rfl | 99, _ => (hlow 99 (by decide)).trans rfl | 100, _ => (hlow 100 (by decide)).trans rfl | 101, _ => (hlow 101 (by decide)).trans rfl | 102, _ => (hlow 102 (by decide)).trans rfl | 103, _ => (hlow 103 (by decide)).trans rfl | 104, _ => (hlow 104 (by decide)).trans rfl | 105, _ => (hlow 105 (by decide)).trans rfl | 106, _ => (hlow 106 (by decide)).trans rfl | 107, _ => (hlow 107 (by decide)).trans rfl | n + 108, h => absurd h (by show ¬ n + 108 < 108; omega))
  clear hs hd hlow hok hy7 hy15 hy17 hy18
  obtain ⟨v2, h2⟩ : ∃ V, V = w3 := ⟨_, rfl⟩
  rw [← h2] at hS r7 ⊢
  have HB := Lib.hid (HWB.out.trans (hS.mono HWB.out.size))
  have hgl : g7 < v2.heap.size := by obtain ⟨_, _, _, _, _, _, _, _, h_, _⟩ := r7; exact heap_lt h_
  have HALL := Lib.hid (show ∀ k : Nat, k < 2 → ∃ (E : Option Addr) (ce : Nat) (A : Option Addr) (ca : Nat) (es : List NM.Ev) (l : List TP.An), v2.cell? ⟨g7, k * 2, none⟩ = some (.slice E es.length ce) ∧ v2.cell? ⟨g7, k * 2 + 1, none⟩ = some (.slice A l.length ca) ∧ TapeIs w.heap.size v2 E es.length ce A l.length ca es l ∧ es.length ≤ 10 ∧ l.length ≤ 10 ∧ (∀ e ∈ es, ∀ y ∈ NM.evL e, I64 y) ∧ (∀ a ∈ l, ∀ y ∈ anL a, I64 y) from by
    obtain ⟨E, c, A, d, E', c', A', d', h1, h3, h4⟩ := r7
    intro k hk
    match k, hk with
    | 0, _ => exact ⟨E, c, A, d, e0, l0, cell_of_row v2 _ 0 _ _ (0, 0) h1, cell_of_row v2 _ 1 _ _ (0, 0) h1, h3, F0.out⟩
    | 1, _ => exact ⟨E', c', A', d', e1, l1, cell_of_row v2 _ 2 _ _ (0, 0) h1, cell_of_row v2 _ 3 _ _ (0, 0) h1, h4, F1.out⟩)
  clear hS h2 h15 h17 r7 r18 HT HC F0 F1 HBX
  go_wp2_with fail
  go_loopw [8, 9, 10, 11, 12] (fun i _ _ _ _ V => ∃ k : Nat, k ≤ 2 ∧ i = .int .i64 (k : Int) ∧ Hid (Below v2.heap.size v2 V)) (fun i _ _ _ _ _ => 2 - (intOf i).toNat)
  case atStart => exact ⟨0, by omega, rfl, Below.refl _ _⟩
  case round =>
    obtain ⟨k, hk, rfl, HV⟩ := hrel
    by_cases hk2 : k < 2
    · have dk : decide ((k : Int) < 2) = true := decide_eq_true (by omega)
      obtain ⟨E, ce, A, ca, es, l, hc0, hc1, hT, hel, hll, he, ha⟩ := HALL.out k hk2
      have HROW := Lib.hid (fun (V : World) (hV : Below v2.heap.size v2 V) => And.intro ((hV.cell (p := ⟨g7, k * 2, none⟩) hgl).trans hc0) ((hV.cell (p := ⟨g7, k * 2 + 1, none⟩) hgl).trans hc1))
      have HTI := Lib.hid (fun (V : World) (hV : Below v2.heap.size v2 V) => TapeIs.tin (TapeIs.keep hT hV) (by omega) (by omega))
      obtain ⟨nl, hnl⟩ : ∃ x, TP.normA l = x := ⟨_, rfl⟩
      have hnll : nl.length ≤ 10 := by have := TP.norm_len l; rw [hnl] at this; omega
      have HNN := Lib.hid (show TP.normA nl = nl by rw [← hnl, TP.norm_norm])
      have HDEC := Lib.hid (show decP (encT es nl) = ((es, nl), 0) by rw [← hnl]; exact norm_dec hel hll he ha)
      have h64n : ∀ a ∈ nl, ∀ y ∈ anL a, I64 y := by rw [← hnl]; exact normA_i64 ha
      have HB8 := Lib.hid (encT_b8 he h64n)
      have HLE := Lib.hid (encT_le hel hnll)
      have H64 := Lib.hid (And.intro he (And.intro ha h64n))
      have HPOS := Lib.hid (show ∀ (i : Nat) (x : TP.An), nl[i]? = some x → 0 < x.2 from by rw [← hnl]; exact fun _ _ h => norm_pos h)
      have HLT := Lib.hid (show ∀ (i j : Nat) (x y : TP.An), i < j → nl[i]? = some x → nl[j]? = some y → NM.lexL (NM.quL x.1) (NM.quL y.1) < 0 from by rw [← hnl]; exact fun _ _ _ _ h h1 h2 => norm_lt h h1 h2)
      have HNL := Lib.hid hnl
      clear hc0 hc1 hT he ha h64n hnl
      have hk3 : (k : Int) < 2 := by omega
      obtain ⟨c0, c1⟩ := HROW.out wr HV.out
      go_upto_region 6 with (go_at_call 17; refine (normal_good (lo := v2.heap.size) wr (HTI.out wr HV.out) HNL.out HV.out.size).mono ?_; rintro e w5 ⟨⟨v, rfl, E2, cx2, A2, d2, rfl, hT2⟩, hb⟩; have HT2 := Lib.hid hT2; have HV5 := Lib.hid (HV.out.trans (hb.mono HV.out.size)); clear hT2 hb)
      clear c0 c1
      obtain ⟨U5, hU⟩ : ∃ U, w5.alloc (.cells #[.slice E2 es.length cx2, .slice A2 nl.length d2] 26) = U := ⟨_, rfl⟩
      rw [hU]
      obtain ⟨g9, hg_⟩ : ∃ g, g = w5.heap.size := ⟨_, rfl⟩
      rw [← hg_]
      have K9 := Lib.hid (show U5.heap[g9]? = some (.cells #[.slice E2 es.length cx2, .slice A2 nl.length d2] 26 (0, 0)) from by rw [hg_, ← hU]; exact new_at rfl)
      have hb : Below w5.heap.size w5 U5 := hU ▸ one_box _ _
      replace HT2 := Lib.hid (HT2.out.keep hb)
      replace HV5 := Lib.hid (HV5.out.trans (hb.mono HV5.out.size))
      clear hb hU hg_
      obtain ⟨c0, c1⟩ := HROW.out U5 HV5.out
      go_upto_region 7 with (first
        | (go_at_call 33; refine (encode_good U5 (HTI.out U5 HV5.out) hel hll H64.out.1 H64.out.2.1 HNL.out).mono ?_; rintro e w6 ⟨⟨v, rfl, B6, m6, cx6, rfl, hB6⟩, hb⟩; have HB6 := Lib.hid hB6; have HV6 := Lib.hid hb; clear hB6 hb)
        | (go_at_call 37; refine (decode_good w6 HB6.out.2 (by have := HB6.out.1; have := HLE.out; omega) HB8.out HDEC.out).mono ?_; rintro e w7 ⟨⟨E3, n3, cx3, A3, m3, d3, rfl, hT3⟩, hb⟩; obtain rfl : es.length = n3 := hT3.1.1; obtain rfl : nl.length = m3 := hT3.1.2; have HT3 := Lib.hid (show TapeIs w6.heap.size w7 E3 es.length cx3 A3 nl.length d3 es nl from hT3); have HV7 := Lib.hid (HV6.out.trans (hb.mono HV6.out.size)); clear hT3 hb))
      clear c0 c1
      obtain ⟨U7, hU⟩ : ∃ U, w7.alloc (.cells #[.slice E3 es.length cx3, .slice A3 nl.length d3] 26) = U := ⟨_, rfl⟩
      rw [hU]
      obtain ⟨g10, hg_⟩ : ∃ g, g = w7.heap.size := ⟨_, rfl⟩
      rw [← hg_]
      have k10 : U7.heap[g10]? = some (.cells #[.slice E3 es.length cx3, .slice A3 nl.length d3] 26 (0, 0)) := by rw [hg_, ← hU]; exact new_at rfl
      have hb : Below w7.heap.size w7 U7 := hU ▸ one_box _ _
      have h57 : Below U5.heap.size U5 U7 := HV7.out.trans (hb.mono HV7.out.size)
      have hV7 := HV5.out.trans (h57.mono HV5.out.size)
      have k9 := (h57.block g9 (heap_lt K9.out)).trans K9.out
      have t2 := HT2.out.keep h57
      have t3 := HT3.out.keep hb
      have HV8 := Lib.hid hV7
      have HI0 := Lib.hid (fun (V : World) (hV : Below U7.heap.size U7 V) => HTI.out V (hV7.trans (hV.mono hV7.size)))
      have HI2 := Lib.hid (fun (V : World) (hV : Below U7.heap.size U7 V) => TapeIs.tin (t2.keep hV) (by omega) (by omega))
      have HI3 := Lib.hid (fun (V : World) (hV : Below U7.heap.size U7 V) => TapeIs.tin (t3.keep hV) (by omega) (by omega))
      have HF := Lib.hid (fun (V : World) (hV : Below U7.heap.size U7 V) => And.intro (row2C ((hV.block g9 (heap_lt k9)).trans k9)) (And.intro (row2C ((hV.block g10 (heap_lt k10)).trans k10)) (HROW.out V (hV7.trans (hV.mono hV7.size)))))
      have HLO := Lib.hid (show w.heap.size ≤ U7.heap.size from Nat.le_trans HB.out.size HV8.out.size)
      clear hb hU hg_ k10 k9 h57 hV7 t2 t3 HV5 HV6 HV7 HT2 HT3 K9 HB6 HROW HTI HB8 HDEC
      refine RgX.regionB 35 (fun i => ( 37 + i)) (fun ix_ => match ix_ with | 0 => .v (.int .i64 0) | 1 => .v (.bool false) | 2 => .v (.bool false) | 3 => .v (.agg #[.slice E3 es.length cx3, .slice A3 nl.length d3]) | 4 => .v (.agg #[.slice E2 es.length cx2, .slice A2 nl.length d2]) | 5 => .v (.bool true) | 6 => .v (.bool false) | 7 => .v (.bool false) | 8 => .v (.bool false) | 9 => .v (.agg #[.slice E2 es.length cx2, .slice A2 nl.length d2]) | 10 => .tape w.heap.size es nl es.length nl.length | 11 => .v (.agg #[.slice E2 es.length cx2, .slice A2 nl.length d2]) | 12 => .v (.bool true) | 13 => .v (.bool false) | 14 => .v (.bool false) | 15 => .v (.bool false) | 16 => .v (.slice (some ⟨g7, 0, none⟩) 2 2) | 17 => .v (.int .i64 (k : Int)) | 18 => .v (.pointer (some ⟨g7, k * 2, none⟩)) | 19 => .v (.agg #[.slice E es.length ce, .slice A l.length ca]) | 20 => .v (.agg #[.slice E2 es.length cx2, .slice A2 nl.length d2]) | 21 => .v (.bool true) | 22 => .v (.bool false) | 23 => .v (.bool false) | 24 => .v (.bool false) | 25 => .v (.agg #[.slice E2 es.length cx2, .slice A2 nl.length d2]) | 26 => .byt (encT es nl) | 27 => .v (.slice (some ⟨g7, 0, none⟩) 2 2) | 28 => .v (.int .i64 (k : Int)) | 29 => .v (.pointer (some ⟨g7, k * 2, none⟩)) | 30 => .v (.agg #[.slice E es.length ce, .slice A l.length ca]) | 31 => .byt (encT es nl) | 32 => .v (.bool true) | 33 => .v (.bool false) | 34 => .v (.bool false) | _ => .any) (by kernel_rfl) rfl (by kernel_rfl)  (fun i hi => by show ( 37 + i) < 108; (repeat' split) <;> omega) (fun i j hi hj => by show ( 37 + i) = ( 37 + j) → i = j; (repeat' split) <;> omega) ?step ?fin
      case step =>
        intro L_ A_ w3 ix op_ hI ho hdep
        have hi : ix < 35 := (Array.getElem?_eq_some_iff.1 ho).1
        have hcase : ix = 0 ∨ ix = 1 ∨ ix = 2 ∨ ix = 3 ∨ ix = 4 ∨ ix = 5 ∨ ix = 6 ∨ ix = 7 ∨ ix = 8 ∨ ix = 9 ∨ ix = 10 ∨ ix = 11 ∨ ix = 12 ∨ ix = 13 ∨ ix = 14 ∨ ix = 15 ∨ ix = 16 ∨ ix = 17 ∨ ix = 18 ∨ ix = 19 ∨ ix = 20 ∨ ix = 21 ∨ ix = 22 ∨ ix = 23 ∨ ix = 24 ∨ ix = 25 ∨ ix = 26 ∨ ix = 27 ∨ ix = 28 ∨ ix = 29 ∨ ix = 30 ∨ ix = 31 ∨ ix = 32 ∨ ix = 33 ∨ ix = 34 := by omega
        have hh := hI.held
        clear hi
        rcases hcase with rfl | rfl | rfl | rfl | rfl | rfl | rfl | rfl | rfl | rfl | rfl | rfl | rfl | rfl | rfl | rfl | rfl | rfl | rfl | rfl | rfl | rfl | rfl | rfl | rfl | rfl | rfl | rfl | rfl | rfl | rfl | rfl | rfl | rfl | rfl
        · simp only [List.getElem?_toArray, List.getElem?_cons_zero, Option.some.injEq] at ho
          subst ho
          refine ⟨rfl, ?_⟩
          have e11 : A_.tmps[11]?.getD undef = .int .i64 0 := by rw [hI.low 11 (by decide)]; rfl
          clear hI hdep
          exact .run rfl (.int .i64 0) w3 (by simp [execOp, go_sem, Act.eval, e11]) (Below.refl _ _) rfl
        · simp only [List.getElem?_toArray, List.getElem?_cons_succ, List.getElem?_cons_zero, Option.some.injEq] at ho
          subst ho
          refine ⟨rfl, ?_⟩
          have e37 : A_.tmps[37]?.getD undef = .int .i64 0 := getD_of (hI.val_ (i := 0) rfl rfl (by decide) (hdep ⟨0, .data⟩ (by simp) rfl))
          clear hI hdep
          exact .run rfl (.bool false) w3 (by simp [execOp, go_sem, Act.eval, e37]) (Below.refl _ _) rfl
        · simp only [List.getElem?_toArray, List.getElem?_cons_succ, List.getElem?_cons_zero, Option.some.injEq] at ho
          subst ho
          refine ⟨rfl, ?_⟩
          have e38 : A_.tmps[38]?.getD undef = .bool false := getD_of (hI.val_ (i := 1) rfl rfl (by decide) (hdep ⟨1, .data⟩ (by simp) rfl))
          clear hI hdep
          exact .run rfl (.bool false) w3 (by simp [execOp, go_sem, Act.eval, e38]) (Below.refl _ _) rfl
        · simp only [List.getElem?_toArray, List.getElem?_cons_succ, List.getElem?_cons_zero, Option.some.injEq] at ho
          subst ho
          refine ⟨rfl, ?_⟩
          have q39 : A_.tmps[39]? = some (.bool false) := hI.val_ (i := 2) rfl rfl (by decide) (hdep ⟨2, .guard⟩ (by simp) rfl)
          have e10 : A_.tmps[10]?.getD undef = .pointer (some ⟨g10, 0, none⟩) := by rw [hI.low 10 (by decide)]; rfl
          clear hI hdep
          obtain ⟨⟨x0, x1⟩, ⟨y0, y1⟩, _, _⟩ := HF.out w3 hh
          exact .run ((wanted_some rfl rfl q39).trans rfl) (.agg #[.slice E3 es.length cx3, .slice A3 nl.length d3]) w3 (by simp [execOp, go_sem, Act.eval, *]) (Below.refl _ _) rfl
        · simp only [List.getElem?_toArray, List.getElem?_cons_succ, List.getElem?_cons_zero, Option.some.injEq] at ho
          subst ho
          refine ⟨rfl, ?_⟩
          have q39 : A_.tmps[39]? = some (.bool false) := hI.val_ (i := 2) rfl rfl (by decide) (hdep ⟨2, .guard⟩ (by simp) rfl)
          have e9 : A_.tmps[9]?.getD undef = .pointer (some ⟨g9, 0, none⟩) := by rw [hI.low 9 (by decide)]; rfl
          clear hI hdep
          obtain ⟨⟨x0, x1⟩, ⟨y0, y1⟩, _, _⟩ := HF.out w3 hh
          exact .run ((wanted_some rfl rfl q39).trans rfl) (.agg #[.slice E2 es.length cx2, .slice A2 nl.length d2]) w3 (by simp [execOp, go_sem, Act.eval, *]) (Below.refl _ _) rfl
        · simp only [List.getElem?_toArray, List.getElem?_cons_succ, List.getElem?_cons_zero, Option.some.injEq] at ho
          subst ho
          refine ⟨rfl, ?_⟩
          have q39 : A_.tmps[39]? = some (.bool false) := hI.val_ (i := 2) rfl rfl (by decide) (hdep ⟨2, .guard⟩ (by simp) rfl)
          have e40 : A_.tmps[40]?.getD undef = .agg #[.slice E3 es.length cx3, .slice A3 nl.length d3] := getD_of (hI.val_ (i := 3) rfl rfl (by decide) (hdep ⟨3, .data⟩ (by simp) rfl))
          have e41 : A_.tmps[41]?.getD undef = .agg #[.slice E2 es.length cx2, .slice A2 nl.length d2] := getD_of (hI.val_ (i := 4) rfl rfl (by decide) (hdep ⟨4, .data⟩ (by simp) rfl))
          clear hI hdep
          exact .call ((wanted_some rfl rfl q39).trans rfl) 16 #[.agg #[.slice E3 es.length cx3, .slice A3 nl.length d3], .agg #[.slice E2 es.length cx2, .slice A2 nl.length d2]] (by simp [go_sem, Act.eval, e40, e41]) ((same_good w3 (HI3.out w3 hh) (HI2.out w3 hh)).mono fun _ _ ⟨h1_, h2_⟩ => ⟨⟨_, h1_, rfl⟩, h2_⟩)
        · simp only [List.getElem?_toArray, List.getElem?_cons_succ, List.getElem?_cons_zero, Option.some.injEq] at ho
          subst ho
          refine ⟨rfl, ?_⟩
          have q39 : A_.tmps[39]? = some (.bool false) := hI.val_ (i := 2) rfl rfl (by decide) (hdep ⟨2, .guard⟩ (by simp) rfl)
          have e42 : A_.tmps[42]?.getD undef = .bool true := getD_of (hI.val_ (i := 5) rfl rfl (by decide) (hdep ⟨5, .data⟩ (by simp) rfl))
          clear hI hdep
          exact .run ((wanted_some rfl rfl q39).trans rfl) (.bool false) w3 (by simp [execOp, go_sem, Act.eval, e42]) (Below.refl _ _) rfl
        · simp only [List.getElem?_toArray, List.getElem?_cons_succ, List.getElem?_cons_zero, Option.some.injEq] at ho
          subst ho
          refine ⟨rfl, ?_⟩
          have e39 : A_.tmps[39]?.getD undef = .bool false := getD_of (hI.val_ (i := 2) rfl rfl (by decide) (hdep ⟨2, .data⟩ (by simp) rfl))
          have e43 : A_.tmps[43]?.getD undef = .bool false := getD_of (hI.val_ (i := 6) rfl rfl (by decide) (hdep ⟨6, .data⟩ (by simp) rfl))
          clear hI hdep
          exact .run rfl (.bool false) w3 (by simp [execOp, go_sem, Act.eval, e39, e43]) (Below.refl _ _) rfl
        · simp only [List.getElem?_toArray, List.getElem?_cons_succ, List.getElem?_cons_zero, Option.some.injEq] at ho
          subst ho
          refine ⟨rfl, ?_⟩
          have e44 : A_.tmps[44]?.getD undef = .bool false := getD_of (hI.val_ (i := 7) rfl rfl (by decide) (hdep ⟨7, .data⟩ (by simp) rfl))
          clear hI hdep
          exact .run rfl (.bool false) w3 (by simp [execOp, go_sem, Act.eval, e44]) (Below.refl _ _) rfl
        · simp only [List.getElem?_toArray, List.getElem?_cons_succ, List.getElem?_cons_zero, Option.some.injEq] at ho
          subst ho
          refine ⟨rfl, ?_⟩
          have q45 : A_.tmps[45]? = some (.bool false) := hI.val_ (i := 8) rfl rfl (by decide) (hdep ⟨8, .guard⟩ (by simp) rfl)
          have e9 : A_.tmps[9]?.getD undef = .pointer (some ⟨g9, 0, none⟩) := by rw [hI.low 9 (by decide)]; rfl
          clear hI hdep
          obtain ⟨⟨x0, x1⟩, ⟨y0, y1⟩, _, _⟩ := HF.out w3 hh
          exact .run ((wanted_some rfl rfl q45).trans rfl) (.agg #[.slice E2 es.length cx2, .slice A2 nl.length d2]) w3 (by simp [execOp, go_sem, Act.eval, *]) (Below.refl _ _) rfl
        · simp only [List.getElem?_toArray, List.getElem?_cons_succ, List.getElem?_cons_zero, Option.some.injEq] at ho
          subst ho
          refine ⟨rfl, ?_⟩
          have q45 : A_.tmps[45]? = some (.bool false) := hI.val_ (i := 8) rfl rfl (by decide) (hdep ⟨8, .guard⟩ (by simp) rfl)
          have e46 : A_.tmps[46]?.getD undef = .agg #[.slice E2 es.length cx2, .slice A2 nl.length d2] := getD_of (hI.val_ (i := 9) rfl rfl (by decide) (hdep ⟨9, .data⟩ (by simp) rfl))
          clear hI hdep
          exact .call ((wanted_some rfl rfl q45).trans rfl) 17 #[.agg #[.slice E2 es.length cx2, .slice A2 nl.length d2]] (by simp [go_sem, Act.eval, e46]) (normal_good w3 (HI2.out w3 hh) HNN.out (Nat.le_trans HLO.out hh.size))
        · simp only [List.getElem?_toArray, List.getElem?_cons_succ, List.getElem?_cons_zero, Option.some.injEq] at ho
          subst ho
          refine ⟨rfl, ?_⟩
          have q45 : A_.tmps[45]? = some (.bool false) := hI.val_ (i := 8) rfl rfl (by decide) (hdep ⟨8, .guard⟩ (by simp) rfl)
          have e9 : A_.tmps[9]?.getD undef = .pointer (some ⟨g9, 0, none⟩) := by rw [hI.low 9 (by decide)]; rfl
          clear hI hdep
          obtain ⟨⟨x0, x1⟩, ⟨y0, y1⟩, _, _⟩ := HF.out w3 hh
          exact .run ((wanted_some rfl rfl q45).trans rfl) (.agg #[.slice E2 es.length cx2, .slice A2 nl.length d2]) w3 (by simp [execOp, go_sem, Act.eval, *]) (Below.refl _ _) rfl
        · simp only [List.getElem?_toArray, List.getElem?_cons_succ, List.getElem?_cons_zero, Option.some.injEq] at ho
          subst ho
          refine ⟨rfl, ?_⟩
          have q45 : A_.tmps[45]? = some (.bool false) := hI.val_ (i := 8) rfl rfl (by decide) (hdep ⟨8, .guard⟩ (by simp) rfl)
          obtain ⟨_, e47, E47, c47, A47, d47, rfl, h47⟩ := hI.get_ (i := 10) (j := 47) rfl rfl (by decide) (hdep ⟨10, .data⟩ (by simp) rfl)
          have e48 : A_.tmps[48]?.getD undef = .agg #[.slice E2 es.length cx2, .slice A2 nl.length d2] := getD_of (hI.val_ (i := 11) rfl rfl (by decide) (hdep ⟨11, .data⟩ (by simp) rfl))
          clear hI hdep
          exact .call ((wanted_some rfl rfl q45).trans rfl) 16 #[.agg #[.slice E47 es.length c47, .slice A47 nl.length d47], .agg #[.slice E2 es.length cx2, .slice A2 nl.length d2]] (by simp [go_sem, Act.eval, e47, e48]) ((same_good w3 (TapeIs.tin h47 (by omega) (by omega)) (HI2.out w3 hh)).mono fun _ _ ⟨h1_, h2_⟩ => ⟨⟨_, h1_, rfl⟩, h2_⟩)
        · simp only [List.getElem?_toArray, List.getElem?_cons_succ, List.getElem?_cons_zero, Option.some.injEq] at ho
          subst ho
          refine ⟨rfl, ?_⟩
          have q45 : A_.tmps[45]? = some (.bool false) := hI.val_ (i := 8) rfl rfl (by decide) (hdep ⟨8, .guard⟩ (by simp) rfl)
          have e49 : A_.tmps[49]?.getD undef = .bool true := getD_of (hI.val_ (i := 12) rfl rfl (by decide) (hdep ⟨12, .data⟩ (by simp) rfl))
          clear hI hdep
          exact .run ((wanted_some rfl rfl q45).trans rfl) (.bool false) w3 (by simp [execOp, go_sem, Act.eval, e49]) (Below.refl _ _) rfl
        · simp only [List.getElem?_toArray, List.getElem?_cons_succ, List.getElem?_cons_zero, Option.some.injEq] at ho
          subst ho
          refine ⟨rfl, ?_⟩
          have e45 : A_.tmps[45]?.getD undef = .bool false := getD_of (hI.val_ (i := 8) rfl rfl (by decide) (hdep ⟨8, .data⟩ (by simp) rfl))
          have e50 : A_.tmps[50]?.getD undef = .bool false := getD_of (hI.val_ (i := 13) rfl rfl (by decide) (hdep ⟨13, .data⟩ (by simp) rfl))
          clear hI hdep
          exact .run rfl (.bool false) w3 (by simp [execOp, go_sem, Act.eval, e45, e50]) (Below.refl _ _) rfl
        · simp only [List.getElem?_toArray, List.getElem?_cons_succ, List.getElem?_cons_zero, Option.some.injEq] at ho
          subst ho
          refine ⟨rfl, ?_⟩
          have e51 : A_.tmps[51]?.getD undef = .bool false := getD_of (hI.val_ (i := 14) rfl rfl (by decide) (hdep ⟨14, .data⟩ (by simp) rfl))
          clear hI hdep
          exact .run rfl (.bool false) w3 (by simp [execOp, go_sem, Act.eval, e51]) (Below.refl _ _) rfl
        · simp only [List.getElem?_toArray, List.getElem?_cons_succ, List.getElem?_cons_zero, Option.some.injEq] at ho
          subst ho
          refine ⟨rfl, ?_⟩
          have q52 : A_.tmps[52]? = some (.bool false) := hI.val_ (i := 15) rfl rfl (by decide) (hdep ⟨15, .guard⟩ (by simp) rfl)
          have e7 : A_.tmps[7]?.getD undef = .slice (some ⟨g7, 0, none⟩) 2 2 := by rw [hI.low 7 (by decide)]; rfl
          clear hI hdep
          exact .run ((wanted_some rfl rfl q52).trans rfl) (.slice (some ⟨g7, 0, none⟩) 2 2) w3 (by simp [execOp, go_sem, Act.eval, e7]) (Below.refl _ _) rfl
        · simp only [List.getElem?_toArray, List.getElem?_cons_succ, List.getElem?_cons_zero, Option.some.injEq] at ho
          subst ho
          refine ⟨rfl, ?_⟩
          have q52 : A_.tmps[52]? = some (.bool false) := hI.val_ (i := 15) rfl rfl (by decide) (hdep ⟨15, .guard⟩ (by simp) rfl)
          have e8 : A_.tmps[8]?.getD undef = .int .i64 (k : Int) := by rw [hI.low 8 (by decide)]; rfl
          clear hI hdep
          exact .run ((wanted_some rfl rfl q52).trans rfl) (.int .i64 (k : Int)) w3 (by simp [execOp, go_sem, Act.eval, e8]) (Below.refl _ _) rfl
        · simp only [List.getElem?_toArray, List.getElem?_cons_succ, List.getElem?_cons_zero, Option.some.injEq] at ho
          subst ho
          refine ⟨rfl, ?_⟩
          have q52 : A_.tmps[52]? = some (.bool false) := hI.val_ (i := 15) rfl rfl (by decide) (hdep ⟨15, .guard⟩ (by simp) rfl)
          have e53 : A_.tmps[53]?.getD undef = .slice (some ⟨g7, 0, none⟩) 2 2 := getD_of (hI.val_ (i := 16) rfl rfl (by decide) (hdep ⟨16, .data⟩ (by simp) rfl))
          have e54 : A_.tmps[54]?.getD undef = .int .i64 (k : Int) := getD_of (hI.val_ (i := 17) rfl rfl (by decide) (hdep ⟨17, .data⟩ (by simp) rfl))
          clear hI hdep
          exact .run ((wanted_some rfl rfl q52).trans rfl) (.pointer (some ⟨g7, k * 2, none⟩)) w3 (by simp [execOp, go_sem, Act.eval, e53, e54, hk3]) (Below.refl _ _) rfl
        · simp only [List.getElem?_toArray, List.getElem?_cons_succ, List.getElem?_cons_zero, Option.some.injEq] at ho
          subst ho
          refine ⟨rfl, ?_⟩
          have q52 : A_.tmps[52]? = some (.bool false) := hI.val_ (i := 15) rfl rfl (by decide) (hdep ⟨15, .guard⟩ (by simp) rfl)
          have e55 : A_.tmps[55]?.getD undef = .pointer (some ⟨g7, k * 2, none⟩) := getD_of (hI.val_ (i := 18) rfl rfl (by decide) (hdep ⟨18, .data⟩ (by simp) rfl))
          clear hI hdep
          obtain ⟨_, _, c0, c1⟩ := HF.out w3 hh
          exact .run ((wanted_some rfl rfl q52).trans rfl) (.agg #[.slice E es.length ce, .slice A l.length ca]) w3 (by simp [execOp, go_sem, Act.eval, e55, c0, c1]) (Below.refl _ _) rfl
        · simp only [List.getElem?_toArray, List.getElem?_cons_succ, List.getElem?_cons_zero, Option.some.injEq] at ho
          subst ho
          refine ⟨rfl, ?_⟩
          have q52 : A_.tmps[52]? = some (.bool false) := hI.val_ (i := 15) rfl rfl (by decide) (hdep ⟨15, .guard⟩ (by simp) rfl)
          have e9 : A_.tmps[9]?.getD undef = .pointer (some ⟨g9, 0, none⟩) := by rw [hI.low 9 (by decide)]; rfl
          clear hI hdep
          obtain ⟨⟨x0, x1⟩, ⟨y0, y1⟩, _, _⟩ := HF.out w3 hh
          exact .run ((wanted_some rfl rfl q52).trans rfl) (.agg #[.slice E2 es.length cx2, .slice A2 nl.length d2]) w3 (by simp [execOp, go_sem, Act.eval, *]) (Below.refl _ _) rfl
        · simp only [List.getElem?_toArray, List.getElem?_cons_succ, List.getElem?_cons_zero, Option.some.injEq] at ho
          subst ho
          refine ⟨rfl, ?_⟩
          have q52 : A_.tmps[52]? = some (.bool false) := hI.val_ (i := 15) rfl rfl (by decide) (hdep ⟨15, .guard⟩ (by simp) rfl)
          have e56 : A_.tmps[56]?.getD undef = .agg #[.slice E es.length ce, .slice A l.length ca] := getD_of (hI.val_ (i := 19) rfl rfl (by decide) (hdep ⟨19, .data⟩ (by simp) rfl))
          have e57 : A_.tmps[57]?.getD undef = .agg #[.slice E2 es.length cx2, .slice A2 nl.length d2] := getD_of (hI.val_ (i := 20) rfl rfl (by decide) (hdep ⟨20, .data⟩ (by simp) rfl))
          clear hI hdep
          exact .call ((wanted_some rfl rfl q52).trans rfl) 19 #[.agg #[.slice E es.length ce, .slice A l.length ca], .agg #[.slice E2 es.length cx2, .slice A2 nl.length d2]] (by simp [go_sem, Act.eval, e56, e57]) ((equal_good w3 (HI0.out w3 hh) (HI2.out w3 hh) HNL.out HNN.out).mono fun _ _ ⟨h1_, h2_⟩ => ⟨⟨_, h1_, rfl⟩, h2_⟩)
        · simp only [List.getElem?_toArray, List.getElem?_cons_succ, List.getElem?_cons_zero, Option.some.injEq] at ho
          subst ho
          refine ⟨rfl, ?_⟩
          have q52 : A_.tmps[52]? = some (.bool false) := hI.val_ (i := 15) rfl rfl (by decide) (hdep ⟨15, .guard⟩ (by simp) rfl)
          have e58 : A_.tmps[58]?.getD undef = .bool true := getD_of (hI.val_ (i := 21) rfl rfl (by decide) (hdep ⟨21, .data⟩ (by simp) rfl))
          clear hI hdep
          exact .run ((wanted_some rfl rfl q52).trans rfl) (.bool false) w3 (by simp [execOp, go_sem, Act.eval, e58]) (Below.refl _ _) rfl
        · simp only [List.getElem?_toArray, List.getElem?_cons_succ, List.getElem?_cons_zero, Option.some.injEq] at ho
          subst ho
          refine ⟨rfl, ?_⟩
          have e52 : A_.tmps[52]?.getD undef = .bool false := getD_of (hI.val_ (i := 15) rfl rfl (by decide) (hdep ⟨15, .data⟩ (by simp) rfl))
          have e59 : A_.tmps[59]?.getD undef = .bool false := getD_of (hI.val_ (i := 22) rfl rfl (by decide) (hdep ⟨22, .data⟩ (by simp) rfl))
          clear hI hdep
          exact .run rfl (.bool false) w3 (by simp [execOp, go_sem, Act.eval, e52, e59]) (Below.refl _ _) rfl
        · simp only [List.getElem?_toArray, List.getElem?_cons_succ, List.getElem?_cons_zero, Option.some.injEq] at ho
          subst ho
          refine ⟨rfl, ?_⟩
          have e60 : A_.tmps[60]?.getD undef = .bool false := getD_of (hI.val_ (i := 23) rfl rfl (by decide) (hdep ⟨23, .data⟩ (by simp) rfl))
          clear hI hdep
          exact .run rfl (.bool false) w3 (by simp [execOp, go_sem, Act.eval, e60]) (Below.refl _ _) rfl
        · simp only [List.getElem?_toArray, List.getElem?_cons_succ, List.getElem?_cons_zero, Option.some.injEq] at ho
          subst ho
          refine ⟨rfl, ?_⟩
          have q61 : A_.tmps[61]? = some (.bool false) := hI.val_ (i := 24) rfl rfl (by decide) (hdep ⟨24, .guard⟩ (by simp) rfl)
          have e9 : A_.tmps[9]?.getD undef = .pointer (some ⟨g9, 0, none⟩) := by rw [hI.low 9 (by decide)]; rfl
          clear hI hdep
          obtain ⟨⟨x0, x1⟩, ⟨y0, y1⟩, _, _⟩ := HF.out w3 hh
          exact .run ((wanted_some rfl rfl q61).trans rfl) (.agg #[.slice E2 es.length cx2, .slice A2 nl.length d2]) w3 (by simp [execOp, go_sem, Act.eval, *]) (Below.refl _ _) rfl
        · simp only [List.getElem?_toArray, List.getElem?_cons_succ, List.getElem?_cons_zero, Option.some.injEq] at ho
          subst ho
          refine ⟨rfl, ?_⟩
          have q61 : A_.tmps[61]? = some (.bool false) := hI.val_ (i := 24) rfl rfl (by decide) (hdep ⟨24, .guard⟩ (by simp) rfl)
          have e62 : A_.tmps[62]?.getD undef = .agg #[.slice E2 es.length cx2, .slice A2 nl.length d2] := getD_of (hI.val_ (i := 25) rfl rfl (by decide) (hdep ⟨25, .data⟩ (by simp) rfl))
          clear hI hdep
          exact .call ((wanted_some rfl rfl q61).trans rfl) 33 #[.agg #[.slice E2 es.length cx2, .slice A2 nl.length d2]] (by simp [go_sem, Act.eval, e62]) (encode_good w3 (HI2.out w3 hh) hel hnll H64.out.1 H64.out.2.2 HNN.out)
        · simp only [List.getElem?_toArray, List.getElem?_cons_succ, List.getElem?_cons_zero, Option.some.injEq] at ho
          subst ho
          refine ⟨rfl, ?_⟩
          have q61 : A_.tmps[61]? = some (.bool false) := hI.val_ (i := 24) rfl rfl (by decide) (hdep ⟨24, .guard⟩ (by simp) rfl)
          have e7 : A_.tmps[7]?.getD undef = .slice (some ⟨g7, 0, none⟩) 2 2 := by rw [hI.low 7 (by decide)]; rfl
          clear hI hdep
          exact .run ((wanted_some rfl rfl q61).trans rfl) (.slice (some ⟨g7, 0, none⟩) 2 2) w3 (by simp [execOp, go_sem, Act.eval, e7]) (Below.refl _ _) rfl
        · simp only [List.getElem?_toArray, List.getElem?_cons_succ, List.getElem?_cons_zero, Option.some.injEq] at ho
          subst ho
          refine ⟨rfl, ?_⟩
          have q61 : A_.tmps[61]? = some (.bool false) := hI.val_ (i := 24) rfl rfl (by decide) (hdep ⟨24, .guard⟩ (by simp) rfl)
          have e8 : A_.tmps[8]?.getD undef = .int .i64 (k : Int) := by rw [hI.low 8 (by decide)]; rfl
          clear hI hdep
          exact .run ((wanted_some rfl rfl q61).trans rfl) (.int .i64 (k : Int)) w3 (by simp [execOp, go_sem, Act.eval, e8]) (Below.refl _ _) rfl
        · simp only [List.getElem?_toArray, List.getElem?_cons_succ, List.getElem?_cons_zero, Option.some.injEq] at ho
          subst ho
          refine ⟨rfl, ?_⟩
          have q61 : A_.tmps[61]? = some (.bool false) := hI.val_ (i := 24) rfl rfl (by decide) (hdep ⟨24, .guard⟩ (by simp) rfl)
          have e64 : A_.tmps[64]?.getD undef = .slice (some ⟨g7, 0, none⟩) 2 2 := getD_of (hI.val_ (i := 27) rfl rfl (by decide) (hdep ⟨27, .data⟩ (by simp) rfl))
          have e65 : A_.tmps[65]?.getD undef = .int .i64 (k : Int) := getD_of (hI.val_ (i := 28) rfl rfl (by decide) (hdep ⟨28, .data⟩ (by simp) rfl))
          clear hI hdep
          exact .run ((wanted_some rfl rfl q61).trans rfl) (.pointer (some ⟨g7, k * 2, none⟩)) w3 (by simp [execOp, go_sem, Act.eval, e64, e65, hk3]) (Below.refl _ _) rfl
        · simp only [List.getElem?_toArray, List.getElem?_cons_succ, List.getElem?_cons_zero, Option.some.injEq] at ho
          subst ho
          refine ⟨rfl, ?_⟩
          have q61 : A_.tmps[61]? = some (.bool false) := hI.val_ (i := 24) rfl rfl (by decide) (hdep ⟨24, .guard⟩ (by simp) rfl)
          have e66 : A_.tmps[66]?.getD undef = .pointer (some ⟨g7, k * 2, none⟩) := getD_of (hI.val_ (i := 29) rfl rfl (by decide) (hdep ⟨29, .data⟩ (by simp) rfl))
          clear hI hdep
          obtain ⟨_, _, c0, c1⟩ := HF.out w3 hh
          exact .run ((wanted_some rfl rfl q61).trans rfl) (.agg #[.slice E es.length ce, .slice A l.length ca]) w3 (by simp [execOp, go_sem, Act.eval, e66, c0, c1]) (Below.refl _ _) rfl
        · simp only [List.getElem?_toArray, List.getElem?_cons_succ, List.getElem?_cons_zero, Option.some.injEq] at ho
          subst ho
          refine ⟨rfl, ?_⟩
          have q61 : A_.tmps[61]? = some (.bool false) := hI.val_ (i := 24) rfl rfl (by decide) (hdep ⟨24, .guard⟩ (by simp) rfl)
          have e67 : A_.tmps[67]?.getD undef = .agg #[.slice E es.length ce, .slice A l.length ca] := getD_of (hI.val_ (i := 30) rfl rfl (by decide) (hdep ⟨30, .data⟩ (by simp) rfl))
          clear hI hdep
          exact .call ((wanted_some rfl rfl q61).trans rfl) 33 #[.agg #[.slice E es.length ce, .slice A l.length ca]] (by simp [go_sem, Act.eval, e67]) (encode_good w3 (HI0.out w3 hh) hel hll H64.out.1 H64.out.2.1 HNL.out)
        · simp only [List.getElem?_toArray, List.getElem?_cons_succ, List.getElem?_cons_zero, Option.some.injEq] at ho
          subst ho
          refine ⟨rfl, ?_⟩
          have q61 : A_.tmps[61]? = some (.bool false) := hI.val_ (i := 24) rfl rfl (by decide) (hdep ⟨24, .guard⟩ (by simp) rfl)
          obtain ⟨_, e63, B63, n63, c63, rfl, h63⟩ := hI.get_ (i := 26) (j := 63) rfl rfl (by decide) (hdep ⟨26, .data⟩ (by simp) rfl)
          obtain ⟨_, e68, B68, n68, c68, rfl, h68⟩ := hI.get_ (i := 31) (j := 68) rfl rfl (by decide) (hdep ⟨31, .data⟩ (by simp) rfl)
          clear hI hdep
          exact .call ((wanted_some rfl rfl q61).trans rfl) 32 #[.slice B63 n63 c63, .slice B68 n68 c68] (by simp [go_sem, Act.eval, e63, e68]) ((bytes_good w3 h63 h68 HLE.out).mono fun _ _ ⟨h1_, h2_⟩ => ⟨⟨_, h1_, rfl⟩, h2_⟩)
        · simp only [List.getElem?_toArray, List.getElem?_cons_succ, List.getElem?_cons_zero, Option.some.injEq] at ho
          subst ho
          refine ⟨rfl, ?_⟩
          have q61 : A_.tmps[61]? = some (.bool false) := hI.val_ (i := 24) rfl rfl (by decide) (hdep ⟨24, .guard⟩ (by simp) rfl)
          have e69 : A_.tmps[69]?.getD undef = .bool true := getD_of (hI.val_ (i := 32) rfl rfl (by decide) (hdep ⟨32, .data⟩ (by simp) rfl))
          clear hI hdep
          exact .run ((wanted_some rfl rfl q61).trans rfl) (.bool false) w3 (by simp [execOp, go_sem, Act.eval, e69]) (Below.refl _ _) rfl
        · simp only [List.getElem?_toArray, List.getElem?_cons_succ, List.getElem?_cons_zero, Option.some.injEq] at ho
          subst ho
          refine ⟨rfl, ?_⟩
          have e61 : A_.tmps[61]?.getD undef = .bool false := getD_of (hI.val_ (i := 24) rfl rfl (by decide) (hdep ⟨24, .data⟩ (by simp) rfl))
          have e70 : A_.tmps[70]?.getD undef = .bool false := getD_of (hI.val_ (i := 33) rfl rfl (by decide) (hdep ⟨33, .data⟩ (by simp) rfl))
          clear hI hdep
          exact .run rfl (.bool false) w3 (by simp [execOp, go_sem, Act.eval, e61, e70]) (Below.refl _ _) rfl
      case fin =>
      intro A_ w3 hs hd hlow hS hok
      obtain ⟨_, hy47, E47, c47, A47, d47, rfl, h47⟩ := hok 10 47 _ (by decide) rfl rfl
      obtain ⟨_, hy63, B63, n63, c63, rfl, h63⟩ := hok 26 63 _ (by decide) rfl rfl
      obtain ⟨_, hy68, B68, n68, c68, rfl, h68⟩ := hok 31 68 _ (by decide) rfl rfl
      obtain rfl : A_ = ⟨#[.slice a0 len0 cap0, .slice a1 len1 cap1, .agg #[.slice tE tn tc, .slice tA tm td], undef, undef, .pointer (some ⟨w.heap.size, 0, none⟩), u6, .slice (some ⟨g7, 0, none⟩) 2 2, .int .i64 (k : Int), .pointer (some ⟨g9, 0, none⟩), .pointer (some ⟨g10, 0, none⟩), .int .i64 0, u12, .slice a0 len0 cap0, .slice a1 len1 cap1, .agg #[.slice E15 e0.length c15, .slice A15 l0.length d15], .agg #[.slice tE tn tc, .slice tA tm td], .agg #[.slice E17 e1.length c17, .slice A17 l1.length d17], .slice (some ⟨g18, 0, none⟩) 2 2, .int .i64 (k : Int), .bool true, u21, u22, .slice (some ⟨g7, 0, none⟩) 2 2, .int .i64 (k : Int), .pointer (some { block := g7, off := k * 2 }), .agg #[.slice E es.length ce, .slice A l.length ca], .agg #[.slice E2 es.length cx2, .slice A2 nl.length d2], Value.tuple #[.agg #[.slice E3 es.length cx3, .slice A3 nl.length d3], .int .i64 0], .slice (some ⟨g7, 0, none⟩) 2 2, .int .i64 (k : Int), .pointer (some { block := g7, off := k * 2 }), .agg #[.slice E es.length ce, .slice A l.length ca], .slice B6 m6 cx6, Value.tuple #[.agg #[.slice E3 es.length cx3, .slice A3 nl.length d3], .int .i64 0], .agg #[.slice E3 es.length cx3, .slice A3 nl.length d3], .int .i64 0, .int .i64 0, .bool false, .bool false, .agg #[.slice E3 es.length cx3, .slice A3 nl.length d3], .agg #[.slice E2 es.length cx2, .slice A2 nl.length d2], .bool true, .bool false, .bool false, .bool false, .agg #[.slice E2 es.length cx2, .slice A2 nl.length d2], .agg #[.slice E47 es.length c47, .slice A47 nl.length d47], .agg #[.slice E2 es.length cx2, .slice A2 nl.length d2], .bool true, .bool false, .bool false, .bool false, .slice (some ⟨g7, 0, none⟩) 2 2, .int .i64 (k : Int), .pointer (some ⟨g7, k * 2, none⟩), .agg #[.slice E es.length ce, .slice A l.length ca], .agg #[.slice E2 es.length cx2, .slice A2 nl.length d2], .bool true, .bool false, .bool false, .bool false, .agg #[.slice E2 es.length cx2, .slice A2 nl.length d2], .slice B63 n63 c63, .slice (some ⟨g7, 0, none⟩) 2 2, .int .i64 (k : Int), .pointer (some ⟨g7, k * 2, none⟩), .agg #[.slice E es.length ce, .slice A l.length ca], .slice B68 n68 c68, .bool true, .bool false, .bool false, u72, u73, u74, u75, u76, u77, u78, u79, u80, u81, u82, u83, u84, u85, u86, u87, u88, u89, u90, u91, u92, u93, u94, u95, u96, u97, u98, u99, u100, u101, u102, u103, u104, u105, u106, undef], []⟩ := act_ext hd hs (fun j hj => match j, hj with | 0, _ => (hlow 0 (by decide)).trans rfl | 1, _ => (hlow 1 (by decide)).trans rfl | 2, _ => (hlow 2 (by decide)).trans rfl | 3, _ => (hlow 3 (by decide)).trans rfl | 4, _ => (hlow 4 (by decide)).trans rfl | 5, _ => (hlow 5 (by decide)).trans rfl | 6, _ => (hlow 6 (by decide)).trans rfl | 7, _ => (hlow 7 (by decide)).trans rfl | 8, _ => (hlow 8 (by decide)).trans rfl | 9, _ => (hlow 9 (by decide)).trans rfl | 10, _ => (hlow 10 (by decide)).trans rfl | 11, _ => (hlow 11 (by decide)).trans rfl | 12, _ => (hlow 12 (by decide)).trans rfl | 13, _ => (hlow 13 (by decide)).trans rfl | 14, _ => (hlow 14 (by decide)).trans rfl | 15, _ => (hlow 15 (by decide)).trans rfl | 16, _ => (hlow 16 (by decide)).trans rfl | 17, _ => (hlow 17 (by decide)).trans rfl | 18, _ => (hlow 18 (by decide)).trans rfl | 19, _ => (hlow 19 (by decide)).trans rfl | 20, _ => (hlow 20 (by decide)).trans rfl | 21, _ => (hlow 21 (by decide)).trans rfl | 22, _ => (hlow 22 (by decide)).trans rfl | 23, _ => (hlow 23 (by decide)).trans rfl | 24, _ => (hlow 24 (by decide)).trans rfl | 25, _ => (hlow 25 (by decide)).trans rfl | 26, _ => (hlow 26 (by decide)).trans rfl | 27, _ => (hlow 27 (by decide)).trans rfl | 28, _ => (hlow 28 (by decide)).trans rfl | 29, _ => (hlow 29 (by decide)).trans rfl | 30, _ => (hlow 30 (by decide)).trans rfl | 31, _ => (hlow 31 (by decide)).trans rfl | 32, _ => (hlow 32 (by decide)).trans rfl | 33, _ => (hlow 33 (by decide)).trans rfl | 34, _ => (hlow 34 (by decide)).trans rfl | 35, _ => (hlow 35 (by decide)).trans rfl | 36, _ => (hlow 36 (by decide)).trans rfl | 37, _ => RgX.val_at (hok 0 37 _ (by decide) rfl rfl) | 38, _ => RgX.val_at (hok 1 38 _ (by decide) rfl rfl) | 39, _ => RgX.val_at (hok 2 39 _ (by decide) rfl rfl) | 40, _ => RgX.val_at (hok 3 40 _ (by decide) rfl rfl) | 41, _ => RgX.val_at (hok 4 41 _ (by decide) rfl rfl) | 42, _ => RgX.val_at (hok 5 42 _ (by decide) rfl rfl) | 43, _ => RgX.val_at (hok 6 43 _ (by decide) rfl rfl) | 44, _ => RgX.val_at (hok 7 44 _ (by decide) rfl rfl) | 45, _ => RgX.val_at (hok 8 45 _ (by decide) rfl rfl) | 46, _ => RgX.val_at (hok 9 46 _ (by decide) rfl rfl) | 47, _ => hy47 | 48, _ => RgX.val_at (hok 11 48 _ (by decide) rfl rfl) | 49, _ => RgX.val_at (hok 12 49 _ (by decide) rfl rfl) | 50, _ => RgX.val_at (hok 13 50 _ (by decide) rfl rfl) | 51, _ => RgX.val_at (hok 14 51 _ (by decide) rfl rfl) | 52, _ => RgX.val_at (hok 15 52 _ (by decide) rfl rfl) | 53, _ => RgX.val_at (hok 16 53 _ (by decide) rfl rfl) | 54, _ => RgX.val_at (hok 17 54 _ (by decide) rfl rfl) | 55, _ => RgX.val_at (hok 18 55 _ (by decide) rfl rfl) | 56, _ => RgX.val_at (hok 19 56 _ (by decide) rfl rfl) | 57, _ => RgX.val_at (hok 20 57 _ (by decide) rfl rfl) | 58, _ => RgX.val_at (hok 21 58 _ (by decide) rfl rfl) | 59, _ => RgX.val_at (hok 22 59 _ (by decide) rfl rfl) | 60, _ => RgX.val_at (hok 23 60 _ (by decide) rfl rfl) | 61, _ => RgX.val_at (hok 24 61 _ (by decide) rfl rfl) | 62, _ => RgX.val_at (hok 25 62 _ (by decide) rfl rfl) | 63, _ => hy63 | 64, _ => RgX.val_at (hok 27 64 _ (by decide) rfl rfl) | 65, _ => RgX.val_at (hok 28 65 _ (by decide) rfl rfl) | 66, _ => RgX.val_at (hok 29 66 _ (by decide) rfl rfl) | 67, _ => RgX.val_at (hok 30 67 _ (by decide) rfl rfl) | 68, _ => hy68 | 69, _ => RgX.val_at (hok 32 69 _ (by decide) rfl rfl) | 70, _ => RgX.val_at (hok 33 70 _ (by decide) rfl rfl) | 71, _ => RgX.val_at (hok 34 71 _ (by decide) rfl rfl) | 72, _ => (hlow 72 (by decide)).trans rfl | 73, _ => (hlow 73 (by decide)).trans rfl | 74, _ => (hlow 74 (by decide)).trans rfl | 75, _ => (hlow 75 (by decide)).trans rfl | 76, _ => (hlow 76 (by decide)).trans rfl | 77, _ => (hlow 77 (by decide)).trans rfl | 78, _ => (hlow 78 (by decide)).trans rfl | 79, _ => (hlow 79 (by decide)).trans rfl | 80, _ => (hlow 80 (by decide)).trans rfl | 81, _ => (hlow 81 (by decide)).trans rfl | 82, _ => (hlow 82 (by decide)).trans rfl | 83, _ => (hlow 83 (by decide)).trans rfl | 84, _ => (hlow 84 (by decide)).trans rfl | 85, _ => (hlow 85 (by decide)).trans rfl | 86, _ => (hlow 86 (by decide)).trans rfl | 87, _ => (hlow 87 (by decide)).trans rfl | 88, _ => (hlow 88 (by decide)).trans rfl | 89, _ => (hlow 89 (by decide)).trans rfl | 90, _ => (hlow 90 (by decide)).trans rfl | 91, _ => (hlow 91 (by decide)).trans rfl | 92, _ => (hlow 92 (by decide)).trans rfl | 93, _ => (hlow 93 (by decide)).trans rfl | 94, _ => (hlow 94 (by decide)).trans rfl | 95, _ => (hlow 95 (by decide)).trans rfl | 96, _ => (hlow 96 (by decide)).trans rfl | 97, _ => (hlow 97 (by decide)).trans rfl | 98, _ => (hlow 98 (by decide)).trans rfl | 99, _ => (hlow 99 (by decide)).trans rfl | 100, _ => (hlow 100 (by decide)).trans rfl | 101, _ => (hlow 101 (by decide)).trans rfl | 102, _ => (hlow 102 (by decide)).trans rfl | 103, _ => (hlow 103 (by decide)).trans rfl | 104, _ => (hlow 104 (by decide)).trans rfl | 105, _ => (hlow 105 (by decide)).trans rfl | 106, _ => (hlow 106 (by decide)).trans rfl | 107, _ => (hlow 107 (by decide)).trans rfl | n + 108, h => absurd h (by show ¬ n + 108 < 108; omega))
      clear hs hd hlow hok hy47 hy63 hy68
      obtain ⟨v9, h9⟩ : ∃ V, V = w3 := ⟨_, rfl⟩
      rw [← h9] at hS ⊢
      have HB9 := Lib.hid hS
      clear hS h9 h47 h63 h68 HLE HNN HNL H64 HI0 HI3 HLO
      go_upto_region 10 with (fail)
      obtain ⟨wo, hwo⟩ : ∃ W, W = v9 := ⟨_, rfl⟩
      go_loopw [12] (fun i V => ∃ j : Nat, j ≤ nl.length ∧ i = .int .i64 (j : Int) ∧ Hid (Below U7.heap.size U7 V)) (fun i _ => nl.length - (intOf i).toNat)
      case atStart => exact ⟨0, by omega, rfl, HB9⟩
      case round =>
        clear HB9
        obtain ⟨j, hj, rfl, HB9⟩ := hrel
        obtain ⟨⟨x0, x1⟩, _, _, _⟩ := HF.out wr HB9.out
        by_cases hjn : j < nl.length
        · have dj : decide (j < nl.length) = true := decide_eq_true hjn
          have dj2 : decide ((j : Int) < (nl.length : Int)) = true := decide_eq_true (by omega)
          obtain ⟨gA, rfl, hgA, hAt⟩ := (HI2.out U7 (Below.refl _ _)).an.2 (by omega)
          obtain ⟨x, hx⟩ : ∃ x, nl[j]? = some x := ⟨_, List.getElem?_eq_getElem hjn⟩
          have hxp := HPOS.out j x hx
          have HX := Lib.hid (fun (V : World) (hV : Below U7.heap.size U7 V) => (hAt j x hx).keep hgA hV)
          have hj3 : (j : Int) < (nl.length : Int) := by omega
          by_cases hj0 : 0 < j
          · obtain ⟨i, hi⟩ : ∃ i, i = j - 1 := ⟨_, rfl⟩
            obtain ⟨y, hy⟩ : ∃ y, nl[i]? = some y := ⟨_, List.getElem?_eq_getElem (by omega)⟩
            have HY := Lib.hid (fun (V : World) (hV : Below U7.heap.size U7 V) => (hAt i y hy).keep hgA hV)
            have hlx0 := HLT.out i j y x (show i < j by omega) hy hx
            have HQ := Lib.hid (fun V => cmp_good y.1 x.1 V)
            obtain ⟨lx, hlx⟩ : ∃ v, NM.lexL (NM.quL y.1) (NM.quL x.1) = v := ⟨_, rfl⟩
            rw [hlx] at hlx0 HQ
            have hsub : IntKind.i64.wrap ((j : Int) - 1) = (i : Int) := by rw [show (j : Int) - 1 = (i : Int) by omega]; exact IntWalk.i64_in _ (by omega)
            have hi3 : (i : Int) < (nl.length : Int) := by omega
            have hin : i < nl.length := by omega
            clear hAt hx hy hlx
            go_upto_region 12 with (fail)
            clear x0 x1
            refine RgX.regionB 28 (fun i => ( 79 + i)) (fun ix_ => match ix_ with | 0 => .v (.pointer (some ⟨g9, 1, none⟩)) | 1 => .v (.slice (some ⟨gA, 0, none⟩) nl.length d2) | 2 => .v (.int .i64 (j : Int)) | 3 => .v (.pointer (some ⟨gA, j * 6, none⟩)) | 4 => .v (.pointer (some ⟨gA, j * 6 + 5, none⟩)) | 5 => .v (.int .i64 x.2) | 6 => .v (.bool false) | 7 => .v (.bool false) | 8 => .v (.int .i64 (j : Int)) | 9 => .v (.bool true) | 10 => .v (.bool true) | 11 => .v (.pointer (some ⟨g9, 1, none⟩)) | 12 => .v (.slice (some ⟨gA, 0, none⟩) nl.length d2) | 13 => .v (.int .i64 (j : Int)) | 14 => .v (.int .i64 (i : Int)) | 15 => .v (.pointer (some ⟨gA, i * 6, none⟩)) | 16 => .v (.pointer (some ⟨gA, i * 6, none⟩)) | 17 => .v (.agg #[.int .i64 y.1.c, .int .i64 y.1.h, .int .i64 y.1.t, .int .i64 y.1.k, .int .i64 y.1.i]) | 18 => .v (.pointer (some ⟨g9, 1, none⟩)) | 19 => .v (.slice (some ⟨gA, 0, none⟩) nl.length d2) | 20 => .v (.int .i64 (j : Int)) | 21 => .v (.pointer (some ⟨gA, j * 6, none⟩)) | 22 => .v (.pointer (some ⟨gA, j * 6, none⟩)) | 23 => .v (.agg #[.int .i64 x.1.c, .int .i64 x.1.h, .int .i64 x.1.t, .int .i64 x.1.k, .int .i64 x.1.i]) | 24 => .v (.int .i64 lx) | 25 => .v (.bool false) | 26 => .v (.bool false) | 27 => .v (.bool false) | _ => .any) (by kernel_rfl) rfl (by kernel_rfl)  (fun i hi => by show ( 79 + i) < 108; (repeat' split) <;> omega) (fun i j hi hj => by show ( 79 + i) = ( 79 + j) → i = j; (repeat' split) <;> omega) ?step ?fin
            case step =>
              intro L_ A_ w3 ix op_ hI ho hdep
              have hi : ix < 28 := (Array.getElem?_eq_some_iff.1 ho).1
              have hcase : ix = 0 ∨ ix = 1 ∨ ix = 2 ∨ ix = 3 ∨ ix = 4 ∨ ix = 5 ∨ ix = 6 ∨ ix = 7 ∨ ix = 8 ∨ ix = 9 ∨ ix = 10 ∨ ix = 11 ∨ ix = 12 ∨ ix = 13 ∨ ix = 14 ∨ ix = 15 ∨ ix = 16 ∨ ix = 17 ∨ ix = 18 ∨ ix = 19 ∨ ix = 20 ∨ ix = 21 ∨ ix = 22 ∨ ix = 23 ∨ ix = 24 ∨ ix = 25 ∨ ix = 26 ∨ ix = 27 := by omega
              have hh := hI.held
              clear hi
              rcases hcase with rfl | rfl | rfl | rfl | rfl | rfl | rfl | rfl | rfl | rfl | rfl | rfl | rfl | rfl | rfl | rfl | rfl | rfl | rfl | rfl | rfl | rfl | rfl | rfl | rfl | rfl | rfl | rfl
              · simp only [List.getElem?_toArray, List.getElem?_cons_zero, Option.some.injEq] at ho
                subst ho
                refine ⟨rfl, ?_⟩
                have e9 : A_.tmps[9]?.getD undef = .pointer (some ⟨g9, 0, none⟩) := by rw [hI.low 9 (by decide)]; rfl
                clear hI hdep
                exact .run rfl (.pointer (some ⟨g9, 1, none⟩)) w3 (by simp [execOp, go_sem, Act.eval, e9]) (Below.refl _ _) rfl
              · simp only [List.getElem?_toArray, List.getElem?_cons_succ, List.getElem?_cons_zero, Option.some.injEq] at ho
                subst ho
                refine ⟨rfl, ?_⟩
                have e79 : A_.tmps[79]?.getD undef = .pointer (some ⟨g9, 1, none⟩) := getD_of (hI.val_ (i := 0) rfl rfl (by decide) (hdep ⟨0, .data⟩ (by simp) rfl))
                clear hI hdep
                obtain ⟨⟨x0, x1⟩, _, _, _⟩ := HF.out w3 (HB9.out.trans (hh.mono HB9.out.size))
                exact .run rfl (.slice (some ⟨gA, 0, none⟩) nl.length d2) w3 (by simp [execOp, go_sem, Act.eval, *]) (Below.refl _ _) rfl
              · simp only [List.getElem?_toArray, List.getElem?_cons_succ, List.getElem?_cons_zero, Option.some.injEq] at ho
                subst ho
                refine ⟨rfl, ?_⟩
                have e12 : A_.tmps[12]?.getD undef = .int .i64 (j : Int) := by rw [hI.low 12 (by decide)]; rfl
                clear hI hdep
                exact .run rfl (.int .i64 (j : Int)) w3 (by simp [execOp, go_sem, Act.eval, e12]) (Below.refl _ _) rfl
              · simp only [List.getElem?_toArray, List.getElem?_cons_succ, List.getElem?_cons_zero, Option.some.injEq] at ho
                subst ho
                refine ⟨rfl, ?_⟩
                have e80 : A_.tmps[80]?.getD undef = .slice (some ⟨gA, 0, none⟩) nl.length d2 := getD_of (hI.val_ (i := 1) rfl rfl (by decide) (hdep ⟨1, .data⟩ (by simp) rfl))
                have e81 : A_.tmps[81]?.getD undef = .int .i64 (j : Int) := getD_of (hI.val_ (i := 2) rfl rfl (by decide) (hdep ⟨2, .data⟩ (by simp) rfl))
                clear hI hdep
                exact .run rfl (.pointer (some ⟨gA, j * 6, none⟩)) w3 (by simp [execOp, go_sem, Act.eval, e80, e81, hjn]) (Below.refl _ _) rfl
              · simp only [List.getElem?_toArray, List.getElem?_cons_succ, List.getElem?_cons_zero, Option.some.injEq] at ho
                subst ho
                refine ⟨rfl, ?_⟩
                have e82 : A_.tmps[82]?.getD undef = .pointer (some ⟨gA, j * 6, none⟩) := getD_of (hI.val_ (i := 3) rfl rfl (by decide) (hdep ⟨3, .data⟩ (by simp) rfl))
                clear hI hdep
                exact .run rfl (.pointer (some ⟨gA, j * 6 + 5, none⟩)) w3 (by simp [execOp, go_sem, Act.eval, e82]) (Below.refl _ _) rfl
              · simp only [List.getElem?_toArray, List.getElem?_cons_succ, List.getElem?_cons_zero, Option.some.injEq] at ho
                subst ho
                refine ⟨rfl, ?_⟩
                have e83 : A_.tmps[83]?.getD undef = .pointer (some ⟨gA, j * 6 + 5, none⟩) := getD_of (hI.val_ (i := 4) rfl rfl (by decide) (hdep ⟨4, .data⟩ (by simp) rfl))
                clear hI hdep
                obtain ⟨_, _, _, _, _, q5⟩ := HX.out w3 (HB9.out.trans (hh.mono HB9.out.size))
                exact .run rfl (.int .i64 x.2) w3 (by simp [execOp, go_sem, Act.eval, e83, q5]) (Below.refl _ _) rfl
              · simp only [List.getElem?_toArray, List.getElem?_cons_succ, List.getElem?_cons_zero, Option.some.injEq] at ho
                subst ho
                refine ⟨rfl, ?_⟩
                have e84 : A_.tmps[84]?.getD undef = .int .i64 x.2 := getD_of (hI.val_ (i := 5) rfl rfl (by decide) (hdep ⟨5, .data⟩ (by simp) rfl))
                clear hI hdep
                exact .run rfl (.bool false) w3 (by simp [execOp, go_sem, Act.eval, e84] <;> omega) (Below.refl _ _) rfl
              · simp only [List.getElem?_toArray, List.getElem?_cons_succ, List.getElem?_cons_zero, Option.some.injEq] at ho
                subst ho
                refine ⟨rfl, ?_⟩
                have e85 : A_.tmps[85]?.getD undef = .bool false := getD_of (hI.val_ (i := 6) rfl rfl (by decide) (hdep ⟨6, .data⟩ (by simp) rfl))
                clear hI hdep
                exact .run rfl (.bool false) w3 (by simp [execOp, go_sem, Act.eval, e85]) (Below.refl _ _) rfl
              · simp only [List.getElem?_toArray, List.getElem?_cons_succ, List.getElem?_cons_zero, Option.some.injEq] at ho
                subst ho
                refine ⟨rfl, ?_⟩
                have q86 : A_.tmps[86]? = some (.bool false) := hI.val_ (i := 7) rfl rfl (by decide) (hdep ⟨7, .guard⟩ (by simp) rfl)
                have e12 : A_.tmps[12]?.getD undef = .int .i64 (j : Int) := by rw [hI.low 12 (by decide)]; rfl
                clear hI hdep
                exact .run ((wanted_some rfl rfl q86).trans rfl) (.int .i64 (j : Int)) w3 (by simp [execOp, go_sem, Act.eval, e12]) (Below.refl _ _) rfl
              · simp only [List.getElem?_toArray, List.getElem?_cons_succ, List.getElem?_cons_zero, Option.some.injEq] at ho
                subst ho
                refine ⟨rfl, ?_⟩
                have q86 : A_.tmps[86]? = some (.bool false) := hI.val_ (i := 7) rfl rfl (by decide) (hdep ⟨7, .guard⟩ (by simp) rfl)
                have e87 : A_.tmps[87]?.getD undef = .int .i64 (j : Int) := getD_of (hI.val_ (i := 8) rfl rfl (by decide) (hdep ⟨8, .data⟩ (by simp) rfl))
                clear hI hdep
                exact .run ((wanted_some rfl rfl q86).trans rfl) (.bool true) w3 (by simp [execOp, go_sem, Act.eval, e87] <;> omega) (Below.refl _ _) rfl
              · simp only [List.getElem?_toArray, List.getElem?_cons_succ, List.getElem?_cons_zero, Option.some.injEq] at ho
                subst ho
                refine ⟨rfl, ?_⟩
                have q86 : A_.tmps[86]? = some (.bool false) := hI.val_ (i := 7) rfl rfl (by decide) (hdep ⟨7, .guard⟩ (by simp) rfl)
                have e88 : A_.tmps[88]?.getD undef = .bool true := getD_of (hI.val_ (i := 9) rfl rfl (by decide) (hdep ⟨9, .data⟩ (by simp) rfl))
                clear hI hdep
                exact .run ((wanted_some rfl rfl q86).trans rfl) (.bool true) w3 (by simp [execOp, go_sem, Act.eval, e88]) (Below.refl _ _) rfl
              · simp only [List.getElem?_toArray, List.getElem?_cons_succ, List.getElem?_cons_zero, Option.some.injEq] at ho
                subst ho
                refine ⟨rfl, ?_⟩
                have q89 : A_.tmps[89]? = some (.bool true) := hI.val_ (i := 10) rfl rfl (by decide) (hdep ⟨10, .guard⟩ (by simp) rfl)
                have e9 : A_.tmps[9]?.getD undef = .pointer (some ⟨g9, 0, none⟩) := by rw [hI.low 9 (by decide)]; rfl
                clear hI hdep
                exact .run ((wanted_some rfl rfl q89).trans rfl) (.pointer (some ⟨g9, 1, none⟩)) w3 (by simp [execOp, go_sem, Act.eval, e9]) (Below.refl _ _) rfl
              · simp only [List.getElem?_toArray, List.getElem?_cons_succ, List.getElem?_cons_zero, Option.some.injEq] at ho
                subst ho
                refine ⟨rfl, ?_⟩
                have q89 : A_.tmps[89]? = some (.bool true) := hI.val_ (i := 10) rfl rfl (by decide) (hdep ⟨10, .guard⟩ (by simp) rfl)
                have e90 : A_.tmps[90]?.getD undef = .pointer (some ⟨g9, 1, none⟩) := getD_of (hI.val_ (i := 11) rfl rfl (by decide) (hdep ⟨11, .data⟩ (by simp) rfl))
                clear hI hdep
                obtain ⟨⟨x0, x1⟩, _, _, _⟩ := HF.out w3 (HB9.out.trans (hh.mono HB9.out.size))
                exact .run ((wanted_some rfl rfl q89).trans rfl) (.slice (some ⟨gA, 0, none⟩) nl.length d2) w3 (by simp [execOp, go_sem, Act.eval, *]) (Below.refl _ _) rfl
              · simp only [List.getElem?_toArray, List.getElem?_cons_succ, List.getElem?_cons_zero, Option.some.injEq] at ho
                subst ho
                refine ⟨rfl, ?_⟩
                have q89 : A_.tmps[89]? = some (.bool true) := hI.val_ (i := 10) rfl rfl (by decide) (hdep ⟨10, .guard⟩ (by simp) rfl)
                have e12 : A_.tmps[12]?.getD undef = .int .i64 (j : Int) := by rw [hI.low 12 (by decide)]; rfl
                clear hI hdep
                exact .run ((wanted_some rfl rfl q89).trans rfl) (.int .i64 (j : Int)) w3 (by simp [execOp, go_sem, Act.eval, e12]) (Below.refl _ _) rfl
              · simp only [List.getElem?_toArray, List.getElem?_cons_succ, List.getElem?_cons_zero, Option.some.injEq] at ho
                subst ho
                refine ⟨rfl, ?_⟩
                have q89 : A_.tmps[89]? = some (.bool true) := hI.val_ (i := 10) rfl rfl (by decide) (hdep ⟨10, .guard⟩ (by simp) rfl)
                have e92 : A_.tmps[92]?.getD undef = .int .i64 (j : Int) := getD_of (hI.val_ (i := 13) rfl rfl (by decide) (hdep ⟨13, .data⟩ (by simp) rfl))
                clear hI hdep
                exact .run ((wanted_some rfl rfl q89).trans rfl) (.int .i64 (i : Int)) w3 (by simp [execOp, go_sem, Act.eval, e92, hsub]) (Below.refl _ _) rfl
              · simp only [List.getElem?_toArray, List.getElem?_cons_succ, List.getElem?_cons_zero, Option.some.injEq] at ho
                subst ho
                refine ⟨rfl, ?_⟩
                have q89 : A_.tmps[89]? = some (.bool true) := hI.val_ (i := 10) rfl rfl (by decide) (hdep ⟨10, .guard⟩ (by simp) rfl)
                have e91 : A_.tmps[91]?.getD undef = .slice (some ⟨gA, 0, none⟩) nl.length d2 := getD_of (hI.val_ (i := 12) rfl rfl (by decide) (hdep ⟨12, .data⟩ (by simp) rfl))
                have e93 : A_.tmps[93]?.getD undef = .int .i64 (i : Int) := getD_of (hI.val_ (i := 14) rfl rfl (by decide) (hdep ⟨14, .data⟩ (by simp) rfl))
                clear hI hdep
                exact .run ((wanted_some rfl rfl q89).trans rfl) (.pointer (some ⟨gA, i * 6, none⟩)) w3 (by simp [execOp, go_sem, Act.eval, e91, e93, hin]) (Below.refl _ _) rfl
              · simp only [List.getElem?_toArray, List.getElem?_cons_succ, List.getElem?_cons_zero, Option.some.injEq] at ho
                subst ho
                refine ⟨rfl, ?_⟩
                have q89 : A_.tmps[89]? = some (.bool true) := hI.val_ (i := 10) rfl rfl (by decide) (hdep ⟨10, .guard⟩ (by simp) rfl)
                have e94 : A_.tmps[94]?.getD undef = .pointer (some ⟨gA, i * 6, none⟩) := getD_of (hI.val_ (i := 15) rfl rfl (by decide) (hdep ⟨15, .data⟩ (by simp) rfl))
                clear hI hdep
                exact .run ((wanted_some rfl rfl q89).trans rfl) (.pointer (some ⟨gA, i * 6, none⟩)) w3 (by simp [execOp, go_sem, Act.eval, e94]) (Below.refl _ _) rfl
              · simp only [List.getElem?_toArray, List.getElem?_cons_succ, List.getElem?_cons_zero, Option.some.injEq] at ho
                subst ho
                refine ⟨rfl, ?_⟩
                have q89 : A_.tmps[89]? = some (.bool true) := hI.val_ (i := 10) rfl rfl (by decide) (hdep ⟨10, .guard⟩ (by simp) rfl)
                have e95 : A_.tmps[95]?.getD undef = .pointer (some ⟨gA, i * 6, none⟩) := getD_of (hI.val_ (i := 16) rfl rfl (by decide) (hdep ⟨16, .data⟩ (by simp) rfl))
                clear hI hdep
                obtain ⟨q0, q1, q2, q3, q4, _⟩ := HY.out w3 (HB9.out.trans (hh.mono HB9.out.size))
                exact .run ((wanted_some rfl rfl q89).trans rfl) (.agg #[.int .i64 y.1.c, .int .i64 y.1.h, .int .i64 y.1.t, .int .i64 y.1.k, .int .i64 y.1.i]) w3 (by simp [execOp, go_sem, Act.eval, e95, q0, q1, q2, q3, q4]) (Below.refl _ _) rfl
              · simp only [List.getElem?_toArray, List.getElem?_cons_succ, List.getElem?_cons_zero, Option.some.injEq] at ho
                subst ho
                refine ⟨rfl, ?_⟩
                have q89 : A_.tmps[89]? = some (.bool true) := hI.val_ (i := 10) rfl rfl (by decide) (hdep ⟨10, .guard⟩ (by simp) rfl)
                have e9 : A_.tmps[9]?.getD undef = .pointer (some ⟨g9, 0, none⟩) := by rw [hI.low 9 (by decide)]; rfl
                clear hI hdep
                exact .run ((wanted_some rfl rfl q89).trans rfl) (.pointer (some ⟨g9, 1, none⟩)) w3 (by simp [execOp, go_sem, Act.eval, e9]) (Below.refl _ _) rfl
              · simp only [List.getElem?_toArray, List.getElem?_cons_succ, List.getElem?_cons_zero, Option.some.injEq] at ho
                subst ho
                refine ⟨rfl, ?_⟩
                have q89 : A_.tmps[89]? = some (.bool true) := hI.val_ (i := 10) rfl rfl (by decide) (hdep ⟨10, .guard⟩ (by simp) rfl)
                have e97 : A_.tmps[97]?.getD undef = .pointer (some ⟨g9, 1, none⟩) := getD_of (hI.val_ (i := 18) rfl rfl (by decide) (hdep ⟨18, .data⟩ (by simp) rfl))
                clear hI hdep
                obtain ⟨⟨x0, x1⟩, _, _, _⟩ := HF.out w3 (HB9.out.trans (hh.mono HB9.out.size))
                exact .run ((wanted_some rfl rfl q89).trans rfl) (.slice (some ⟨gA, 0, none⟩) nl.length d2) w3 (by simp [execOp, go_sem, Act.eval, *]) (Below.refl _ _) rfl
              · simp only [List.getElem?_toArray, List.getElem?_cons_succ, List.getElem?_cons_zero, Option.some.injEq] at ho
                subst ho
                refine ⟨rfl, ?_⟩
                have q89 : A_.tmps[89]? = some (.bool true) := hI.val_ (i := 10) rfl rfl (by decide) (hdep ⟨10, .guard⟩ (by simp) rfl)
                have e12 : A_.tmps[12]?.getD undef = .int .i64 (j : Int) := by rw [hI.low 12 (by decide)]; rfl
                clear hI hdep
                exact .run ((wanted_some rfl rfl q89).trans rfl) (.int .i64 (j : Int)) w3 (by simp [execOp, go_sem, Act.eval, e12]) (Below.refl _ _) rfl
              · simp only [List.getElem?_toArray, List.getElem?_cons_succ, List.getElem?_cons_zero, Option.some.injEq] at ho
                subst ho
                refine ⟨rfl, ?_⟩
                have q89 : A_.tmps[89]? = some (.bool true) := hI.val_ (i := 10) rfl rfl (by decide) (hdep ⟨10, .guard⟩ (by simp) rfl)
                have e98 : A_.tmps[98]?.getD undef = .slice (some ⟨gA, 0, none⟩) nl.length d2 := getD_of (hI.val_ (i := 19) rfl rfl (by decide) (hdep ⟨19, .data⟩ (by simp) rfl))
                have e99 : A_.tmps[99]?.getD undef = .int .i64 (j : Int) := getD_of (hI.val_ (i := 20) rfl rfl (by decide) (hdep ⟨20, .data⟩ (by simp) rfl))
                clear hI hdep
                exact .run ((wanted_some rfl rfl q89).trans rfl) (.pointer (some ⟨gA, j * 6, none⟩)) w3 (by simp [execOp, go_sem, Act.eval, e98, e99, hjn]) (Below.refl _ _) rfl
              · simp only [List.getElem?_toArray, List.getElem?_cons_succ, List.getElem?_cons_zero, Option.some.injEq] at ho
                subst ho
                refine ⟨rfl, ?_⟩
                have q89 : A_.tmps[89]? = some (.bool true) := hI.val_ (i := 10) rfl rfl (by decide) (hdep ⟨10, .guard⟩ (by simp) rfl)
                have e100 : A_.tmps[100]?.getD undef = .pointer (some ⟨gA, j * 6, none⟩) := getD_of (hI.val_ (i := 21) rfl rfl (by decide) (hdep ⟨21, .data⟩ (by simp) rfl))
                clear hI hdep
                exact .run ((wanted_some rfl rfl q89).trans rfl) (.pointer (some ⟨gA, j * 6, none⟩)) w3 (by simp [execOp, go_sem, Act.eval, e100]) (Below.refl _ _) rfl
              · simp only [List.getElem?_toArray, List.getElem?_cons_succ, List.getElem?_cons_zero, Option.some.injEq] at ho
                subst ho
                refine ⟨rfl, ?_⟩
                have q89 : A_.tmps[89]? = some (.bool true) := hI.val_ (i := 10) rfl rfl (by decide) (hdep ⟨10, .guard⟩ (by simp) rfl)
                have e101 : A_.tmps[101]?.getD undef = .pointer (some ⟨gA, j * 6, none⟩) := getD_of (hI.val_ (i := 22) rfl rfl (by decide) (hdep ⟨22, .data⟩ (by simp) rfl))
                clear hI hdep
                obtain ⟨q0, q1, q2, q3, q4, _⟩ := HX.out w3 (HB9.out.trans (hh.mono HB9.out.size))
                exact .run ((wanted_some rfl rfl q89).trans rfl) (.agg #[.int .i64 x.1.c, .int .i64 x.1.h, .int .i64 x.1.t, .int .i64 x.1.k, .int .i64 x.1.i]) w3 (by simp [execOp, go_sem, Act.eval, e101, q0, q1, q2, q3, q4]) (Below.refl _ _) rfl
              · simp only [List.getElem?_toArray, List.getElem?_cons_succ, List.getElem?_cons_zero, Option.some.injEq] at ho
                subst ho
                refine ⟨rfl, ?_⟩
                have q89 : A_.tmps[89]? = some (.bool true) := hI.val_ (i := 10) rfl rfl (by decide) (hdep ⟨10, .guard⟩ (by simp) rfl)
                have e96 : A_.tmps[96]?.getD undef = .agg #[.int .i64 y.1.c, .int .i64 y.1.h, .int .i64 y.1.t, .int .i64 y.1.k, .int .i64 y.1.i] := getD_of (hI.val_ (i := 17) rfl rfl (by decide) (hdep ⟨17, .data⟩ (by simp) rfl))
                have e102 : A_.tmps[102]?.getD undef = .agg #[.int .i64 x.1.c, .int .i64 x.1.h, .int .i64 x.1.t, .int .i64 x.1.k, .int .i64 x.1.i] := getD_of (hI.val_ (i := 23) rfl rfl (by decide) (hdep ⟨23, .data⟩ (by simp) rfl))
                clear hI hdep
                exact .call ((wanted_some rfl rfl q89).trans rfl) 39 #[.agg #[.int .i64 y.1.c, .int .i64 y.1.h, .int .i64 y.1.t, .int .i64 y.1.k, .int .i64 y.1.i], .agg #[.int .i64 x.1.c, .int .i64 x.1.h, .int .i64 x.1.t, .int .i64 x.1.k, .int .i64 x.1.i]] (by simp [go_sem, Act.eval, e96, e102]) ((HQ.out w3).mono fun _ _ ⟨h1_, h2_⟩ => ⟨⟨_, h1_, rfl⟩, h2_⟩)
              · simp only [List.getElem?_toArray, List.getElem?_cons_succ, List.getElem?_cons_zero, Option.some.injEq] at ho
                subst ho
                refine ⟨rfl, ?_⟩
                have q89 : A_.tmps[89]? = some (.bool true) := hI.val_ (i := 10) rfl rfl (by decide) (hdep ⟨10, .guard⟩ (by simp) rfl)
                have e103 : A_.tmps[103]?.getD undef = .int .i64 lx := getD_of (hI.val_ (i := 24) rfl rfl (by decide) (hdep ⟨24, .data⟩ (by simp) rfl))
                clear hI hdep
                exact .run ((wanted_some rfl rfl q89).trans rfl) (.bool false) w3 (by simp [execOp, go_sem, Act.eval, e103] <;> omega) (Below.refl _ _) rfl
              · simp only [List.getElem?_toArray, List.getElem?_cons_succ, List.getElem?_cons_zero, Option.some.injEq] at ho
                subst ho
                refine ⟨rfl, ?_⟩
                have q86 : A_.tmps[86]? = some (.bool false) := hI.val_ (i := 7) rfl rfl (by decide) (hdep ⟨7, .guard⟩ (by simp) rfl)
                have e89 : A_.tmps[89]?.getD undef = .bool true := getD_of (hI.val_ (i := 10) rfl rfl (by decide) (hdep ⟨10, .data⟩ (by simp) rfl))
                have e104 : A_.tmps[104]?.getD undef = .bool false := getD_of (hI.val_ (i := 25) rfl rfl (by decide) (hdep ⟨25, .data⟩ (by simp) rfl))
                clear hI hdep
                exact .run ((wanted_some rfl rfl q86).trans rfl) (.bool false) w3 (by simp [execOp, go_sem, Act.eval, e89, e104]) (Below.refl _ _) rfl
              · simp only [List.getElem?_toArray, List.getElem?_cons_succ, List.getElem?_cons_zero, Option.some.injEq] at ho
                subst ho
                refine ⟨rfl, ?_⟩
                have e86 : A_.tmps[86]?.getD undef = .bool false := getD_of (hI.val_ (i := 7) rfl rfl (by decide) (hdep ⟨7, .data⟩ (by simp) rfl))
                have e105 : A_.tmps[105]?.getD undef = .bool false := getD_of (hI.val_ (i := 26) rfl rfl (by decide) (hdep ⟨26, .data⟩ (by simp) rfl))
                clear hI hdep
                exact .run rfl (.bool false) w3 (by simp [execOp, go_sem, Act.eval, e86, e105]) (Below.refl _ _) rfl
            case fin =>
            intro A_ w3 hs hd hlow hS hok
            obtain rfl : A_ = ⟨#[.slice a0 len0 cap0, .slice a1 len1 cap1, .agg #[.slice tE tn tc, .slice tA tm td], undef, undef, .pointer (some ⟨w.heap.size, 0, none⟩), u6, .slice (some ⟨g7, 0, none⟩) 2 2, .int .i64 (k : Int), .pointer (some ⟨g9, 0, none⟩), .pointer (some ⟨g10, 0, none⟩), .int .i64 0, .int .i64 (j : Int), .slice a0 len0 cap0, .slice a1 len1 cap1, .agg #[.slice E15 e0.length c15, .slice A15 l0.length d15], .agg #[.slice tE tn tc, .slice tA tm td], .agg #[.slice E17 e1.length c17, .slice A17 l1.length d17], .slice (some ⟨g18, 0, none⟩) 2 2, .int .i64 (k : Int), .bool true, u21, u22, .slice (some ⟨g7, 0, none⟩) 2 2, .int .i64 (k : Int), .pointer (some { block := g7, off := k * 2 }), .agg #[.slice E es.length ce, .slice A l.length ca], .agg #[.slice E2 es.length cx2, .slice (some ⟨gA, 0, none⟩) nl.length d2], Value.tuple #[.agg #[.slice E3 es.length cx3, .slice A3 nl.length d3], .int .i64 0], .slice (some ⟨g7, 0, none⟩) 2 2, .int .i64 (k : Int), .pointer (some { block := g7, off := k * 2 }), .agg #[.slice E es.length ce, .slice A l.length ca], .slice B6 m6 cx6, Value.tuple #[.agg #[.slice E3 es.length cx3, .slice A3 nl.length d3], .int .i64 0], .agg #[.slice E3 es.length cx3, .slice A3 nl.length d3], .int .i64 0, .int .i64 0, .bool false, .bool false, .agg #[.slice E3 es.length cx3, .slice A3 nl.length d3], .agg #[.slice E2 es.length cx2, .slice (some ⟨gA, 0, none⟩) nl.length d2], .bool true, .bool false, .bool false, .bool false, .agg #[.slice E2 es.length cx2, .slice (some ⟨gA, 0, none⟩) nl.length d2], .agg #[.slice E47 es.length c47, .slice A47 nl.length d47], .agg #[.slice E2 es.length cx2, .slice (some ⟨gA, 0, none⟩) nl.length d2], .bool true, .bool false, .bool false, .bool false, .slice (some ⟨g7, 0, none⟩) 2 2, .int .i64 (k : Int), .pointer (some { block := g7, off := k * 2 }), .agg #[.slice E es.length ce, .slice A l.length ca], .agg #[.slice E2 es.length cx2, .slice (some ⟨gA, 0, none⟩) nl.length d2], .bool true, .bool false, .bool false, .bool false, .agg #[.slice E2 es.length cx2, .slice (some ⟨gA, 0, none⟩) nl.length d2], .slice B63 n63 c63, .slice (some ⟨g7, 0, none⟩) 2 2, .int .i64 (k : Int), .pointer (some { block := g7, off := k * 2 }), .agg #[.slice E es.length ce, .slice A l.length ca], .slice B68 n68 c68, .bool true, .bool false, .bool false, .int .i64 (j : Int), .pointer (some ⟨g9, 1, none⟩), .slice (some ⟨gA, 0, none⟩) nl.length d2, .int .i64 (nl.length : Int), .bool true, u77, u78, .pointer (some ⟨g9, 1, none⟩), .slice (some ⟨gA, 0, none⟩) nl.length d2, .int .i64 (j : Int), .pointer (some ⟨gA, j * 6, none⟩), .pointer (some ⟨gA, j * 6 + 5, none⟩), .int .i64 x.2, .bool false, .bool false, .int .i64 (j : Int), .bool true, .bool true, .pointer (some ⟨g9, 1, none⟩), .slice (some ⟨gA, 0, none⟩) nl.length d2, .int .i64 (j : Int), .int .i64 (i : Int), .pointer (some ⟨gA, i * 6, none⟩), .pointer (some ⟨gA, i * 6, none⟩), .agg #[.int .i64 y.1.c, .int .i64 y.1.h, .int .i64 y.1.t, .int .i64 y.1.k, .int .i64 y.1.i], .pointer (some ⟨g9, 1, none⟩), .slice (some ⟨gA, 0, none⟩) nl.length d2, .int .i64 (j : Int), .pointer (some ⟨gA, j * 6, none⟩), .pointer (some ⟨gA, j * 6, none⟩), .agg #[.int .i64 x.1.c, .int .i64 x.1.h, .int .i64 x.1.t, .int .i64 x.1.k, .int .i64 x.1.i], .int .i64 lx, .bool false, .bool false, .bool false, undef], []⟩ := act_ext hd hs (fun j hj => match j, hj with | 0, _ => (hlow 0 (by decide)).trans rfl | 1, _ => (hlow 1 (by decide)).trans rfl | 2, _ => (hlow 2 (by decide)).trans rfl | 3, _ => (hlow 3 (by decide)).trans rfl | 4, _ => (hlow 4 (by decide)).trans rfl | 5, _ => (hlow 5 (by decide)).trans rfl | 6, _ => (hlow 6 (by decide)).trans rfl | 7, _ => (hlow 7 (by decide)).trans rfl | 8, _ => (hlow 8 (by decide)).trans rfl | 9, _ => (hlow 9 (by decide)).trans rfl | 10, _ => (hlow 10 (by decide)).trans rfl | 11, _ => (hlow 11 (by decide)).trans rfl | 12, _ => (hlow 12 (by decide)).trans rfl | 13, _ => (hlow 13 (by decide)).trans rfl | 14, _ => (hlow 14 (by decide)).trans rfl | 15, _ => (hlow 15 (by decide)).trans rfl | 16, _ => (hlow 16 (by decide)).trans rfl | 17, _ => (hlow 17 (by decide)).trans rfl | 18, _ => (hlow 18 (by decide)).trans rfl | 19, _ => (hlow 19 (by decide)).trans rfl | 20, _ => (hlow 20 (by decide)).trans rfl | 21, _ => (hlow 21 (by decide)).trans rfl | 22, _ => (hlow 22 (by decide)).trans rfl | 23, _ => (hlow 23 (by decide)).trans rfl | 24, _ => (hlow 24 (by decide)).trans rfl | 25, _ => (hlow 25 (by decide)).trans rfl | 26, _ => (hlow 26 (by decide)).trans rfl | 27, _ => (hlow 27 (by decide)).trans rfl | 28, _ => (hlow 28 (by decide)).trans rfl | 29, _ => (hlow 29 (by decide)).trans rfl | 30, _ => (hlow 30 (by decide)).trans rfl | 31, _ => (hlow 31 (by decide)).trans rfl | 32, _ => (hlow 32 (by decide)).trans rfl | 33, _ => (hlow 33 (by decide)).trans rfl | 34, _ => (hlow 34 (by decide)).trans rfl | 35, _ => (hlow 35 (by decide)).trans rfl | 36, _ => (hlow 36 (by decide)).trans rfl | 37, _ => (hlow 37 (by decide)).trans rfl | 38, _ => (hlow 38 (by decide)).trans rfl | 39, _ => (hlow 39 (by decide)).trans rfl | 40, _ => (hlow 40 (by decide)).trans rfl | 41, _ => (hlow 41 (by decide)).trans rfl | 42, _ => (hlow 42 (by decide)).trans rfl | 43, _ => (hlow 43 (by decide)).trans rfl | 44, _ => (hlow 44 (by decide)).trans rfl | 45, _ => (hlow 45 (by decide)).trans rfl | 46, _ => (hlow 46 (by decide)).trans rfl | 47, _ => (hlow 47 (by decide)).trans rfl | 48, _ => (hlow 48 (by decide)).trans rfl | 49, _ => (hlow 49 (by decide)).trans rfl | 50, _ => (hlow 50 (by decide)).trans rfl | 51, _ => (hlow 51 (by decide)).trans rfl | 52, _ => (hlow 52 (by decide)).trans rfl | 53, _ => (hlow 53 (by decide)).trans rfl | 54, _ => (hlow 54 (by decide)).trans rfl | 55, _ => (hlow 55 (by decide)).trans rfl | 56, _ => (hlow 56 (by decide)).trans rfl | 57, _ => (hlow 57 (by decide)).trans rfl | 58, _ => (hlow 58 (by decide)).trans rfl | 59, _ => (hlow 59 (by decide)).trans rfl | 60, _ => (hlow 60 (by decide)).trans rfl | 61, _ => (hlow 61 (by decide)).trans rfl | 62, _ => (hlow 62 (by decide)).trans rfl | 63, _ => (hlow 63 (by decide)).trans rfl | 64, _ => (hlow 64 (by decide)).trans rfl | 65, _ => (hlow 65 (by decide)).trans rfl | 66, _ => (hlow 66 (by decide)).trans rfl | 67, _ => (hlow 67 (by decide)).trans rfl | 68, _ => (hlow 68 (by decide)).trans rfl | 69, _ => (hlow 69 (by decide)).trans rfl | 70, _ => (hlow 70 (by decide)).trans rfl | 71, _ => (hlow 71 (by decide)).trans rfl | 72, _ => (hlow 72 (by decide)).trans rfl | 73, _ => (hlow 73 (by decide)).trans rfl | 74, _ => (hlow 74 (by decide)).trans rfl | 75, _ => (hlow 75 (by decide)).trans rfl | 76, _ => (hlow 76 (by decide)).trans rfl | 77, _ => (hlow 77 (by decide)).trans rfl | 78, _ => (hlow 78 (by decide)).trans rfl | 79, _ => RgX.val_at (hok 0 79 _ (by decide) rfl rfl) | 80, _ => RgX.val_at (hok 1 80 _ (by decide) rfl rfl) | 81, _ => RgX.val_at (hok 2 81 _ (by decide) rfl rfl) | 82, _ => RgX.val_at (hok 3 82 _ (by decide) rfl rfl) | 83, _ => RgX.val_at (hok 4 83 _ (by decide) rfl rfl) | 84, _ => RgX.val_at (hok 5 84 _ (by decide) rfl rfl) | 85, _ => RgX.val_at (hok 6 85 _ (by decide) rfl rfl) | 86, _ => RgX.val_at (hok 7 86 _ (by decide) rfl rfl) | 87, _ => RgX.val_at (hok 8 87 _ (by decide) rfl rfl) | 88, _ => RgX.val_at (hok 9 88 _ (by decide) rfl rfl) | 89, _ => RgX.val_at (hok 10 89 _ (by decide) rfl rfl) | 90, _ => RgX.val_at (hok 11 90 _ (by decide) rfl rfl) | 91, _ => RgX.val_at (hok 12 91 _ (by decide) rfl rfl) | 92, _ => RgX.val_at (hok 13 92 _ (by decide) rfl rfl) | 93, _ => RgX.val_at (hok 14 93 _ (by decide) rfl rfl) | 94, _ => RgX.val_at (hok 15 94 _ (by decide) rfl rfl) | 95, _ => RgX.val_at (hok 16 95 _ (by decide) rfl rfl) | 96, _ => RgX.val_at (hok 17 96 _ (by decide) rfl rfl) | 97, _ => RgX.val_at (hok 18 97 _ (by decide) rfl rfl) | 98, _ => RgX.val_at (hok 19 98 _ (by decide) rfl rfl) | 99, _ => RgX.val_at (hok 20 99 _ (by decide) rfl rfl) | 100, _ => RgX.val_at (hok 21 100 _ (by decide) rfl rfl) | 101, _ => RgX.val_at (hok 22 101 _ (by decide) rfl rfl) | 102, _ => RgX.val_at (hok 23 102 _ (by decide) rfl rfl) | 103, _ => RgX.val_at (hok 24 103 _ (by decide) rfl rfl) | 104, _ => RgX.val_at (hok 25 104 _ (by decide) rfl rfl) | 105, _ => RgX.val_at (hok 26 105 _ (by decide) rfl rfl) | 106, _ => RgX.val_at (hok 27 106 _ (by decide) rfl rfl) | 107, _ => (hlow 107 (by decide)).trans rfl | n + 108, h => absurd h (by show ¬ n + 108 < 108; omega))
            clear hs hd hlow hok 
            obtain ⟨v10, h10⟩ : ∃ V, V = w3 := ⟨_, rfl⟩
            rw [← h10] at hS ⊢
            have HB10 := Lib.hid (HB9.out.trans (hS.mono HB9.out.size))
            clear hS h10
            go_wp2_with fail
            go_roundw
            case rel => exact ⟨j + 1, by omega, by go_num, HB10⟩
            case measure => simp [intOf]; omega
          · obtain rfl : j = 0 := by omega
            clear hAt hx
            go_upto_region 12 with (fail)
            clear x0 x1
            refine RgX.regionB 28 (fun i => ( 79 + i)) (fun ix_ => match ix_ with | 0 => .v (.pointer (some ⟨g9, 1, none⟩)) | 1 => .v (.slice (some ⟨gA, 0, none⟩) nl.length d2) | 2 => .v (.int .i64 ↑0) | 3 => .v (.pointer (some ⟨gA, 0, none⟩)) | 4 => .v (.pointer (some ⟨gA, 5, none⟩)) | 5 => .v (.int .i64 x.2) | 6 => .v (.bool false) | 7 => .v (.bool false) | 8 => .v (.int .i64 ↑0) | 9 => .v (.bool false) | 10 => .v (.bool false) | 11 => .v (undef) | 12 => .v (undef) | 13 => .v (undef) | 14 => .v (undef) | 15 => .v (undef) | 16 => .v (undef) | 17 => .v (undef) | 18 => .v (undef) | 19 => .v (undef) | 20 => .v (undef) | 21 => .v (undef) | 22 => .v (undef) | 23 => .v (undef) | 24 => .v (undef) | 25 => .v (undef) | 26 => .v (.bool false) | 27 => .v (.bool false) | _ => .any) (by kernel_rfl) rfl (by kernel_rfl)  (fun i hi => by show ( 79 + i) < 108; (repeat' split) <;> omega) (fun i j hi hj => by show ( 79 + i) = ( 79 + j) → i = j; (repeat' split) <;> omega) ?step ?fin
            case step =>
              intro L_ A_ w3 ix op_ hI ho hdep
              have hi : ix < 28 := (Array.getElem?_eq_some_iff.1 ho).1
              have hcase : ix = 0 ∨ ix = 1 ∨ ix = 2 ∨ ix = 3 ∨ ix = 4 ∨ ix = 5 ∨ ix = 6 ∨ ix = 7 ∨ ix = 8 ∨ ix = 9 ∨ ix = 10 ∨ ix = 11 ∨ ix = 12 ∨ ix = 13 ∨ ix = 14 ∨ ix = 15 ∨ ix = 16 ∨ ix = 17 ∨ ix = 18 ∨ ix = 19 ∨ ix = 20 ∨ ix = 21 ∨ ix = 22 ∨ ix = 23 ∨ ix = 24 ∨ ix = 25 ∨ ix = 26 ∨ ix = 27 := by omega
              have hh := hI.held
              clear hi
              rcases hcase with rfl | rfl | rfl | rfl | rfl | rfl | rfl | rfl | rfl | rfl | rfl | rfl | rfl | rfl | rfl | rfl | rfl | rfl | rfl | rfl | rfl | rfl | rfl | rfl | rfl | rfl | rfl | rfl
              · simp only [List.getElem?_toArray, List.getElem?_cons_zero, Option.some.injEq] at ho
                subst ho
                refine ⟨rfl, ?_⟩
                have e9 : A_.tmps[9]?.getD undef = .pointer (some ⟨g9, 0, none⟩) := by rw [hI.low 9 (by decide)]; rfl
                clear hI hdep
                exact .run rfl (.pointer (some ⟨g9, 1, none⟩)) w3 (by simp [execOp, go_sem, Act.eval, e9]) (Below.refl _ _) rfl
              · simp only [List.getElem?_toArray, List.getElem?_cons_succ, List.getElem?_cons_zero, Option.some.injEq] at ho
                subst ho
                refine ⟨rfl, ?_⟩
                have e79 : A_.tmps[79]?.getD undef = .pointer (some ⟨g9, 1, none⟩) := getD_of (hI.val_ (i := 0) rfl rfl (by decide) (hdep ⟨0, .data⟩ (by simp) rfl))
                clear hI hdep
                obtain ⟨⟨x0, x1⟩, _, _, _⟩ := HF.out w3 (HB9.out.trans (hh.mono HB9.out.size))
                exact .run rfl (.slice (some ⟨gA, 0, none⟩) nl.length d2) w3 (by simp [execOp, go_sem, Act.eval, *]) (Below.refl _ _) rfl
              · simp only [List.getElem?_toArray, List.getElem?_cons_succ, List.getElem?_cons_zero, Option.some.injEq] at ho
                subst ho
                refine ⟨rfl, ?_⟩
                have e12 : A_.tmps[12]?.getD undef = .int .i64 ↑0 := by rw [hI.low 12 (by decide)]; rfl
                clear hI hdep
                exact .run rfl (.int .i64 ↑0) w3 (by simp [execOp, go_sem, Act.eval, e12]) (Below.refl _ _) rfl
              · simp only [List.getElem?_toArray, List.getElem?_cons_succ, List.getElem?_cons_zero, Option.some.injEq] at ho
                subst ho
                refine ⟨rfl, ?_⟩
                have e80 : A_.tmps[80]?.getD undef = .slice (some ⟨gA, 0, none⟩) nl.length d2 := getD_of (hI.val_ (i := 1) rfl rfl (by decide) (hdep ⟨1, .data⟩ (by simp) rfl))
                have e81 : A_.tmps[81]?.getD undef = .int .i64 ↑0 := getD_of (hI.val_ (i := 2) rfl rfl (by decide) (hdep ⟨2, .data⟩ (by simp) rfl))
                clear hI hdep
                exact .run rfl (.pointer (some ⟨gA, 0, none⟩)) w3 (by simp [execOp, go_sem, Act.eval, e80, e81, hjn]) (Below.refl _ _) rfl
              · simp only [List.getElem?_toArray, List.getElem?_cons_succ, List.getElem?_cons_zero, Option.some.injEq] at ho
                subst ho
                refine ⟨rfl, ?_⟩
                have e82 : A_.tmps[82]?.getD undef = .pointer (some ⟨gA, 0, none⟩) := getD_of (hI.val_ (i := 3) rfl rfl (by decide) (hdep ⟨3, .data⟩ (by simp) rfl))
                clear hI hdep
                exact .run rfl (.pointer (some ⟨gA, 5, none⟩)) w3 (by simp [execOp, go_sem, Act.eval, e82]) (Below.refl _ _) rfl
              · simp only [List.getElem?_toArray, List.getElem?_cons_succ, List.getElem?_cons_zero, Option.some.injEq] at ho
                subst ho
                refine ⟨rfl, ?_⟩
                have e83 : A_.tmps[83]?.getD undef = .pointer (some ⟨gA, 5, none⟩) := getD_of (hI.val_ (i := 4) rfl rfl (by decide) (hdep ⟨4, .data⟩ (by simp) rfl))
                clear hI hdep
                obtain ⟨_, _, _, _, _, q5⟩ := HX.out w3 (HB9.out.trans (hh.mono HB9.out.size))
                simp only [Nat.zero_mul, Nat.zero_add] at q5
                exact .run rfl (.int .i64 x.2) w3 (by simp [execOp, go_sem, Act.eval, e83, q5]) (Below.refl _ _) rfl
              · simp only [List.getElem?_toArray, List.getElem?_cons_succ, List.getElem?_cons_zero, Option.some.injEq] at ho
                subst ho
                refine ⟨rfl, ?_⟩
                have e84 : A_.tmps[84]?.getD undef = .int .i64 x.2 := getD_of (hI.val_ (i := 5) rfl rfl (by decide) (hdep ⟨5, .data⟩ (by simp) rfl))
                clear hI hdep
                exact .run rfl (.bool false) w3 (by simp [execOp, go_sem, Act.eval, e84] <;> omega) (Below.refl _ _) rfl
              · simp only [List.getElem?_toArray, List.getElem?_cons_succ, List.getElem?_cons_zero, Option.some.injEq] at ho
                subst ho
                refine ⟨rfl, ?_⟩
                have e85 : A_.tmps[85]?.getD undef = .bool false := getD_of (hI.val_ (i := 6) rfl rfl (by decide) (hdep ⟨6, .data⟩ (by simp) rfl))
                clear hI hdep
                exact .run rfl (.bool false) w3 (by simp [execOp, go_sem, Act.eval, e85]) (Below.refl _ _) rfl
              · simp only [List.getElem?_toArray, List.getElem?_cons_succ, List.getElem?_cons_zero, Option.some.injEq] at ho
                subst ho
                refine ⟨rfl, ?_⟩
                have q86 : A_.tmps[86]? = some (.bool false) := hI.val_ (i := 7) rfl rfl (by decide) (hdep ⟨7, .guard⟩ (by simp) rfl)
                have e12 : A_.tmps[12]?.getD undef = .int .i64 ↑0 := by rw [hI.low 12 (by decide)]; rfl
                clear hI hdep
                exact .run ((wanted_some rfl rfl q86).trans rfl) (.int .i64 ↑0) w3 (by simp [execOp, go_sem, Act.eval, e12]) (Below.refl _ _) rfl
              · simp only [List.getElem?_toArray, List.getElem?_cons_succ, List.getElem?_cons_zero, Option.some.injEq] at ho
                subst ho
                refine ⟨rfl, ?_⟩
                have q86 : A_.tmps[86]? = some (.bool false) := hI.val_ (i := 7) rfl rfl (by decide) (hdep ⟨7, .guard⟩ (by simp) rfl)
                have e87 : A_.tmps[87]?.getD undef = .int .i64 ↑0 := getD_of (hI.val_ (i := 8) rfl rfl (by decide) (hdep ⟨8, .data⟩ (by simp) rfl))
                clear hI hdep
                exact .run ((wanted_some rfl rfl q86).trans rfl) (.bool false) w3 (by simp [execOp, go_sem, Act.eval, e87] <;> omega) (Below.refl _ _) rfl
              · simp only [List.getElem?_toArray, List.getElem?_cons_succ, List.getElem?_cons_zero, Option.some.injEq] at ho
                subst ho
                refine ⟨rfl, ?_⟩
                have q86 : A_.tmps[86]? = some (.bool false) := hI.val_ (i := 7) rfl rfl (by decide) (hdep ⟨7, .guard⟩ (by simp) rfl)
                have e88 : A_.tmps[88]?.getD undef = .bool false := getD_of (hI.val_ (i := 9) rfl rfl (by decide) (hdep ⟨9, .data⟩ (by simp) rfl))
                clear hI hdep
                exact .run ((wanted_some rfl rfl q86).trans rfl) (.bool false) w3 (by simp [execOp, go_sem, Act.eval, e88]) (Below.refl _ _) rfl
              · simp only [List.getElem?_toArray, List.getElem?_cons_succ, List.getElem?_cons_zero, Option.some.injEq] at ho
                subst ho
                refine ⟨rfl, ?_⟩
                have q89 : A_.tmps[89]? = some (.bool false) := hI.val_ (i := 10) rfl rfl (by decide) (hdep ⟨10, .guard⟩ (by simp) rfl)
                exact .skip ((wanted_some rfl rfl q89).trans rfl) (fun _ => rfl)
              · simp only [List.getElem?_toArray, List.getElem?_cons_succ, List.getElem?_cons_zero, Option.some.injEq] at ho
                subst ho
                refine ⟨rfl, ?_⟩
                have q89 : A_.tmps[89]? = some (.bool false) := hI.val_ (i := 10) rfl rfl (by decide) (hdep ⟨10, .guard⟩ (by simp) rfl)
                exact .skip ((wanted_some rfl rfl q89).trans rfl) (fun _ => rfl)
              · simp only [List.getElem?_toArray, List.getElem?_cons_succ, List.getElem?_cons_zero, Option.some.injEq] at ho
                subst ho
                refine ⟨rfl, ?_⟩
                have q89 : A_.tmps[89]? = some (.bool false) := hI.val_ (i := 10) rfl rfl (by decide) (hdep ⟨10, .guard⟩ (by simp) rfl)
                exact .skip ((wanted_some rfl rfl q89).trans rfl) (fun _ => rfl)
              · simp only [List.getElem?_toArray, List.getElem?_cons_succ, List.getElem?_cons_zero, Option.some.injEq] at ho
                subst ho
                refine ⟨rfl, ?_⟩
                have q89 : A_.tmps[89]? = some (.bool false) := hI.val_ (i := 10) rfl rfl (by decide) (hdep ⟨10, .guard⟩ (by simp) rfl)
                exact .skip ((wanted_some rfl rfl q89).trans rfl) (fun _ => rfl)
              · simp only [List.getElem?_toArray, List.getElem?_cons_succ, List.getElem?_cons_zero, Option.some.injEq] at ho
                subst ho
                refine ⟨rfl, ?_⟩
                have q89 : A_.tmps[89]? = some (.bool false) := hI.val_ (i := 10) rfl rfl (by decide) (hdep ⟨10, .guard⟩ (by simp) rfl)
                exact .skip ((wanted_some rfl rfl q89).trans rfl) (fun _ => rfl)
              · simp only [List.getElem?_toArray, List.getElem?_cons_succ, List.getElem?_cons_zero, Option.some.injEq] at ho
                subst ho
                refine ⟨rfl, ?_⟩
                have q89 : A_.tmps[89]? = some (.bool false) := hI.val_ (i := 10) rfl rfl (by decide) (hdep ⟨10, .guard⟩ (by simp) rfl)
                exact .skip ((wanted_some rfl rfl q89).trans rfl) (fun _ => rfl)
              · simp only [List.getElem?_toArray, List.getElem?_cons_succ, List.getElem?_cons_zero, Option.some.injEq] at ho
                subst ho
                refine ⟨rfl, ?_⟩
                have q89 : A_.tmps[89]? = some (.bool false) := hI.val_ (i := 10) rfl rfl (by decide) (hdep ⟨10, .guard⟩ (by simp) rfl)
                exact .skip ((wanted_some rfl rfl q89).trans rfl) (fun _ => rfl)
              · simp only [List.getElem?_toArray, List.getElem?_cons_succ, List.getElem?_cons_zero, Option.some.injEq] at ho
                subst ho
                refine ⟨rfl, ?_⟩
                have q89 : A_.tmps[89]? = some (.bool false) := hI.val_ (i := 10) rfl rfl (by decide) (hdep ⟨10, .guard⟩ (by simp) rfl)
                exact .skip ((wanted_some rfl rfl q89).trans rfl) (fun _ => rfl)
              · simp only [List.getElem?_toArray, List.getElem?_cons_succ, List.getElem?_cons_zero, Option.some.injEq] at ho
                subst ho
                refine ⟨rfl, ?_⟩
                have q89 : A_.tmps[89]? = some (.bool false) := hI.val_ (i := 10) rfl rfl (by decide) (hdep ⟨10, .guard⟩ (by simp) rfl)
                exact .skip ((wanted_some rfl rfl q89).trans rfl) (fun _ => rfl)
              · simp only [List.getElem?_toArray, List.getElem?_cons_succ, List.getElem?_cons_zero, Option.some.injEq] at ho
                subst ho
                refine ⟨rfl, ?_⟩
                have q89 : A_.tmps[89]? = some (.bool false) := hI.val_ (i := 10) rfl rfl (by decide) (hdep ⟨10, .guard⟩ (by simp) rfl)
                exact .skip ((wanted_some rfl rfl q89).trans rfl) (fun _ => rfl)
              · simp only [List.getElem?_toArray, List.getElem?_cons_succ, List.getElem?_cons_zero, Option.some.injEq] at ho
                subst ho
                refine ⟨rfl, ?_⟩
                have q89 : A_.tmps[89]? = some (.bool false) := hI.val_ (i := 10) rfl rfl (by decide) (hdep ⟨10, .guard⟩ (by simp) rfl)
                exact .skip ((wanted_some rfl rfl q89).trans rfl) (fun _ => rfl)
              · simp only [List.getElem?_toArray, List.getElem?_cons_succ, List.getElem?_cons_zero, Option.some.injEq] at ho
                subst ho
                refine ⟨rfl, ?_⟩
                have q89 : A_.tmps[89]? = some (.bool false) := hI.val_ (i := 10) rfl rfl (by decide) (hdep ⟨10, .guard⟩ (by simp) rfl)
                exact .skip ((wanted_some rfl rfl q89).trans rfl) (fun _ => rfl)
              · simp only [List.getElem?_toArray, List.getElem?_cons_succ, List.getElem?_cons_zero, Option.some.injEq] at ho
                subst ho
                refine ⟨rfl, ?_⟩
                have q89 : A_.tmps[89]? = some (.bool false) := hI.val_ (i := 10) rfl rfl (by decide) (hdep ⟨10, .guard⟩ (by simp) rfl)
                exact .skip ((wanted_some rfl rfl q89).trans rfl) (fun _ => rfl)
              · simp only [List.getElem?_toArray, List.getElem?_cons_succ, List.getElem?_cons_zero, Option.some.injEq] at ho
                subst ho
                refine ⟨rfl, ?_⟩
                have q89 : A_.tmps[89]? = some (.bool false) := hI.val_ (i := 10) rfl rfl (by decide) (hdep ⟨10, .guard⟩ (by simp) rfl)
                exact .skip ((wanted_some rfl rfl q89).trans rfl) (fun _ => rfl)
              · simp only [List.getElem?_toArray, List.getElem?_cons_succ, List.getElem?_cons_zero, Option.some.injEq] at ho
                subst ho
                refine ⟨rfl, ?_⟩
                have q89 : A_.tmps[89]? = some (.bool false) := hI.val_ (i := 10) rfl rfl (by decide) (hdep ⟨10, .guard⟩ (by simp) rfl)
                exact .skip ((wanted_some rfl rfl q89).trans rfl) (fun _ => rfl)
              · simp only [List.getElem?_toArray, List.getElem?_cons_succ, List.getElem?_cons_zero, Option.some.injEq] at ho
                subst ho
                refine ⟨rfl, ?_⟩
                have q86 : A_.tmps[86]? = some (.bool false) := hI.val_ (i := 7) rfl rfl (by decide) (hdep ⟨7, .guard⟩ (by simp) rfl)
                have e89 : A_.tmps[89]?.getD undef = .bool false := getD_of (hI.val_ (i := 10) rfl rfl (by decide) (hdep ⟨10, .data⟩ (by simp) rfl))
                have e104 : A_.tmps[104]?.getD undef = undef := getD_of (hI.val_ (i := 25) rfl rfl (by decide) (hdep ⟨25, .data⟩ (by simp) rfl))
                clear hI hdep
                exact .run ((wanted_some rfl rfl q86).trans rfl) (.bool false) w3 (by simp [execOp, go_sem, Act.eval, e89, e104]) (Below.refl _ _) rfl
              · simp only [List.getElem?_toArray, List.getElem?_cons_succ, List.getElem?_cons_zero, Option.some.injEq] at ho
                subst ho
                refine ⟨rfl, ?_⟩
                have e86 : A_.tmps[86]?.getD undef = .bool false := getD_of (hI.val_ (i := 7) rfl rfl (by decide) (hdep ⟨7, .data⟩ (by simp) rfl))
                have e105 : A_.tmps[105]?.getD undef = .bool false := getD_of (hI.val_ (i := 26) rfl rfl (by decide) (hdep ⟨26, .data⟩ (by simp) rfl))
                clear hI hdep
                exact .run rfl (.bool false) w3 (by simp [execOp, go_sem, Act.eval, e86, e105]) (Below.refl _ _) rfl
            case fin =>
            intro A_ w3 hs hd hlow hS hok
            obtain rfl : A_ = ⟨#[.slice a0 len0 cap0, .slice a1 len1 cap1, .agg #[.slice tE tn tc, .slice tA tm td], undef, undef, .pointer (some ⟨w.heap.size, 0, none⟩), u6, .slice (some ⟨g7, 0, none⟩) 2 2, .int .i64 (k : Int), .pointer (some ⟨g9, 0, none⟩), .pointer (some ⟨g10, 0, none⟩), .int .i64 0, .int .i64 ↑0, .slice a0 len0 cap0, .slice a1 len1 cap1, .agg #[.slice E15 e0.length c15, .slice A15 l0.length d15], .agg #[.slice tE tn tc, .slice tA tm td], .agg #[.slice E17 e1.length c17, .slice A17 l1.length d17], .slice (some ⟨g18, 0, none⟩) 2 2, .int .i64 (k : Int), .bool true, u21, u22, .slice (some ⟨g7, 0, none⟩) 2 2, .int .i64 (k : Int), .pointer (some { block := g7, off := k * 2 }), .agg #[.slice E es.length ce, .slice A l.length ca], .agg #[.slice E2 es.length cx2, .slice (some ⟨gA, 0, none⟩) nl.length d2], Value.tuple #[.agg #[.slice E3 es.length cx3, .slice A3 nl.length d3], .int .i64 0], .slice (some ⟨g7, 0, none⟩) 2 2, .int .i64 (k : Int), .pointer (some { block := g7, off := k * 2 }), .agg #[.slice E es.length ce, .slice A l.length ca], .slice B6 m6 cx6, Value.tuple #[.agg #[.slice E3 es.length cx3, .slice A3 nl.length d3], .int .i64 0], .agg #[.slice E3 es.length cx3, .slice A3 nl.length d3], .int .i64 0, .int .i64 0, .bool false, .bool false, .agg #[.slice E3 es.length cx3, .slice A3 nl.length d3], .agg #[.slice E2 es.length cx2, .slice (some ⟨gA, 0, none⟩) nl.length d2], .bool true, .bool false, .bool false, .bool false, .agg #[.slice E2 es.length cx2, .slice (some ⟨gA, 0, none⟩) nl.length d2], .agg #[.slice E47 es.length c47, .slice A47 nl.length d47], .agg #[.slice E2 es.length cx2, .slice (some ⟨gA, 0, none⟩) nl.length d2], .bool true, .bool false, .bool false, .bool false, .slice (some ⟨g7, 0, none⟩) 2 2, .int .i64 (k : Int), .pointer (some { block := g7, off := k * 2 }), .agg #[.slice E es.length ce, .slice A l.length ca], .agg #[.slice E2 es.length cx2, .slice (some ⟨gA, 0, none⟩) nl.length d2], .bool true, .bool false, .bool false, .bool false, .agg #[.slice E2 es.length cx2, .slice (some ⟨gA, 0, none⟩) nl.length d2], .slice B63 n63 c63, .slice (some ⟨g7, 0, none⟩) 2 2, .int .i64 (k : Int), .pointer (some { block := g7, off := k * 2 }), .agg #[.slice E es.length ce, .slice A l.length ca], .slice B68 n68 c68, .bool true, .bool false, .bool false, .int .i64 ↑0, .pointer (some ⟨g9, 1, none⟩), .slice (some ⟨gA, 0, none⟩) nl.length d2, .int .i64 (nl.length : Int), .bool true, u77, u78, .pointer (some ⟨g9, 1, none⟩), .slice (some ⟨gA, 0, none⟩) nl.length d2, .int .i64 ↑0, .pointer (some ⟨gA, 0, none⟩), .pointer (some ⟨gA, 5, none⟩), .int .i64 x.2, .bool false, .bool false, .int .i64 ↑0, .bool false, .bool false, undef, undef, undef, undef, undef, undef, undef, undef, undef, undef, undef, undef, undef, undef, undef, .bool false, .bool false, undef], []⟩ := act_ext hd hs (fun j hj => match j, hj with | 0, _ => (hlow 0 (by decide)).trans rfl | 1, _ => (hlow 1 (by decide)).trans rfl | 2, _ => (hlow 2 (by decide)).trans rfl | 3, _ => (hlow 3 (by decide)).trans rfl | 4, _ => (hlow 4 (by decide)).trans rfl | 5, _ => (hlow 5 (by decide)).trans rfl | 6, _ => (hlow 6 (by decide)).trans rfl | 7, _ => (hlow 7 (by decide)).trans rfl | 8, _ => (hlow 8 (by decide)).trans rfl | 9, _ => (hlow 9 (by decide)).trans rfl | 10, _ => (hlow 10 (by decide)).trans rfl | 11, _ => (hlow 11 (by decide)).trans rfl | 12, _ => (hlow 12 (by decide)).trans rfl | 13, _ => (hlow 13 (by decide)).trans rfl | 14, _ => (hlow 14 (by decide)).trans rfl | 15, _ => (hlow 15 (by decide)).trans rfl | 16, _ => (hlow 16 (by decide)).trans rfl | 17, _ => (hlow 17 (by decide)).trans rfl | 18, _ => (hlow 18 (by decide)).trans rfl | 19, _ => (hlow 19 (by decide)).trans rfl | 20, _ => (hlow 20 (by decide)).trans rfl | 21, _ => (hlow 21 (by decide)).trans rfl | 22, _ => (hlow 22 (by decide)).trans rfl | 23, _ => (hlow 23 (by decide)).trans rfl | 24, _ => (hlow 24 (by decide)).trans rfl | 25, _ => (hlow 25 (by decide)).trans rfl | 26, _ => (hlow 26 (by decide)).trans rfl | 27, _ => (hlow 27 (by decide)).trans rfl | 28, _ => (hlow 28 (by decide)).trans rfl | 29, _ => (hlow 29 (by decide)).trans rfl | 30, _ => (hlow 30 (by decide)).trans rfl | 31, _ => (hlow 31 (by decide)).trans rfl | 32, _ => (hlow 32 (by decide)).trans rfl | 33, _ => (hlow 33 (by decide)).trans rfl | 34, _ => (hlow 34 (by decide)).trans rfl | 35, _ => (hlow 35 (by decide)).trans rfl | 36, _ => (hlow 36 (by decide)).trans rfl | 37, _ => (hlow 37 (by decide)).trans rfl | 38, _ => (hlow 38 (by decide)).trans rfl | 39, _ => (hlow 39 (by decide)).trans rfl | 40, _ => (hlow 40 (by decide)).trans rfl | 41, _ => (hlow 41 (by decide)).trans rfl | 42, _ => (hlow 42 (by decide)).trans rfl | 43, _ => (hlow 43 (by decide)).trans rfl | 44, _ => (hlow 44 (by decide)).trans rfl | 45, _ => (hlow 45 (by decide)).trans rfl | 46, _ => (hlow 46 (by decide)).trans rfl | 47, _ => (hlow 47 (by decide)).trans rfl | 48, _ => (hlow 48 (by decide)).trans rfl | 49, _ => (hlow 49 (by decide)).trans rfl | 50, _ => (hlow 50 (by decide)).trans rfl | 51, _ => (hlow 51 (by decide)).trans rfl | 52, _ => (hlow 52 (by decide)).trans rfl | 53, _ => (hlow 53 (by decide)).trans rfl | 54, _ => (hlow 54 (by decide)).trans rfl | 55, _ => (hlow 55 (by decide)).trans rfl | 56, _ => (hlow 56 (by decide)).trans rfl | 57, _ => (hlow 57 (by decide)).trans rfl | 58, _ => (hlow 58 (by decide)).trans rfl | 59, _ => (hlow 59 (by decide)).trans rfl | 60, _ => (hlow 60 (by decide)).trans rfl | 61, _ => (hlow 61 (by decide)).trans rfl | 62, _ => (hlow 62 (by decide)).trans rfl | 63, _ => (hlow 63 (by decide)).trans rfl | 64, _ => (hlow 64 (by decide)).trans rfl | 65, _ => (hlow 65 (by decide)).trans rfl | 66, _ => (hlow 66 (by decide)).trans rfl | 67, _ => (hlow 67 (by decide)).trans rfl | 68, _ => (hlow 68 (by decide)).trans rfl | 69, _ => (hlow 69 (by decide)).trans rfl | 70, _ => (hlow 70 (by decide)).trans rfl | 71, _ => (hlow 71 (by decide)).trans rfl | 72, _ => (hlow 72 (by decide)).trans rfl | 73, _ => (hlow 73 (by decide)).trans rfl | 74, _ => (hlow 74 (by decide)).trans rfl | 75, _ => (hlow 75 (by decide)).trans rfl | 76, _ => (hlow 76 (by decide)).trans rfl | 77, _ => (hlow 77 (by decide)).trans rfl | 78, _ => (hlow 78 (by decide)).trans rfl | 79, _ => RgX.val_at (hok 0 79 _ (by decide) rfl rfl) | 80, _ => RgX.val_at (hok 1 80 _ (by decide) rfl rfl) | 81, _ => RgX.val_at (hok 2 81 _ (by decide) rfl rfl) | 82, _ => RgX.val_at (hok 3 82 _ (by decide) rfl rfl) | 83, _ => RgX.val_at (hok 4 83 _ (by decide) rfl rfl) | 84, _ => RgX.val_at (hok 5 84 _ (by decide) rfl rfl) | 85, _ => RgX.val_at (hok 6 85 _ (by decide) rfl rfl) | 86, _ => RgX.val_at (hok 7 86 _ (by decide) rfl rfl) | 87, _ => RgX.val_at (hok 8 87 _ (by decide) rfl rfl) | 88, _ => RgX.val_at (hok 9 88 _ (by decide) rfl rfl) | 89, _ => RgX.val_at (hok 10 89 _ (by decide) rfl rfl) | 90, _ => RgX.val_at (hok 11 90 _ (by decide) rfl rfl) | 91, _ => RgX.val_at (hok 12 91 _ (by decide) rfl rfl) | 92, _ => RgX.val_at (hok 13 92 _ (by decide) rfl rfl) | 93, _ => RgX.val_at (hok 14 93 _ (by decide) rfl rfl) | 94, _ => RgX.val_at (hok 15 94 _ (by decide) rfl rfl) | 95, _ => RgX.val_at (hok 16 95 _ (by decide) rfl rfl) | 96, _ => RgX.val_at (hok 17 96 _ (by decide) rfl rfl) | 97, _ => RgX.val_at (hok 18 97 _ (by decide) rfl rfl) | 98, _ => RgX.val_at (hok 19 98 _ (by decide) rfl rfl) | 99, _ => RgX.val_at (hok 20 99 _ (by decide) rfl rfl) | 100, _ => RgX.val_at (hok 21 100 _ (by decide) rfl rfl) | 101, _ => RgX.val_at (hok 22 101 _ (by decide) rfl rfl) | 102, _ => RgX.val_at (hok 23 102 _ (by decide) rfl rfl) | 103, _ => RgX.val_at (hok 24 103 _ (by decide) rfl rfl) | 104, _ => RgX.val_at (hok 25 104 _ (by decide) rfl rfl) | 105, _ => RgX.val_at (hok 26 105 _ (by decide) rfl rfl) | 106, _ => RgX.val_at (hok 27 106 _ (by decide) rfl rfl) | 107, _ => (hlow 107 (by decide)).trans rfl | n + 108, h => absurd h (by show ¬ n + 108 < 108; omega))
            clear hs hd hlow hok 
            obtain ⟨v10, h10⟩ : ∃ V, V = w3 := ⟨_, rfl⟩
            rw [← h10] at hS ⊢
            have HB10 := Lib.hid (HB9.out.trans (hS.mono HB9.out.size))
            clear hS h10
            go_wp2_with fail
            go_roundw
            case rel => exact ⟨1, by omega, by go_num, HB10⟩
            case measure => simp [intOf]; omega
        · have dj : decide (j < nl.length) = false := decide_eq_false hjn
          have dj2 : decide ((j : Int) < (nl.length : Int)) = false := decide_eq_false (by omega)
          have HVn := Lib.hid (HV8.out.trans (HB9.out.mono HV8.out.size))
          go_wp2_with fail
          go_roundw
          case rel => exact ⟨k + 1, by omega, by go_num, HVn⟩
          case measure => simp [intOf]; omega
    · have dk : decide ((k : Int) < 2) = false := decide_eq_false (by omega)
      have HL := Lib.hid (lives_any wr)
      go_wp2_with fail
      refine HL.out.mono ?_
      rintro e w9 ⟨rfl, b9⟩
      have B9 := Lib.hid (HB.out.trans ((HV.out.trans (b9.mono HV.out.size)).mono HB.out.size))
      clear b9
      go_wp2_with fail
      go_ret
      exact ⟨rfl, B9.out⟩
end Go.Proofs.Ytnnbfjhpeamioaa.LawTapeRound

namespace Go.Proofs.Ytnnbfjhpeamioaa.tapeRound
open Go.ChangeShapes Go.WideShapes Go.ChangeAt Go.RowKit Go.Proofs Go.Proofs.Ytnnbfjhpeamioaa
open Go.ChangeMaps (open_string shut_string)
open Go.Deep (open_bools)
set_option linter.unusedVariables false

theorem own : ownKnob Try.prog.godebug = none := by kernel_rfl
theorem laidOut : laidOutB Try.prog = true := by kernel_rfl
theorem walk (a0 : Option Addr) (len0 cap0 : Nat) (z0 : List Int) (a1 : Option Addr) (len1 cap1 : Nat) (z1 : List Int) (tE2 : Option Addr) (tn2 tc2 : Nat) (tA2 : Option Addr) (tm2 td2 : Nat) (tes2 : List NM.Ev) (tl2 : List TP.An) (w : World) (w0 : Row .i64 w a0 len0 cap0 z0) (w1 : Row .i64 w a1 len1 cap1 z1) (w2 : (RawR evE w tE2 tn2 tc2 tes2 ∧ ∀ e ∈ tes2, EvW e) ∧ (RawR anE w tA2 tm2 td2 tl2 ∧ ∀ a ∈ tl2, AnW a)) :
    Calls Try.prog 8 #[.slice a0 len0 cap0, .slice a1 len1 cap1, .agg #[.slice tE2 tn2 tc2, .slice tA2 tm2 td2]] w fun e w' => e = .returned (.bool true) ∧ Below w.heap.size w w' := by
  exact LawTapeRound.walk a0 len0 cap0 z0 a1 len1 cap1 z1 tE2 tn2 tc2 tA2 tm2 td2 tes2 tl2 w w0 w1 w2
set_option maxRecDepth 100000 in
theorem lifted (os : Os) (started : os.Started) (H : Type) (enc : TypeId × Value → H) :
    ReturnsInHanded {} Try.checked os 8 .any (Rows.tapeRoundSpec.pre6 enc Try.prog Try.f8 Rows.tapeRoundRow.domain false) (Rows.tapeRoundSpec.post enc Try.prog Try.f8 false true false false) := by
  refine returnsInHanded_of_change (C := Try.checked) own started (by kernel_rfl) Try.func8
    (ChangeSpec.witness6 (enc := enc) (C := Try.checked) false ⟨#[], #[.slice none 0 0, .slice none 0 0, .agg #[.slice none 0 0, .slice none 0 0]], []⟩ 8 (by kernel_rfl) (by kernel_rfl) (by kernel_rfl) (by kernel_rfl)) ?_
  intro W base args ds gs before hval0 hW hcnd _
  have hval : ∀ (j : Nat) t v, Try.f8.params[j]? = some t → args[j]? = some v → Value.okWide Try.prog W .any base t v := hval0
  have hW' := hW
  obtain ⟨p, q, hA0, hV, rfl, hfz, hnd⟩ := hW
  have hA : DataW.TrodAll enc Try.prog W 0 (fun _ => true) true Try.f8.params.toList args.toList ds p := hA0
  rw [Try.params8] at hA hval
  obtain ⟨v0, vs0, d0, ds0, p0, q0, hargs, rfl, rfl, h0, r0⟩ := trodAll_cons hA
  obtain ⟨v1, vs1, d1, ds1, p1, q1, rfl, rfl, rfl, h1, r1⟩ := trodAll_cons r0
  obtain ⟨v2, vs2, d2, ds2, p2, q2, rfl, rfl, rfl, h2, r2⟩ := trodAll_cons r1
  obtain ⟨rfl, rfl, rfl⟩ := trodAll_nil r2
  obtain rfl : args = #[v0, v1, v2] := by cases args; simp_all
  obtain ⟨rfl, rfl⟩ := trodVars_none hV
  obtain ⟨a0, len0, cap0, rfl⟩ := okWide_slice Try.underlying22 (hval 0 22 v0 rfl rfl)
  have k0 := h0
  have lt0 : ∀ x ∈ p0, x.block < W.heap.size := by obtain ⟨m, hm⟩ := k0; exact DataW.trod_lt m _ _ _ hm
  obtain ⟨z0, w0⟩ : ∃ zs, Row .i64 W a0 len0 cap0 zs := by
    obtain ⟨fuel, hf⟩ := h0
    rcases open_ints Try.underlying22 Try.underlying3 (by kernel_rfl) hf with ⟨hcs, _⟩ | ⟨x, l, c, zs, hcs, _, hl, hm, hz, _, hcell, hwz⟩
    · simp [Value.cells] at hcs
      obtain ⟨rfl, rfl, rfl⟩ := hcs
      exact ⟨[], .inl ⟨rfl, rfl, rfl, rfl⟩⟩
    · simp [Value.cells] at hcs
      obtain ⟨rfl, rfl, rfl⟩ := hcs
      exact ⟨zs, .inr ⟨_, rfl, hl, hm, by simpa using hz, hcell, hwz⟩⟩
  obtain ⟨a1, len1, cap1, rfl⟩ := okWide_slice Try.underlying22 (hval 1 22 v1 rfl rfl)
  have k1 := h1
  have lt1 : ∀ x ∈ p1, x.block < W.heap.size := by obtain ⟨m, hm⟩ := k1; exact DataW.trod_lt m _ _ _ hm
  obtain ⟨z1, w1⟩ : ∃ zs, Row .i64 W a1 len1 cap1 zs := by
    obtain ⟨fuel, hf⟩ := h1
    rcases open_ints Try.underlying22 Try.underlying3 (by kernel_rfl) hf with ⟨hcs, _⟩ | ⟨x, l, c, zs, hcs, _, hl, hm, hz, _, hcell, hwz⟩
    · simp [Value.cells] at hcs
      obtain ⟨rfl, rfl, rfl⟩ := hcs
      exact ⟨[], .inl ⟨rfl, rfl, rfl, rfl⟩⟩
    · simp [Value.cells] at hcs
      obtain ⟨rfl, rfl, rfl⟩ := hcs
      exact ⟨zs, .inr ⟨_, rfl, hl, hm, by simpa using hz, hcell, hwz⟩⟩
  obtain ⟨tE2, tn2, tc2, tA2, tm2, td2, tes2, tl2, rfl, w2⟩ := open_tape (hval 2 26 v2 rfl rfl) h2
  have k2 := h2
  have lt2 : ∀ x ∈ p2, x.block < W.heap.size := by obtain ⟨m, hm⟩ := k2; exact DataW.trod_lt m _ _ _ hm
  clear hA0 hval0
  refine (walk a0 len0 cap0 z0 a1 len1 cap1 z1 tE2 tn2 tc2 tA2 tm2 td2 tes2 tl2 W w0 w1 w2).mono fun e W' ⟨he, bel⟩ => ?_
  subst he
  exact ⟨_, rfl, _, _, _, [], _, [], hW', trodAll_mk1 (shut_bool Try.underlying4 _), (trodAll_cons_mk (Below.trod laidOut (by kernel_rfl) (of_decide_eq_true (by kernel_rfl)) k0 bel lt0) (trodAll_cons_mk (Below.trod laidOut (by kernel_rfl) (of_decide_eq_true (by kernel_rfl)) k1 bel lt1) (trodAll_cons_mk (Below.trod laidOut (by kernel_rfl) (of_decide_eq_true (by kernel_rfl)) k2 bel lt2) trodAll_mk0))), rfl, bel.frame _, fun h => by cases h⟩

theorem over : Rows.tapeRoundRow.holds Try.pinned (OpenSpec.ofChange Rows.tapeRoundSpec) :=
  OpenClaim.holds_of_wide 8 Try.f8 rfl rfl rfl rfl rfl rfl rfl ⟨rfl, rfl, rfl, rfl, rfl⟩ rfl rfl rfl rfl rfl (by kernel_rfl) Try.func8 (by kernel_rfl)
    (of_decide_eq_true (by kernel_rfl)) (by unfold Func.isWrapper; first | (rw [if_pos (by decide +kernel)]; kernel_rfl) | (rw [if_neg (by decide +kernel)]; exact ⟨rfl, rfl⟩))
    (fun os started H enc _ => lifted os started H enc)

theorem proved : Rows.TapeRoundSaid := over
end Go.Proofs.Ytnnbfjhpeamioaa.tapeRound
