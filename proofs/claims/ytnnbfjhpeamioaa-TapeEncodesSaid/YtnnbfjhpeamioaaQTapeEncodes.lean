/-
  The walk of the law TapeEncodes. No condition beyond the arguments' readings.
  The statement TapeEncodes: for every input the law answers true and leaves its arguments as they were. No condition is added. The frame of this proof was written after the guide's program, the walk is the text LawTapeEncodes's.
-/
import Derived.Test.YtnnbfjhpeamioaaK34
import Derived.Test.YtnnbfjhpeamioaaK38
import Derived.Test.YtnnbfjhpeamioaaK15
import Derived.Test.YtnnbfjhpeamioaaRows
import Derived.Test.YtnnbfjhpeamioaaK29
import Derived.WalkKit
import Derived.ProofKit
import Derived.OpenShut
import Derived.ShutString
import Derived.ChangeOld
import Derived.Below
import Derived.Deep.Grids

namespace Go.Proofs.Ytnnbfjhpeamioaa.LawTapeEncodes
open Go Go.RowKit Go.Proofs Go.Proofs.Ytnnbfjhpeamioaa
attribute [local go_sem] Oper.semAt_some

theorem refEncode_good {E A : Option Addr} {ne ce na ca : Nat} {es : List NM.Ev} {l nl : List TP.An} (w : World) (h : TIn w E ne ce A na es l) (h1 : es.length ≤ 10) (h2 : l.length ≤ 10) (he : ∀ e ∈ es, ∀ x ∈ NM.evL e, I64 x) (ha : ∀ a ∈ l, ∀ x ∈ anL a, I64 x) (hl : TP.normA l = nl) :
    Calls Try.prog 34 #[.agg #[.slice E ne ce, .slice A na ca]] w fun e w' => (∃ v, e = .returned v ∧ (RgX.Sp.byt (encT es nl)).p w' v) ∧ Below w.heap.size w w' := by
  have e1 := h.ev.1
  have e2 := h.an.1
  have := refEncode_any (ce := ce) (ca := ca) w h (by omega) (by omega) he ha
  rw [hl] at this
  exact this.mono fun _ _ ⟨B_, m_, d_, h1_, h2_, h3_, _, h4_⟩ => ⟨⟨_, h1_, B_, m_, d_, rfl, h2_, h3_⟩, h4_⟩
set_option maxHeartbeats 8000000 in
set_option maxRecDepth 100000 in
theorem walk (a0 : Option Addr) (len0 cap0 : Nat) (z0 : List Int) (a1 : Option Addr) (len1 cap1 : Nat) (z1 : List Int) (tE : Option Addr) (tn tc : Nat) (tA : Option Addr) (tm td : Nat) (tes : List NM.Ev) (tl : List TP.An) (w : World) (w0 : Row .i64 w a0 len0 cap0 z0) (w1 : Row .i64 w a1 len1 cap1 z1) (w2 : (RawR evE w tE tn tc tes ∧ ∀ e ∈ tes, EvW e) ∧ (RawR anE w tA tm td tl ∧ ∀ a ∈ tl, AnW a)) :
    Calls Try.prog 6 #[.slice a0 len0 cap0, .slice a1 len1 cap1, .agg #[.slice tE tn tc, .slice tA tm td]] w fun e w' => e = .returned (.bool true) ∧ Below w.heap.size w w' := by
  have i0 := w0.ints.1
  have j0 := i64_of w0.ints.2.2.2
  have i1 := w1.ints.1
  have j1 := i64_of w1.ints.2.2.2
  have HT := Lib.hid (fun (V : World) (hV : Below w.heap.size w V) => RgX.tape_calls_lo hV.size rfl rfl (refTape_any (cap0 := cap0) (cap1 := cap1) V ((i0.below hV).more hV.size) j0 ((i1.below hV).more hV.size) j1))
  have HC := Lib.hid (fun (V : World) (hV : Below w.heap.size w V) => RgX.tape_calls_lo hV.size rfl rfl (cut_any V (w2.1.1.keep hV) (w2.2.1.keep hV)))
  have F0 := Lib.hid (show (TP.evsG (z0.take len0)).length ≤ 10 ∧ (TP.ansG (z1.take len1)).length ≤ 10 ∧ (∀ e ∈ TP.evsG (z0.take len0), ∀ y ∈ NM.evL e, I64 y) ∧ (∀ a ∈ TP.ansG (z1.take len1), ∀ y ∈ anL a, I64 y) from ⟨by unfold TP.evsG; rw [List.length_map]; exact Nat.le_trans (List.length_take_le _ _) (by decide), by unfold TP.ansG; rw [List.length_map]; exact List.length_take_le _ _, evs64 _, ans64 _⟩)
  have F1 := Lib.hid (show (tes.take 6).length ≤ 10 ∧ (tl.take 6).length ≤ 10 ∧ (∀ e ∈ tes.take 6, ∀ y ∈ NM.evL e, I64 y) ∧ (∀ a ∈ tl.take 6, ∀ y ∈ anL a, I64 y) from ⟨Nat.le_trans (List.length_take_le _ _) (by decide), Nat.le_trans (List.length_take_le _ _) (by decide), fun e he => evw64 (w2.1.2 e (List.mem_of_mem_take he)), fun a ha => anw64 (w2.2.2 a (List.mem_of_mem_take ha))⟩)
  obtain ⟨e0, he0⟩ : ∃ x, TP.evsG (z0.take len0) = x := ⟨_, rfl⟩
  obtain ⟨l0, hl0⟩ : ∃ x, TP.ansG (z1.take len1) = x := ⟨_, rfl⟩
  obtain ⟨e1, he1⟩ : ∃ x, tes.take 6 = x := ⟨_, rfl⟩
  obtain ⟨l1, hl1⟩ : ∃ x, tl.take 6 = x := ⟨_, rfl⟩
  rw [he0, hl0] at HT F0
  rw [he1, hl1] at HC F1
  clear w0 w1 w2 i0 j0 i1 j1 he0 hl0 he1 hl1
  obtain ⟨n0, hn0⟩ : ∃ x, TP.normA l0 = x := ⟨_, rfl⟩
  obtain ⟨n1, hn1⟩ : ∃ x, TP.normA l1 = x := ⟨_, rfl⟩
  have HL0 := Lib.hid (show (encT e0 n0).length ≤ 2000 from encT_le F0.out.1 (by have := TP.norm_len l0; have := F0.out.2.1; rw [hn0] at *; omega))
  have HL1 := Lib.hid (show (encT e1 n1).length ≤ 2000 from encT_le F1.out.1 (by have := TP.norm_len l1; have := F1.out.2.1; rw [hn1] at *; omega))
  have HN := Lib.hid (And.intro hn0 hn1)
  clear hn0 hn1
  have hs0 := F0.out.1
  have hs1 := F0.out.2.1
  have hs2 := F1.out.1
  have hs3 := F1.out.2.1
  go_enter Try.func6, Try.ntmps6
  go_upto_region 1 with (fail)
  obtain ⟨W, hW⟩ : ∃ W, w.alloc (.cells #[.slice tE tn tc, .slice tA tm td] 26) = W := ⟨_, rfl⟩
  try rw [hW]
  have HBX := Lib.hid (fun (V : World) (hV : Below W.heap.size W V) => row2C ((hV.block _ (by rw [← hW]; simp)).trans (show W.heap[w.heap.size]? = some (.cells #[.slice tE tn tc, .slice tA tm td] 26 (0, 0)) from by rw [← hW]; exact new_at rfl)))
  have HWB := Lib.hid (show Below w.heap.size w W from hW ▸ one_box w _)
  clear hW
  go_upto_region 2 with (go_at_call 12; refine (HT.out W HWB.out).mono ?_; rintro e v1 ⟨⟨v, rfl, E0, c0, A0, d0, rfl, hT⟩, hb⟩; have HT0 := Lib.hid hT; have HV := Lib.hid hb; clear hT hb)
  obtain ⟨U1, hU⟩ : ∃ U, v1.alloc (.cells #[.slice E0 e0.length c0, .slice A0 l0.length d0] 26) = U := ⟨_, rfl⟩
  rw [hU]
  obtain ⟨g7, hg_⟩ : ∃ g, g = v1.heap.size := ⟨_, rfl⟩
  rw [← hg_]
  have K7 := Lib.hid (show U1.heap[g7]? = some (.cells #[.slice E0 e0.length c0, .slice A0 l0.length d0] 26 (0, 0)) from by rw [hg_, ← hU]; exact new_at rfl)
  have hb : Below v1.heap.size v1 U1 := hU ▸ one_box _ _
  replace HT0 := Lib.hid (HT0.out.keep hb)
  have HV1 := Lib.hid (HV.out.trans (hb.mono HV.out.size))
  clear hb hU hg_
  obtain ⟨b0, b1⟩ := HBX.out U1 HV1.out
  go_upto_region 3 with (go_at_call 13; refine (HC.out U1 (HWB.out.trans (HV1.out.mono HWB.out.size))).mono ?_; rintro e v2 ⟨⟨v, rfl, E1, c1, A1, d1, rfl, hT⟩, hb⟩; have HT1 := Lib.hid hT; have HV2 := Lib.hid hb; clear hT hb)
  clear b0 b1
  obtain ⟨U2, hU⟩ : ∃ U, v2.alloc (.cells #[.slice E1 e1.length c1, .slice A1 l1.length d1] 26) = U := ⟨_, rfl⟩
  rw [hU]
  obtain ⟨g8, hg_⟩ : ∃ g, g = v2.heap.size := ⟨_, rfl⟩
  rw [← hg_]
  have k8 : U2.heap[g8]? = some (.cells #[.slice E1 e1.length c1, .slice A1 l1.length d1] 26 (0, 0)) := by rw [hg_, ← hU]; exact new_at rfl
  have hb : Below v2.heap.size v2 U2 := hU ▸ one_box _ _
  have h12 := HV2.out.trans (hb.mono HV2.out.size)
  have k7 := (h12.block g7 (heap_lt K7.out)).trans K7.out
  have t0 := HT0.out.keep h12
  have t1 := HT1.out.keep hb
  have HI0 := Lib.hid (fun (V : World) (hV : Below U2.heap.size U2 V) => TapeIs.tin (t0.keep hV) (by omega) (by omega))
  have HI1 := Lib.hid (fun (V : World) (hV : Below U2.heap.size U2 V) => TapeIs.tin (t1.keep hV) (by omega) (by omega))
  have HF := Lib.hid (fun (V : World) (hV : Below U2.heap.size U2 V) => And.intro (row2C ((hV.block g7 (heap_lt k7)).trans k7)) (row2C ((hV.block g8 (heap_lt k8)).trans k8)))
  have HB2 := Lib.hid (HWB.out.trans ((HV1.out.trans (h12.mono HV1.out.size)).mono HWB.out.size))
  clear hb hU hg_ k8 k7 h12 t0 t1 HT HC HBX HT0 HT1 HV HV1 HV2 K7
  refine RgX.regionB 16 (fun i => (if i = 15 then 6 else 14 + i)) (fun ix_ => match ix_ with | 0 => .v (.agg #[.slice E0 e0.length c0, .slice A0 l0.length d0]) | 1 => .byt (encT e0 n0) | 2 => .v (.agg #[.slice E0 e0.length c0, .slice A0 l0.length d0]) | 3 => .byt (encT e0 n0) | 4 => .v (.bool true) | 5 => .v (.bool true) | 6 => .v (.agg #[.slice E1 e1.length c1, .slice A1 l1.length d1]) | 7 => .byt (encT e1 n1) | 8 => .v (.agg #[.slice E1 e1.length c1, .slice A1 l1.length d1]) | 9 => .byt (encT e1 n1) | 10 => .v (.bool true) | 11 => .v (.bool true) | 12 => .v (.bool true) | 13 => .v (.bool true) | 14 => .v (.bool true) | 15 => .v (.bool true) | _ => .any) (by kernel_rfl) rfl (by kernel_rfl)  (fun i hi => by show (if i = 15 then 6 else 14 + i) < 29; (repeat' split) <;> omega) (fun i j hi hj => by show (if i = 15 then 6 else 14 + i) = (if j = 15 then 6 else 14 + j) → i = j; (repeat' split) <;> omega) ?step ?fin
  case step =>
    intro L_ A_ w3 ix op_ hI ho hdep
    have hi : ix < 16 := (Array.getElem?_eq_some_iff.1 ho).1
    have hcase : ix = 0 ∨ ix = 1 ∨ ix = 2 ∨ ix = 3 ∨ ix = 4 ∨ ix = 5 ∨ ix = 6 ∨ ix = 7 ∨ ix = 8 ∨ ix = 9 ∨ ix = 10 ∨ ix = 11 ∨ ix = 12 ∨ ix = 13 ∨ ix = 14 ∨ ix = 15 := by omega
    have hh := hI.held
    clear hi
    rcases hcase with rfl | rfl | rfl | rfl | rfl | rfl | rfl | rfl | rfl | rfl | rfl | rfl | rfl | rfl | rfl | rfl
    · simp only [List.getElem?_toArray, List.getElem?_cons_zero, Option.some.injEq] at ho
      subst ho
      refine ⟨rfl, ?_⟩
      have e7 : A_.tmps[7]?.getD undef = .pointer (some ⟨g7, 0, none⟩) := by rw [hI.low 7 (by decide)]; rfl
      clear hI hdep
      obtain ⟨⟨x0, x1⟩, y0, y1⟩ := HF.out w3 hh
      exact .run rfl (.agg #[.slice E0 e0.length c0, .slice A0 l0.length d0]) w3 (by simp [execOp, go_sem, Act.eval, *]) (Below.refl _ _) rfl
    · simp only [List.getElem?_toArray, List.getElem?_cons_succ, List.getElem?_cons_zero, Option.some.injEq] at ho
      subst ho
      refine ⟨rfl, ?_⟩
      have e14 : A_.tmps[14]?.getD undef = .agg #[.slice E0 e0.length c0, .slice A0 l0.length d0] := getD_of (hI.val_ (i := 0) rfl rfl (by decide) (hdep ⟨0, .data⟩ (by simp) rfl))
      clear hI hdep
      exact .call rfl 33 #[.agg #[.slice E0 e0.length c0, .slice A0 l0.length d0]] (by simp [go_sem, Act.eval, e14]) (encode_good w3 (HI0.out w3 hh) hs0 hs1 F0.out.2.2.1 F0.out.2.2.2 HN.out.1)
    · simp only [List.getElem?_toArray, List.getElem?_cons_succ, List.getElem?_cons_zero, Option.some.injEq] at ho
      subst ho
      refine ⟨rfl, ?_⟩
      have e7 : A_.tmps[7]?.getD undef = .pointer (some ⟨g7, 0, none⟩) := by rw [hI.low 7 (by decide)]; rfl
      clear hI hdep
      obtain ⟨⟨x0, x1⟩, y0, y1⟩ := HF.out w3 hh
      exact .run rfl (.agg #[.slice E0 e0.length c0, .slice A0 l0.length d0]) w3 (by simp [execOp, go_sem, Act.eval, *]) (Below.refl _ _) rfl
    · simp only [List.getElem?_toArray, List.getElem?_cons_succ, List.getElem?_cons_zero, Option.some.injEq] at ho
      subst ho
      refine ⟨rfl, ?_⟩
      have e16 : A_.tmps[16]?.getD undef = .agg #[.slice E0 e0.length c0, .slice A0 l0.length d0] := getD_of (hI.val_ (i := 2) rfl rfl (by decide) (hdep ⟨2, .data⟩ (by simp) rfl))
      clear hI hdep
      exact .call rfl 34 #[.agg #[.slice E0 e0.length c0, .slice A0 l0.length d0]] (by simp [go_sem, Act.eval, e16]) (refEncode_good w3 (HI0.out w3 hh) hs0 hs1 F0.out.2.2.1 F0.out.2.2.2 HN.out.1)
    · simp only [List.getElem?_toArray, List.getElem?_cons_succ, List.getElem?_cons_zero, Option.some.injEq] at ho
      subst ho
      refine ⟨rfl, ?_⟩
      obtain ⟨_, e15, B15, n15_, c15, rfl, h15⟩ := hI.get_ (i := 1) (j := 15) rfl rfl (by decide) (hdep ⟨1, .data⟩ (by simp) rfl)
      obtain ⟨_, e17, B17, n17_, c17, rfl, h17⟩ := hI.get_ (i := 3) (j := 17) rfl rfl (by decide) (hdep ⟨3, .data⟩ (by simp) rfl)
      clear hI hdep
      exact .call rfl 32 #[.slice B15 n15_ c15, .slice B17 n17_ c17] (by simp [go_sem, Act.eval, e15, e17]) ((bytes_good w3 h15 h17 HL0.out).mono fun _ _ ⟨h1_, h2_⟩ => ⟨⟨_, h1_, rfl⟩, h2_⟩)
    · simp only [List.getElem?_toArray, List.getElem?_cons_succ, List.getElem?_cons_zero, Option.some.injEq] at ho
      subst ho
      refine ⟨rfl, ?_⟩
      have e18 : A_.tmps[18]?.getD undef = .bool true := getD_of (hI.val_ (i := 4) rfl rfl (by decide) (hdep ⟨4, .data⟩ (by simp) rfl))
      clear hI hdep
      exact .run rfl (.bool true) w3 (by simp [execOp, go_sem, Act.eval, e18]) (Below.refl _ _) rfl
    · simp only [List.getElem?_toArray, List.getElem?_cons_succ, List.getElem?_cons_zero, Option.some.injEq] at ho
      subst ho
      refine ⟨rfl, ?_⟩
      have q19 : A_.tmps[19]? = some (.bool true) := hI.val_ (i := 5) rfl rfl (by decide) (hdep ⟨5, .guard⟩ (by simp) rfl)
      have e8 : A_.tmps[8]?.getD undef = .pointer (some ⟨g8, 0, none⟩) := by rw [hI.low 8 (by decide)]; rfl
      clear hI hdep
      obtain ⟨⟨x0, x1⟩, y0, y1⟩ := HF.out w3 hh
      exact .run ((wanted_some rfl rfl q19).trans rfl) (.agg #[.slice E1 e1.length c1, .slice A1 l1.length d1]) w3 (by simp [execOp, go_sem, Act.eval, *]) (Below.refl _ _) rfl
    · simp only [List.getElem?_toArray, List.getElem?_cons_succ, List.getElem?_cons_zero, Option.some.injEq] at ho
      subst ho
      refine ⟨rfl, ?_⟩
      have q19 : A_.tmps[19]? = some (.bool true) := hI.val_ (i := 5) rfl rfl (by decide) (hdep ⟨5, .guard⟩ (by simp) rfl)
      have e20 : A_.tmps[20]?.getD undef = .agg #[.slice E1 e1.length c1, .slice A1 l1.length d1] := getD_of (hI.val_ (i := 6) rfl rfl (by decide) (hdep ⟨6, .data⟩ (by simp) rfl))
      clear hI hdep
      exact .call ((wanted_some rfl rfl q19).trans rfl) 33 #[.agg #[.slice E1 e1.length c1, .slice A1 l1.length d1]] (by simp [go_sem, Act.eval, e20]) (encode_good w3 (HI1.out w3 hh) hs2 hs3 F1.out.2.2.1 F1.out.2.2.2 HN.out.2)
    · simp only [List.getElem?_toArray, List.getElem?_cons_succ, List.getElem?_cons_zero, Option.some.injEq] at ho
      subst ho
      refine ⟨rfl, ?_⟩
      have q19 : A_.tmps[19]? = some (.bool true) := hI.val_ (i := 5) rfl rfl (by decide) (hdep ⟨5, .guard⟩ (by simp) rfl)
      have e8 : A_.tmps[8]?.getD undef = .pointer (some ⟨g8, 0, none⟩) := by rw [hI.low 8 (by decide)]; rfl
      clear hI hdep
      obtain ⟨⟨x0, x1⟩, y0, y1⟩ := HF.out w3 hh
      exact .run ((wanted_some rfl rfl q19).trans rfl) (.agg #[.slice E1 e1.length c1, .slice A1 l1.length d1]) w3 (by simp [execOp, go_sem, Act.eval, *]) (Below.refl _ _) rfl
    · simp only [List.getElem?_toArray, List.getElem?_cons_succ, List.getElem?_cons_zero, Option.some.injEq] at ho
      subst ho
      refine ⟨rfl, ?_⟩
      have q19 : A_.tmps[19]? = some (.bool true) := hI.val_ (i := 5) rfl rfl (by decide) (hdep ⟨5, .guard⟩ (by simp) rfl)
      have e22 : A_.tmps[22]?.getD undef = .agg #[.slice E1 e1.length c1, .slice A1 l1.length d1] := getD_of (hI.val_ (i := 8) rfl rfl (by decide) (hdep ⟨8, .data⟩ (by simp) rfl))
      clear hI hdep
      exact .call ((wanted_some rfl rfl q19).trans rfl) 34 #[.agg #[.slice E1 e1.length c1, .slice A1 l1.length d1]] (by simp [go_sem, Act.eval, e22]) (refEncode_good w3 (HI1.out w3 hh) hs2 hs3 F1.out.2.2.1 F1.out.2.2.2 HN.out.2)
    · simp only [List.getElem?_toArray, List.getElem?_cons_succ, List.getElem?_cons_zero, Option.some.injEq] at ho
      subst ho
      refine ⟨rfl, ?_⟩
      have q19 : A_.tmps[19]? = some (.bool true) := hI.val_ (i := 5) rfl rfl (by decide) (hdep ⟨5, .guard⟩ (by simp) rfl)
      obtain ⟨_, e21, B21, n21_, c21, rfl, h21⟩ := hI.get_ (i := 7) (j := 21) rfl rfl (by decide) (hdep ⟨7, .data⟩ (by simp) rfl)
      obtain ⟨_, e23, B23, n23_, c23, rfl, h23⟩ := hI.get_ (i := 9) (j := 23) rfl rfl (by decide) (hdep ⟨9, .data⟩ (by simp) rfl)
      clear hI hdep
      exact .call ((wanted_some rfl rfl q19).trans rfl) 32 #[.slice B21 n21_ c21, .slice B23 n23_ c23] (by simp [go_sem, Act.eval, e21, e23]) ((bytes_good w3 h21 h23 HL1.out).mono fun _ _ ⟨h1_, h2_⟩ => ⟨⟨_, h1_, rfl⟩, h2_⟩)
    · simp only [List.getElem?_toArray, List.getElem?_cons_succ, List.getElem?_cons_zero, Option.some.injEq] at ho
      subst ho
      refine ⟨rfl, ?_⟩
      have e19 : A_.tmps[19]?.getD undef = .bool true := getD_of (hI.val_ (i := 5) rfl rfl (by decide) (hdep ⟨5, .data⟩ (by simp) rfl))
      have e24 : A_.tmps[24]?.getD undef = .bool true := getD_of (hI.val_ (i := 10) rfl rfl (by decide) (hdep ⟨10, .data⟩ (by simp) rfl))
      clear hI hdep
      exact .run rfl (.bool true) w3 (by simp [execOp, go_sem, Act.eval, e19, e24]) (Below.refl _ _) rfl
    · simp only [List.getElem?_toArray, List.getElem?_cons_succ, List.getElem?_cons_zero, Option.some.injEq] at ho
      subst ho
      refine ⟨rfl, ?_⟩
      have e25 : A_.tmps[25]?.getD undef = .bool true := getD_of (hI.val_ (i := 11) rfl rfl (by decide) (hdep ⟨11, .data⟩ (by simp) rfl))
      clear hI hdep
      exact .run rfl (.bool true) w3 (by simp [execOp, go_sem, Act.eval, e25]) (Below.refl _ _) rfl
    · simp only [List.getElem?_toArray, List.getElem?_cons_succ, List.getElem?_cons_zero, Option.some.injEq] at ho
      subst ho
      refine ⟨rfl, ?_⟩
      have q26 : A_.tmps[26]? = some (.bool true) := hI.val_ (i := 12) rfl rfl (by decide) (hdep ⟨12, .guard⟩ (by simp) rfl)
      clear hI hdep
      exact .call ((wanted_some rfl rfl q26).trans rfl) 24 #[] (by simp [go_sem]) ((lives_any w3).mono fun _ _ ⟨h1_, h2_⟩ => ⟨⟨_, h1_, rfl⟩, h2_⟩)
    · simp only [List.getElem?_toArray, List.getElem?_cons_succ, List.getElem?_cons_zero, Option.some.injEq] at ho
      subst ho
      refine ⟨rfl, ?_⟩
      have e26 : A_.tmps[26]?.getD undef = .bool true := getD_of (hI.val_ (i := 12) rfl rfl (by decide) (hdep ⟨12, .data⟩ (by simp) rfl))
      have e27 : A_.tmps[27]?.getD undef = .bool true := getD_of (hI.val_ (i := 13) rfl rfl (by decide) (hdep ⟨13, .data⟩ (by simp) rfl))
      clear hI hdep
      exact .run rfl (.bool true) w3 (by simp [execOp, go_sem, Act.eval, e26, e27]) (Below.refl _ _) rfl
    · simp only [List.getElem?_toArray, List.getElem?_cons_succ, List.getElem?_cons_zero, Option.some.injEq] at ho
      subst ho
      refine ⟨rfl, ?_⟩
      have e28 : A_.tmps[28]?.getD undef = .bool true := getD_of (hI.val_ (i := 14) rfl rfl (by decide) (hdep ⟨14, .data⟩ (by simp) rfl))
      clear hI hdep
      exact .run rfl (.bool true) w3 (by simp [execOp, go_sem, Act.eval, e28]) (Below.refl _ _) rfl
  case fin =>
  intro A_ w3 hs hd hlow hS hok
  obtain ⟨_, hy15, B15, n15_, c15, rfl, h15⟩ := hok 1 15 _ (by decide) rfl rfl
  obtain ⟨_, hy17, B17, n17_, c17, rfl, h17⟩ := hok 3 17 _ (by decide) rfl rfl
  obtain ⟨_, hy21, B21, n21_, c21, rfl, h21⟩ := hok 7 21 _ (by decide) rfl rfl
  obtain ⟨_, hy23, B23, n23_, c23, rfl, h23⟩ := hok 9 23 _ (by decide) rfl rfl
  obtain rfl : A_ = ⟨#[.slice a0 len0 cap0, .slice a1 len1 cap1, .agg #[.slice tE tn tc, .slice tA tm td], undef, undef, .pointer (some ⟨w.heap.size, 0, none⟩), .bool true, .pointer (some ⟨g7, 0, none⟩), .pointer (some ⟨g8, 0, none⟩), .slice a0 len0 cap0, .slice a1 len1 cap1, .agg #[.slice E0 e0.length c0, .slice A0 l0.length d0], .agg #[.slice tE tn tc, .slice tA tm td], .agg #[.slice E1 e1.length c1, .slice A1 l1.length d1], .agg #[.slice E0 e0.length c0, .slice A0 l0.length d0], .slice B15 n15_ c15, .agg #[.slice E0 e0.length c0, .slice A0 l0.length d0], .slice B17 n17_ c17, .bool true, .bool true, .agg #[.slice E1 e1.length c1, .slice A1 l1.length d1], .slice B21 n21_ c21, .agg #[.slice E1 e1.length c1, .slice A1 l1.length d1], .slice B23 n23_ c23, .bool true, .bool true, .bool true, .bool true, .bool true], []⟩ := act_ext hd hs (fun j hj => match j, hj with | 0, _ => (hlow 0 (by decide)).trans rfl | 1, _ => (hlow 1 (by decide)).trans rfl | 2, _ => (hlow 2 (by decide)).trans rfl | 3, _ => (hlow 3 (by decide)).trans rfl | 4, _ => (hlow 4 (by decide)).trans rfl | 5, _ => (hlow 5 (by decide)).trans rfl | 6, _ => RgX.val_at (hok 15 6 _ (by decide) rfl rfl) | 7, _ => (hlow 7 (by decide)).trans rfl | 8, _ => (hlow 8 (by decide)).trans rfl | 9, _ => (hlow 9 (by decide)).trans rfl | 10, _ => (hlow 10 (by decide)).trans rfl | 11, _ => (hlow 11 (by decide)).trans rfl | 12, _ => (hlow 12 (by decide)).trans rfl | 13, _ => (hlow 13 (by decide)).trans rfl | 14, _ => RgX.val_at (hok 0 14 _ (by decide) rfl rfl) | 15, _ => hy15 | 16, _ => RgX.val_at (hok 2 16 _ (by decide) rfl rfl) | 17, _ => hy17 | 18, _ => RgX.val_at (hok 4 18 _ (by decide) rfl rfl) | 19, _ => RgX.val_at (hok 5 19 _ (by decide) rfl rfl) | 20, _ => RgX.val_at (hok 6 20 _ (by decide) rfl rfl) | 21, _ => hy21 | 22, _ => RgX.val_at (hok 8 22 _ (by decide) rfl rfl) | 23, _ => hy23 | 24, _ => RgX.val_at (hok 10 24 _ (by decide) rfl rfl) | 25, _ => RgX.val_at (hok 11 25 _ (by decide) rfl rfl) | 26, _ => RgX.val_at (hok 12 26 _ (by decide) rfl rfl) | 27, _ => RgX.val_at (hok 13 27 _ (by decide) rfl rfl) | 28, _ => RgX.val_at (hok 14 28 _ (by decide) rfl rfl) | n + 29, h => absurd h (by show ¬ n + 29 < 29; omega))
  clear hs hd hlow hok hy15 hy17 hy21 hy23
  have hB := HB2.out.trans (hS.mono HB2.out.size)
  go_wp2_with fail
  go_ret
  exact ⟨rfl, hB⟩
end Go.Proofs.Ytnnbfjhpeamioaa.LawTapeEncodes

namespace Go.Proofs.Ytnnbfjhpeamioaa.tapeEncodes
open Go.ChangeShapes Go.WideShapes Go.ChangeAt Go.RowKit Go.Proofs Go.Proofs.Ytnnbfjhpeamioaa
open Go.ChangeMaps (open_string shut_string)
open Go.Deep (open_bools)
set_option linter.unusedVariables false

theorem own : ownKnob Try.prog.godebug = none := by kernel_rfl
theorem laidOut : laidOutB Try.prog = true := by kernel_rfl
theorem walk (a0 : Option Addr) (len0 cap0 : Nat) (z0 : List Int) (a1 : Option Addr) (len1 cap1 : Nat) (z1 : List Int) (tE2 : Option Addr) (tn2 tc2 : Nat) (tA2 : Option Addr) (tm2 td2 : Nat) (tes2 : List NM.Ev) (tl2 : List TP.An) (w : World) (w0 : Row .i64 w a0 len0 cap0 z0) (w1 : Row .i64 w a1 len1 cap1 z1) (w2 : (RawR evE w tE2 tn2 tc2 tes2 ∧ ∀ e ∈ tes2, EvW e) ∧ (RawR anE w tA2 tm2 td2 tl2 ∧ ∀ a ∈ tl2, AnW a)) :
    Calls Try.prog 6 #[.slice a0 len0 cap0, .slice a1 len1 cap1, .agg #[.slice tE2 tn2 tc2, .slice tA2 tm2 td2]] w fun e w' => e = .returned (.bool true) ∧ Below w.heap.size w w' := by
  exact LawTapeEncodes.walk a0 len0 cap0 z0 a1 len1 cap1 z1 tE2 tn2 tc2 tA2 tm2 td2 tes2 tl2 w w0 w1 w2
set_option maxRecDepth 100000 in
theorem lifted (os : Os) (started : os.Started) (H : Type) (enc : TypeId × Value → H) :
    ReturnsInHanded {} Try.checked os 6 .any (Rows.tapeEncodesSpec.pre6 enc Try.prog Try.f6 Rows.tapeEncodesRow.domain false) (Rows.tapeEncodesSpec.post enc Try.prog Try.f6 false true false false) := by
  refine returnsInHanded_of_change (C := Try.checked) own started (by kernel_rfl) Try.func6
    (ChangeSpec.witness6 (enc := enc) (C := Try.checked) false ⟨#[], #[.slice none 0 0, .slice none 0 0, .agg #[.slice none 0 0, .slice none 0 0]], []⟩ 8 (by kernel_rfl) (by kernel_rfl) (by kernel_rfl) (by kernel_rfl)) ?_
  intro W base args ds gs before hval0 hW hcnd _
  have hval : ∀ (j : Nat) t v, Try.f6.params[j]? = some t → args[j]? = some v → Value.okWide Try.prog W .any base t v := hval0
  have hW' := hW
  obtain ⟨p, q, hA0, hV, rfl, hfz, hnd⟩ := hW
  have hA : DataW.TrodAll enc Try.prog W 0 (fun _ => true) true Try.f6.params.toList args.toList ds p := hA0
  rw [Try.params6] at hA hval
  obtain ⟨v0, vs0, d0, ds0, p0, q0, hargs, rfl, rfl, h0, r0⟩ := trodAll_cons hA
  obtain ⟨v1, vs1, d1, ds1, p1, q1, rfl, rfl, rfl, h1, r1⟩ := trodAll_cons r0
  obtain ⟨v2, vs2, d2, ds2, p2, q2, rfl, rfl, rfl, h2, r2⟩ := trodAll_cons r1
  obtain ⟨rfl, rfl, rfl⟩ := trodAll_nil r2
  obtain rfl : args = #[v0, v1, v2] := by cases args; simp_all
  obtain ⟨rfl, rfl⟩ := trodVars_none hV
  obtain ⟨a0, len0, cap0, rfl⟩ := okWide_slice Try.underlying22 (hval 0 22 v0 rfl rfl)
  have k0 := h0
  have lt0 : ∀ x ∈ p0, x.block < W.heap.size := by obtain ⟨m, hm⟩ := k0; exact DataW.trod_lt m _ _ _ hm
  obtain ⟨z0, w0⟩ : ∃ zs, Row .i64 W a0 len0 cap0 zs := by
    obtain ⟨fuel, hf⟩ := h0
    rcases open_ints Try.underlying22 Try.underlying3 (by kernel_rfl) hf with ⟨hcs, _⟩ | ⟨x, l, c, zs, hcs, _, hl, hm, hz, _, hcell, hwz⟩
    · simp [Value.cells] at hcs
      obtain ⟨rfl, rfl, rfl⟩ := hcs
      exact ⟨[], .inl ⟨rfl, rfl, rfl, rfl⟩⟩
    · simp [Value.cells] at hcs
      obtain ⟨rfl, rfl, rfl⟩ := hcs
      exact ⟨zs, .inr ⟨_, rfl, hl, hm, by simpa using hz, hcell, hwz⟩⟩
  obtain ⟨a1, len1, cap1, rfl⟩ := okWide_slice Try.underlying22 (hval 1 22 v1 rfl rfl)
  have k1 := h1
  have lt1 : ∀ x ∈ p1, x.block < W.heap.size := by obtain ⟨m, hm⟩ := k1; exact DataW.trod_lt m _ _ _ hm
  obtain ⟨z1, w1⟩ : ∃ zs, Row .i64 W a1 len1 cap1 zs := by
    obtain ⟨fuel, hf⟩ := h1
    rcases open_ints Try.underlying22 Try.underlying3 (by kernel_rfl) hf with ⟨hcs, _⟩ | ⟨x, l, c, zs, hcs, _, hl, hm, hz, _, hcell, hwz⟩
    · simp [Value.cells] at hcs
      obtain ⟨rfl, rfl, rfl⟩ := hcs
      exact ⟨[], .inl ⟨rfl, rfl, rfl, rfl⟩⟩
    · simp [Value.cells] at hcs
      obtain ⟨rfl, rfl, rfl⟩ := hcs
      exact ⟨zs, .inr ⟨_, rfl, hl, hm, by simpa using hz, hcell, hwz⟩⟩
  obtain ⟨tE2, tn2, tc2, tA2, tm2, td2, tes2, tl2, rfl, w2⟩ := open_tape (hval 2 26 v2 rfl rfl) h2
  have k2 := h2
  have lt2 : ∀ x ∈ p2, x.block < W.heap.size := by obtain ⟨m, hm⟩ := k2; exact DataW.trod_lt m _ _ _ hm
  clear hA0 hval0
  refine (walk a0 len0 cap0 z0 a1 len1 cap1 z1 tE2 tn2 tc2 tA2 tm2 td2 tes2 tl2 W w0 w1 w2).mono fun e W' ⟨he, bel⟩ => ?_
  subst he
  exact ⟨_, rfl, _, _, _, [], _, [], hW', trodAll_mk1 (shut_bool Try.underlying4 _), (trodAll_cons_mk (Below.trod laidOut (by kernel_rfl) (of_decide_eq_true (by kernel_rfl)) k0 bel lt0) (trodAll_cons_mk (Below.trod laidOut (by kernel_rfl) (of_decide_eq_true (by kernel_rfl)) k1 bel lt1) (trodAll_cons_mk (Below.trod laidOut (by kernel_rfl) (of_decide_eq_true (by kernel_rfl)) k2 bel lt2) trodAll_mk0))), rfl, bel.frame _, fun h => by cases h⟩

theorem over : Rows.tapeEncodesRow.holds Try.pinned (OpenSpec.ofChange Rows.tapeEncodesSpec) :=
  OpenClaim.holds_of_wide 6 Try.f6 rfl rfl rfl rfl rfl rfl rfl ⟨rfl, rfl, rfl, rfl, rfl⟩ rfl rfl rfl rfl rfl (by kernel_rfl) Try.func6 (by kernel_rfl)
    (of_decide_eq_true (by kernel_rfl)) (by unfold Func.isWrapper; first | (rw [if_pos (by decide +kernel)]; kernel_rfl) | (rw [if_neg (by decide +kernel)]; exact ⟨rfl, rfl⟩))
    (fun os started H enc _ => lifted os started H enc)

theorem proved : Rows.TapeEncodesSaid := over
end Go.Proofs.Ytnnbfjhpeamioaa.tapeEncodes
