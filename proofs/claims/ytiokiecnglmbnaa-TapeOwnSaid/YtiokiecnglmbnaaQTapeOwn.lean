/-
  The walk of the law TapeOwn. No condition beyond the arguments' readings.
  The statement TapeOwn: for every input the law answers true and leaves its arguments as they were. No condition is added. The frame of this proof was written by the guide's program, the walk is the text LawTapeOwn's.
-/
import Derived.Test.YtiokiecnglmbnaaK44
import Derived.Test.YtiokiecnglmbnaaK45
import Derived.Test.YtiokiecnglmbnaaK27
import Derived.Test.YtiokiecnglmbnaaK24
import Derived.Test.YtiokiecnglmbnaaK15
import Derived.Test.YtiokiecnglmbnaaRows
import Derived.WalkKit
import Derived.ProofKit
import Derived.OpenShut
import Derived.ShutString
import Derived.ChangeOld
import Derived.Below

namespace Go.Proofs.Ytiokiecnglmbnaa.LawTapeOwn
open Go Go.RowKit Go.Proofs Go.Proofs.Ytiokiecnglmbnaa
attribute [local go_sem] Oper.semAt_some

theorem oneI (v : Int) : ∀ u ∈ (Value.int .i64 v).cells.toList, ∃ v', u = Value.int .i64 v' := by
  intro u hu
  have h : u ∈ [Value.int .i64 v] := hu
  simp at h
  exact ⟨v, h⟩
theorem tp_sz_int : (Try.prog.info? 3).map (·.size) = some 1 := by kernel_rfl
theorem own_without {W : World} {L : Nat} {F : FuncId} {args : Array Value} {o : List Int} {e0 s0 : List NM.Ev} {l0 n0 y0 : List TP.An} (hn : TP.normA l0 = n0) (hs : TP.sub o 0 e0 = s0) (hy : TP.sub o e0.length n0 = y0) (hL : L ≤ W.heap.size) (h : Calls Try.prog F args W fun e w' => (∃ v, e = .returned v ∧ TapeN W.heap.size w' v (TP.sub o 0 e0) (TP.sub o e0.length (TP.normA l0))) ∧ Below W.heap.size W w') :
    Calls Try.prog F args W fun e w' => (∃ v, e = .returned v ∧ (RgX.Sp.tape L s0 y0 s0.length y0.length).p w' v) ∧ Below W.heap.size W w' := by
  subst hn hs hy
  exact RgX.tape_calls_lo hL rfl rfl h
set_option maxHeartbeats 16000000 in
set_option maxRecDepth 100000 in
theorem walk (a0 : Option Addr) (len0 cap0 : Nat) (z0 : List Int) (a1 : Option Addr) (len1 cap1 : Nat) (z1 : List Int) (a2 : Int) (w : World) (w0 : Row .i64 w a0 len0 cap0 z0) (w1 : Row .i64 w a1 len1 cap1 z1) (w2 : (Lit.int .i64 a2).wf = true) :
    Calls Try.prog 11 #[.slice a0 len0 cap0, .slice a1 len1 cap1, .int .i64 a2] w fun e w' => e = .returned (.bool true) ∧ Below w.heap.size w w' := by
  have hb2 := bounds_i64 w2
  have i0 := w0.ints.1
  have j0 := i64_of w0.ints.2.2.2
  have i1 := w1.ints.1
  have j1 := i64_of w1.ints.2.2.2
  have HT := Lib.hid (fun (V : World) (hV : Below w.heap.size w V) => RgX.tape_calls_lo hV.size rfl rfl (refTape_any (cap0 := cap0) (cap1 := cap1) V ((i0.below hV).more hV.size) j0 ((i1.below hV).more hV.size) j1))
  have F0 := Lib.hid (show (TP.evsG (z0.take len0)).length ≤ 10 ∧ (TP.ansG (z1.take len1)).length ≤ 10 ∧ (∀ e ∈ TP.evsG (z0.take len0), ∀ y ∈ NM.evL e, I64 y) ∧ (∀ a ∈ TP.ansG (z1.take len1), ∀ y ∈ anL a, I64 y) from ⟨by unfold TP.evsG; rw [List.length_map]; exact Nat.le_trans (List.length_take_le _ _) (by decide), by unfold TP.ansG; rw [List.length_map]; exact List.length_take_le _ _, evs64 _, ans64 _⟩)
  obtain ⟨e0, he0⟩ : ∃ x, TP.evsG (z0.take len0) = x := ⟨_, rfl⟩
  obtain ⟨l0, hl0⟩ : ∃ x, TP.ansG (z1.take len1) = x := ⟨_, rfl⟩
  rw [he0, hl0] at HT F0
  have hq64 : I64 a2 := ⟨by omega, by omega⟩
  have HQU := Lib.hid (fun V => refQuestion_any a2 hq64 V)
  obtain ⟨p, hp⟩ : ∃ q, TP.qOf a2 = q := ⟨_, rfl⟩
  rw [hp] at HQU
  obtain ⟨n0, hn0⟩ : ∃ x, TP.normA l0 = x := ⟨_, rfl⟩
  obtain ⟨x0, hx0⟩ : ∃ x, TP.withA l0 p 2 = x := ⟨_, rfl⟩
  obtain ⟨s0, hs0⟩ : ∃ x, TP.sub [a2] 0 e0 = x := ⟨_, rfl⟩
  obtain ⟨y0, hy0⟩ : ∃ x, TP.sub [a2] e0.length n0 = x := ⟨_, rfl⟩
  have hnl : n0.length ≤ 10 := by have := TP.norm_len l0; have := F0.out.2.1; rw [hn0] at *; omega
  have hxl : x0.length ≤ 11 := by
    have hn : (TP.withA l0 p 2).length ≤ (l0 ++ [(p, 2)]).length := TP.norm_len _
    have := F0.out.2.1
    rw [hx0] at hn
    simp only [List.length_append, List.length_cons, List.length_nil] at hn
    omega
  have hsl : s0.length ≤ 10 := by have := TP.sub_len [a2] 0 e0; have := F0.out.1; rw [hs0] at *; omega
  have hyl : y0.length ≤ 10 := by have := TP.sub_len [a2] e0.length n0; rw [hy0] at *; omega
  have HNE := Lib.hid (And.intro hn0 (And.intro hx0 (And.intro hs0 hy0)))
  have HLE := Lib.hid (show (encT e0 n0).length ≤ 2000 from encT_le F0.out.1 hnl)
  have hf0 := F0.out.1
  have hf1 := F0.out.2.1
  clear w0 w1 w2 i0 j0 i1 j1 he0 hl0 hp hn0 hx0 hs0 hy0 hb2
  go_enter Try.func11, Try.ntmps11
  go_upto_region 2 with (go_at_call 12; refine (HT.out w (Below.refl _ _)).mono ?_; rintro e v1 ⟨⟨v, rfl, E0, c0, A0, d0, rfl, hT⟩, hb⟩; have HT0 := Lib.hid hT; have HV := Lib.hid hb; clear hT hb)
  obtain ⟨U1, hU⟩ : ∃ U, v1.alloc (.cells #[.slice E0 e0.length c0, .slice A0 l0.length d0] 26) = U := ⟨_, rfl⟩
  rw [hU]
  obtain ⟨g7, hg_⟩ : ∃ g, g = v1.heap.size := ⟨_, rfl⟩
  rw [← hg_]
  have K7 := Lib.hid (show U1.heap[g7]? = some (.cells #[.slice E0 e0.length c0, .slice A0 l0.length d0] 26 (0, 0)) from by rw [hg_, ← hU]; exact new_at rfl)
  have hb : Below v1.heap.size v1 U1 := hU ▸ one_box _ _
  replace HT0 := Lib.hid (HT0.out.keep hb)
  have HV1 := Lib.hid (HV.out.trans (hb.mono HV.out.size))
  clear hb hU hg_
  go_upto_region 3 with (go_at_call 12; refine (HT.out U1 HV1.out).mono ?_; rintro e v2 ⟨⟨v, rfl, E1, c1, A1, d1, rfl, hT⟩, hb⟩; have HT1 := Lib.hid hT; have HV2 := Lib.hid hb; clear hT hb)
  obtain ⟨U2, hU⟩ : ∃ U, v2.alloc (.cells #[.slice E1 e0.length c1, .slice A1 l0.length d1] 26) = U := ⟨_, rfl⟩
  rw [hU]
  obtain ⟨g8, hg_⟩ : ∃ g, g = v2.heap.size := ⟨_, rfl⟩
  rw [← hg_]
  have k8 : U2.heap[g8]? = some (.cells #[.slice E1 e0.length c1, .slice A1 l0.length d1] 26 (0, 0)) := by rw [hg_, ← hU]; exact new_at rfl
  have hb : Below v2.heap.size v2 U2 := hU ▸ one_box _ _
  have h12 := HV2.out.trans (hb.mono HV2.out.size)
  have k7 := (h12.block g7 (heap_lt K7.out)).trans K7.out
  have t0 := HT0.out.keep h12
  have t1 := HT1.out.keep hb
  have HI0 := Lib.hid (fun (V : World) (hV : Below U2.heap.size U2 V) => TapeIs.tin (t0.keep hV) (by omega) (by omega))
  have HI1 := Lib.hid (fun (V : World) (hV : Below U2.heap.size U2 V) => TapeIs.tin (t1.keep hV) (by omega) (by omega))
  have HF := Lib.hid (fun (V : World) (hV : Below U2.heap.size U2 V) => And.intro (row2C ((hV.block g7 (heap_lt k7)).trans k7)) (row2C ((hV.block g8 (heap_lt k8)).trans k8)))
  have HB2 := Lib.hid (HV1.out.trans (h12.mono HV1.out.size))
  clear hb hU hg_ k8 k7 h12 t0 t1 HT HT0 HT1 HV HV1 HV2 K7
  refine RgX.regionB 12 (fun i => (if i = 11 then 9 else 19 + i)) (fun ix_ => match ix_ with | 0 => .v (.agg #[.slice E0 e0.length c0, .slice A0 l0.length d0]) | 1 => .tape U2.heap.size e0 n0 e0.length n0.length | 2 => .v (.agg #[.slice E0 e0.length c0, .slice A0 l0.length d0]) | 3 => .v (.int .i64 a2) | 4 => .v (.agg #[.int .i64 p.c, .int .i64 p.h, .int .i64 p.t, .int .i64 p.k, .int .i64 p.i]) | 5 => .tape U2.heap.size e0 x0 e0.length x0.length | 6 => .v (.agg #[.slice E0 e0.length c0, .slice A0 l0.length d0]) | 7 => .v (.int .i64 a2) | 8 => .row #[.int .i64 a2] 3 1 | 9 => .tape U2.heap.size s0 y0 s0.length y0.length | 10 => .res3 U2.heap.size | 11 => .res3 U2.heap.size | _ => .any) (by kernel_rfl) rfl (by kernel_rfl)  (fun i hi => by show (if i = 11 then 9 else 19 + i) < 83; (repeat' split) <;> omega) (fun i j hi hj => by show (if i = 11 then 9 else 19 + i) = (if j = 11 then 9 else 19 + j) → i = j; (repeat' split) <;> omega) ?step ?fin
  case step =>
    intro L_ A_ w3 ix op_ hI ho hdep
    have hi : ix < 12 := (Array.getElem?_eq_some_iff.1 ho).1
    have hcase : ix = 0 ∨ ix = 1 ∨ ix = 2 ∨ ix = 3 ∨ ix = 4 ∨ ix = 5 ∨ ix = 6 ∨ ix = 7 ∨ ix = 8 ∨ ix = 9 ∨ ix = 10 ∨ ix = 11 := by omega
    have hh := hI.held
    clear hi
    rcases hcase with rfl | rfl | rfl | rfl | rfl | rfl | rfl | rfl | rfl | rfl | rfl | rfl
    · simp only [List.getElem?_toArray, List.getElem?_cons_zero, Option.some.injEq] at ho
      subst ho
      refine ⟨rfl, ?_⟩
      have e7 : A_.tmps[7]?.getD undef = .pointer (some ⟨g7, 0, none⟩) := by rw [hI.low 7 (by decide)]; rfl
      clear hI hdep
      obtain ⟨⟨b0, b1⟩, b2, b3⟩ := HF.out w3 hh
      exact .run rfl (.agg #[.slice E0 e0.length c0, .slice A0 l0.length d0]) w3 (by simp [execOp, go_sem, Act.eval, *]) (Below.refl _ _) rfl
    · simp only [List.getElem?_toArray, List.getElem?_cons_succ, List.getElem?_cons_zero, Option.some.injEq] at ho
      subst ho
      refine ⟨rfl, ?_⟩
      have e19 : A_.tmps[19]?.getD undef = .agg #[.slice E0 e0.length c0, .slice A0 l0.length d0] := getD_of (hI.val_ (i := 0) rfl rfl (by decide) (hdep ⟨0, .data⟩ (by simp) rfl))
      clear hI hdep
      exact .call rfl 17 #[.agg #[.slice E0 e0.length c0, .slice A0 l0.length d0]] (by simp [go_sem, Act.eval, e19]) (HNE.out.1 ▸ RgX.tape_calls_lo hh.size rfl rfl (normal_any w3 (HI0.out w3 hh)))
    · simp only [List.getElem?_toArray, List.getElem?_cons_succ, List.getElem?_cons_zero, Option.some.injEq] at ho
      subst ho
      refine ⟨rfl, ?_⟩
      have e7 : A_.tmps[7]?.getD undef = .pointer (some ⟨g7, 0, none⟩) := by rw [hI.low 7 (by decide)]; rfl
      clear hI hdep
      obtain ⟨⟨b0, b1⟩, b2, b3⟩ := HF.out w3 hh
      exact .run rfl (.agg #[.slice E0 e0.length c0, .slice A0 l0.length d0]) w3 (by simp [execOp, go_sem, Act.eval, *]) (Below.refl _ _) rfl
    · simp only [List.getElem?_toArray, List.getElem?_cons_succ, List.getElem?_cons_zero, Option.some.injEq] at ho
      subst ho
      refine ⟨rfl, ?_⟩
      have e2 : A_.tmps[2]?.getD undef = .int .i64 a2 := by rw [hI.low 2 (by decide)]; rfl
      clear hI hdep
      exact .run rfl (.int .i64 a2) w3 (by simp [execOp, go_sem, Act.eval, e2]) (Below.refl _ _) rfl
    · simp only [List.getElem?_toArray, List.getElem?_cons_succ, List.getElem?_cons_zero, Option.some.injEq] at ho
      subst ho
      refine ⟨rfl, ?_⟩
      have e22 : A_.tmps[22]?.getD undef = .int .i64 a2 := getD_of (hI.val_ (i := 3) rfl rfl (by decide) (hdep ⟨3, .data⟩ (by simp) rfl))
      clear hI hdep
      exact .call rfl 14 #[.int .i64 a2] (by simp [go_sem, Act.eval, e22]) ((HQU.out w3).mono fun _ _ ⟨h1_, h2_⟩ => ⟨⟨_, h1_, rfl⟩, h2_⟩)
    · simp only [List.getElem?_toArray, List.getElem?_cons_succ, List.getElem?_cons_zero, Option.some.injEq] at ho
      subst ho
      refine ⟨rfl, ?_⟩
      have e21 : A_.tmps[21]?.getD undef = .agg #[.slice E0 e0.length c0, .slice A0 l0.length d0] := getD_of (hI.val_ (i := 2) rfl rfl (by decide) (hdep ⟨2, .data⟩ (by simp) rfl))
      have e23 : A_.tmps[23]?.getD undef = .agg #[.int .i64 p.c, .int .i64 p.h, .int .i64 p.t, .int .i64 p.k, .int .i64 p.i] := getD_of (hI.val_ (i := 4) rfl rfl (by decide) (hdep ⟨4, .data⟩ (by simp) rfl))
      clear hI hdep
      exact .call rfl 23 #[.agg #[.slice E0 e0.length c0, .slice A0 l0.length d0], .agg #[.int .i64 p.c, .int .i64 p.h, .int .i64 p.t, .int .i64 p.k, .int .i64 p.i], .int .i64 2] (by simp [go_sem, Act.eval, e21, e23]) (HNE.out.2.1 ▸ RgX.tape_calls_lo hh.size rfl rfl (with_any p 2 w3 (HI0.out w3 hh)))
    · simp only [List.getElem?_toArray, List.getElem?_cons_succ, List.getElem?_cons_zero, Option.some.injEq] at ho
      subst ho
      refine ⟨rfl, ?_⟩
      have e7 : A_.tmps[7]?.getD undef = .pointer (some ⟨g7, 0, none⟩) := by rw [hI.low 7 (by decide)]; rfl
      clear hI hdep
      obtain ⟨⟨b0, b1⟩, b2, b3⟩ := HF.out w3 hh
      exact .run rfl (.agg #[.slice E0 e0.length c0, .slice A0 l0.length d0]) w3 (by simp [execOp, go_sem, Act.eval, *]) (Below.refl _ _) rfl
    · simp only [List.getElem?_toArray, List.getElem?_cons_succ, List.getElem?_cons_zero, Option.some.injEq] at ho
      subst ho
      refine ⟨rfl, ?_⟩
      have e2 : A_.tmps[2]?.getD undef = .int .i64 a2 := by rw [hI.low 2 (by decide)]; rfl
      clear hI hdep
      exact .run rfl (.int .i64 a2) w3 (by simp [execOp, go_sem, Act.eval, e2]) (Below.refl _ _) rfl
    · simp only [List.getElem?_toArray, List.getElem?_cons_succ, List.getElem?_cons_zero, Option.some.injEq] at ho
      subst ho
      refine ⟨rfl, ?_⟩
      have e26 : A_.tmps[26]?.getD undef = .int .i64 a2 := getD_of (hI.val_ (i := 7) rfl rfl (by decide) (hdep ⟨7, .data⟩ (by simp) rfl))
      clear hI hdep
      exact .run rfl (.slice (some ⟨w3.heap.size, 0, none⟩) 1 1) (w3.alloc (.cells #[.int .i64 a2] 3)) (by simp [execOp, go_sem, Act.eval, e26]) ((Below.refl _ _).alloc (Nat.le_refl _) _) (RgX.row_new _ _ _ _)
    · simp only [List.getElem?_toArray, List.getElem?_cons_succ, List.getElem?_cons_zero, Option.some.injEq] at ho
      subst ho
      refine ⟨rfl, ?_⟩
      have e25 : A_.tmps[25]?.getD undef = .agg #[.slice E0 e0.length c0, .slice A0 l0.length d0] := getD_of (hI.val_ (i := 6) rfl rfl (by decide) (hdep ⟨6, .data⟩ (by simp) rfl))
      obtain ⟨_, e27, g27, rfl, r27⟩ := hI.get_ (i := 8) (j := 27) rfl rfl (by decide) (hdep ⟨8, .data⟩ (by simp) rfl)
      clear hI hdep
      exact .call rfl 30 #[.agg #[.slice E0 e0.length c0, .slice A0 l0.length d0], .slice (some ⟨g27, 0, none⟩) 1 1] (by simp [go_sem, Act.eval, e25, e27]) (own_without (HNE.out.1) HNE.out.2.2.1 HNE.out.2.2.2 hh.size (without_any w3 (HI0.out w3 hh) (ints_box r27) (fun x hx => by rw [List.mem_singleton.1 hx]; exact hq64) (by decide)))
    · simp only [List.getElem?_toArray, List.getElem?_cons_succ, List.getElem?_cons_zero, Option.some.injEq] at ho
      subst ho
      refine ⟨rfl, ?_⟩
      obtain ⟨_, e20, E20, c20, A20, d20, rfl, h20⟩ := hI.get_ (i := 1) (j := 20) rfl rfl (by decide) (hdep ⟨1, .data⟩ (by simp) rfl)
      obtain ⟨_, e24, E24, c24, A24, d24, rfl, h24⟩ := hI.get_ (i := 5) (j := 24) rfl rfl (by decide) (hdep ⟨5, .data⟩ (by simp) rfl)
      obtain ⟨_, e28, E28, c28, A28, d28, rfl, h28⟩ := hI.get_ (i := 9) (j := 28) rfl rfl (by decide) (hdep ⟨9, .data⟩ (by simp) rfl)
      clear hI hdep
      exact .run rfl (.slice (some ⟨w3.heap.size, 0, none⟩) 3 3) (w3.alloc (.cells #[.slice E20 e0.length c20, .slice A20 n0.length d20, .slice E24 e0.length c24, .slice A24 x0.length d24, .slice E28 s0.length c28, .slice A28 y0.length d28] 26)) (by simp [execOp, go_sem, Act.eval, e20, e24, e28]) ((Below.refl _ _).alloc (Nat.le_refl _) _) ⟨_, rfl, res3_new h20 h24 h28 (by constructor <;> omega) (by constructor <;> omega) (by constructor <;> omega)⟩
    · simp only [List.getElem?_toArray, List.getElem?_cons_succ, List.getElem?_cons_zero, Option.some.injEq] at ho
      subst ho
      refine ⟨rfl, ?_⟩
      obtain ⟨y29, e29, h29⟩ := hI.get_ (i := 10) (j := 29) rfl rfl (by decide) (hdep ⟨10, .data⟩ (by simp) rfl)
      clear hI hdep
      exact .run rfl y29 w3 (by simp [execOp, go_sem, Act.eval, e29]) (Below.refl _ _) h29
  case fin =>
  intro A_ w3 hs hd hlow hS hok
  obtain ⟨_, hy9, g9, rfl, r9⟩ := hok 11 9 _ (by decide) rfl rfl
  obtain ⟨_, hy20, E20, c20, A20, d20, rfl, h20⟩ := hok 1 20 _ (by decide) rfl rfl
  obtain ⟨_, hy24, E24, c24, A24, d24, rfl, h24⟩ := hok 5 24 _ (by decide) rfl rfl
  obtain ⟨_, hy27, g27, rfl, r27⟩ := hok 8 27 _ (by decide) rfl rfl
  obtain ⟨_, hy28, E28, c28, A28, d28, rfl, h28⟩ := hok 9 28 _ (by decide) rfl rfl
  obtain ⟨_, hy29, g29, rfl, r29⟩ := hok 10 29 _ (by decide) rfl rfl
  obtain rfl : A_ = ⟨#[.slice a0 len0 cap0, .slice a1 len1 cap1, .int .i64 a2, undef, undef, undef, .bool false, .pointer (some ⟨g7, 0, none⟩), .pointer (some ⟨g8, 0, none⟩), .slice (some ⟨g9, 0, none⟩) 3 3, undef, undef, undef, .slice a0 len0 cap0, .slice a1 len1 cap1, .agg #[.slice E0 e0.length c0, .slice A0 l0.length d0], .slice a0 len0 cap0, .slice a1 len1 cap1, .agg #[.slice E1 e0.length c1, .slice A1 l0.length d1], .agg #[.slice E0 e0.length c0, .slice A0 l0.length d0], .agg #[.slice E20 e0.length c20, .slice A20 n0.length d20], .agg #[.slice E0 e0.length c0, .slice A0 l0.length d0], .int .i64 a2, .agg #[.int .i64 p.c, .int .i64 p.h, .int .i64 p.t, .int .i64 p.k, .int .i64 p.i], .agg #[.slice E24 e0.length c24, .slice A24 x0.length d24], .agg #[.slice E0 e0.length c0, .slice A0 l0.length d0], .int .i64 a2, .slice (some ⟨g27, 0, none⟩) 1 1, .agg #[.slice E28 s0.length c28, .slice A28 y0.length d28], .slice (some ⟨g29, 0, none⟩) 3 3, undef, undef, undef, undef, undef, undef, undef, undef, undef, undef, undef, undef, undef, undef, undef, undef, undef, undef, undef, undef, undef, undef, undef, undef, undef, undef, undef, undef, undef, undef, undef, undef, undef, undef, undef, undef, undef, undef, undef, undef, undef, undef, undef, undef, undef, undef, undef, undef, undef, undef, undef, undef, undef], []⟩ := act_ext hd hs (fun j hj => match j, hj with | 0, _ => (hlow 0 (by decide)).trans rfl | 1, _ => (hlow 1 (by decide)).trans rfl | 2, _ => (hlow 2 (by decide)).trans rfl | 3, _ => (hlow 3 (by decide)).trans rfl | 4, _ => (hlow 4 (by decide)).trans rfl | 5, _ => (hlow 5 (by decide)).trans rfl | 6, _ => (hlow 6 (by decide)).trans rfl | 7, _ => (hlow 7 (by decide)).trans rfl | 8, _ => (hlow 8 (by decide)).trans rfl | 9, _ => hy9 | 10, _ => (hlow 10 (by decide)).trans rfl | 11, _ => (hlow 11 (by decide)).trans rfl | 12, _ => (hlow 12 (by decide)).trans rfl | 13, _ => (hlow 13 (by decide)).trans rfl | 14, _ => (hlow 14 (by decide)).trans rfl | 15, _ => (hlow 15 (by decide)).trans rfl | 16, _ => (hlow 16 (by decide)).trans rfl | 17, _ => (hlow 17 (by decide)).trans rfl | 18, _ => (hlow 18 (by decide)).trans rfl | 19, _ => RgX.val_at (hok 0 19 _ (by decide) rfl rfl) | 20, _ => hy20 | 21, _ => RgX.val_at (hok 2 21 _ (by decide) rfl rfl) | 22, _ => RgX.val_at (hok 3 22 _ (by decide) rfl rfl) | 23, _ => RgX.val_at (hok 4 23 _ (by decide) rfl rfl) | 24, _ => hy24 | 25, _ => RgX.val_at (hok 6 25 _ (by decide) rfl rfl) | 26, _ => RgX.val_at (hok 7 26 _ (by decide) rfl rfl) | 27, _ => hy27 | 28, _ => hy28 | 29, _ => hy29 | 30, _ => (hlow 30 (by decide)).trans rfl | 31, _ => (hlow 31 (by decide)).trans rfl | 32, _ => (hlow 32 (by decide)).trans rfl | 33, _ => (hlow 33 (by decide)).trans rfl | 34, _ => (hlow 34 (by decide)).trans rfl | 35, _ => (hlow 35 (by decide)).trans rfl | 36, _ => (hlow 36 (by decide)).trans rfl | 37, _ => (hlow 37 (by decide)).trans rfl | 38, _ => (hlow 38 (by decide)).trans rfl | 39, _ => (hlow 39 (by decide)).trans rfl | 40, _ => (hlow 40 (by decide)).trans rfl | 41, _ => (hlow 41 (by decide)).trans rfl | 42, _ => (hlow 42 (by decide)).trans rfl | 43, _ => (hlow 43 (by decide)).trans rfl | 44, _ => (hlow 44 (by decide)).trans rfl | 45, _ => (hlow 45 (by decide)).trans rfl | 46, _ => (hlow 46 (by decide)).trans rfl | 47, _ => (hlow 47 (by decide)).trans rfl | 48, _ => (hlow 48 (by decide)).trans rfl | 49, _ => (hlow 49 (by decide)).trans rfl | 50, _ => (hlow 50 (by decide)).trans rfl | 51, _ => (hlow 51 (by decide)).trans rfl | 52, _ => (hlow 52 (by decide)).trans rfl | 53, _ => (hlow 53 (by decide)).trans rfl | 54, _ => (hlow 54 (by decide)).trans rfl | 55, _ => (hlow 55 (by decide)).trans rfl | 56, _ => (hlow 56 (by decide)).trans rfl | 57, _ => (hlow 57 (by decide)).trans rfl | 58, _ => (hlow 58 (by decide)).trans rfl | 59, _ => (hlow 59 (by decide)).trans rfl | 60, _ => (hlow 60 (by decide)).trans rfl | 61, _ => (hlow 61 (by decide)).trans rfl | 62, _ => (hlow 62 (by decide)).trans rfl | 63, _ => (hlow 63 (by decide)).trans rfl | 64, _ => (hlow 64 (by decide)).trans rfl | 65, _ => (hlow 65 (by decide)).trans rfl | 66, _ => (hlow 66 (by decide)).trans rfl | 67, _ => (hlow 67 (by decide)).trans rfl | 68, _ => (hlow 68 (by decide)).trans rfl | 69, _ => (hlow 69 (by decide)).trans rfl | 70, _ => (hlow 70 (by decide)).trans rfl | 71, _ => (hlow 71 (by decide)).trans rfl | 72, _ => (hlow 72 (by decide)).trans rfl | 73, _ => (hlow 73 (by decide)).trans rfl | 74, _ => (hlow 74 (by decide)).trans rfl | 75, _ => (hlow 75 (by decide)).trans rfl | 76, _ => (hlow 76 (by decide)).trans rfl | 77, _ => (hlow 77 (by decide)).trans rfl | 78, _ => (hlow 78 (by decide)).trans rfl | 79, _ => (hlow 79 (by decide)).trans rfl | 80, _ => (hlow 80 (by decide)).trans rfl | 81, _ => (hlow 81 (by decide)).trans rfl | 82, _ => (hlow 82 (by decide)).trans rfl | n + 83, h => absurd h (by show ¬ n + 83 < 83; omega))
  clear hs hd hlow hok hy9 hy20 hy24 hy27 hy28 hy29
  have H9 := Lib.hid (And.intro r9 hS)
  obtain ⟨v3, hv3⟩ : ∃ W, W = w3 := ⟨_, rfl⟩
  subst hv3
  clear h20 h24 h28 r27 r29 r9 hS
  go_wp2_with fail
  go_loopw [10] (fun i V => ∃ i0 : Nat, i0 ≤ 3 ∧ i = .int .i64 (i0 : Int) ∧ Hid (Tw v3 V) ∧ Hid (Below U2.heap.size U2 V)) (fun i _ => 3 - (intOf i).toNat)
  case atStart => exact ⟨0, by omega, rfl, Tw.refl _, H9.out.2⟩
  case round =>
    obtain ⟨i, hi, rfl, HT0, HB0⟩ := hrel
    by_cases hin : i < 3
    · have di : decide (i < 3) = true := decide_eq_true hin
      have di2 : decide ((i : Int) < 3) = true := decide_eq_true (by omega)
      have di3 : (i : Int) < 3 := by omega
      obtain ⟨C, hgC, hC⟩ := H9.out.1.tw HT0.out
      obtain ⟨A, n, c, P, m, q, e1, e2, hn, hm, hA, hP⟩ := hC i hin
      have HCI := Lib.hid (fun (V : World) (hV : Tw wr V) => show V.cell? ⟨g9, i * 2, none⟩ = some (.slice A n c) ∧ V.cell? ⟨g9, i * 2 + 1, none⟩ = some (.slice P m q) from by
        obtain ⟨C', h1, _, h3⟩ := hV g9 C _ hgC
        rw [h3 rfl] at h1
        exact ⟨(cell_of_row V g9 _ _ _ (0, 0) h1).trans e1, (cell_of_row V g9 _ _ _ (0, 0) h1).trans e2⟩)
      have HIS := Lib.hid (And.intro hA hP)
      clear hgC hC e1 e2 hA hP
      obtain ⟨wo, hwo⟩ : ∃ W, W = wr := ⟨_, rfl⟩
      subst hwo
      go_wp2_with fail
      go_loopw [11] (fun k V => ∃ j : Nat, j ≤ n ∧ k = .int .i64 (j : Int) ∧ Hid (Tw wo V) ∧ Hid (Below U2.heap.size U2 V)) (fun k _ => n - (intOf k).toNat)
      case atStart => exact ⟨0, by omega, rfl, Tw.refl _, HB0.out⟩
      case round =>
        obtain ⟨j, hj, rfl, HT, HB⟩ := hrel
        obtain ⟨d0, d1⟩ := HCI.out wr HT.out
        by_cases hjn : j < n
        · have dj : decide (j < n) = true := decide_eq_true hjn
          have dj2 : decide ((j : Int) < (n : Int)) = true := decide_eq_true (by omega)
          have dj3 : (j : Int) < (n : Int) := by omega
          obtain ⟨gA, oA, C1, eA, hlA, hgA, hcA⟩ := (HIS.out.1.tw HT.out).resolve_left (by omega)
          subst eA
          have hroom : oA + j * 8 + 1 ≤ C1.size := by
            obtain ⟨v, hv⟩ := hcA (j * 8) (by omega)
            have := (Array.getElem?_eq_some_iff.1 hv).1
            omega
          have HG := Lib.hid (And.intro hlA (And.intro hgA hroom))
          clear hlA hgA hcA hroom
          go_wp2_with (refine RgX.wpList_store_seg rfl 3 _ _ rfl gA (oA + j * 8) (.int .i64 (-1)) rfl rfl 47 C1 HG.out.2.1 tp_sz_int HG.out.2.2 (by simp [Value.cells, Value.oneCell']) _ rfl ?_; intro V2 k2 ho2 hz2 hb2)
          go_roundw
          case rel => exact ⟨j + 1, by omega, by go_num, HT.out.trans (Tw.of_store HG.out.2.1 (by decide) (oneI (-1)) HG.out.2.2 k2 ho2), HB.out.trans (hb2.mono HG.out.1)⟩
          case measure => simp [intOf]; omega
        · have dj : decide (j < n) = false := decide_eq_false hjn
          have dj2 : decide ((j : Int) < (n : Int)) = false := decide_eq_false (by omega)
          obtain ⟨w1o, hw1o⟩ : ∃ W, W = wr := ⟨_, rfl⟩
          subst hw1o
          have HT1 := Lib.hid HT.out
          have HB1 := Lib.hid HB.out
          clear HT HB
          go_wp2_with fail
          clear d0 d1
          go_loopw [12] (fun k V => ∃ j : Nat, j ≤ m ∧ k = .int .i64 (j : Int) ∧ Hid (Tw wo V) ∧ Hid (Below U2.heap.size U2 V)) (fun k _ => m - (intOf k).toNat)
          case atStart => exact ⟨0, by omega, rfl, HT1.out, HB1.out⟩
          case round =>
            obtain ⟨j, hj, rfl, HT, HB⟩ := hrel
            obtain ⟨d0, d1⟩ := HCI.out wr HT.out
            by_cases hjm : j < m
            · have dj : decide (j < m) = true := decide_eq_true hjm
              have dj2 : decide ((j : Int) < (m : Int)) = true := decide_eq_true (by omega)
              have dj3 : (j : Int) < (m : Int) := by omega
              obtain ⟨gA, oA, C1, eA, hlA, hgA, hcA⟩ := (HIS.out.2.tw HT.out).resolve_left (by omega)
              subst eA
              have hroom : oA + j * 6 + 5 + 1 ≤ C1.size := by
                obtain ⟨v, hv⟩ := hcA (j * 6 + 5) (by omega)
                have := (Array.getElem?_eq_some_iff.1 hv).1
                omega
              have HG := Lib.hid (And.intro hlA (And.intro hgA hroom))
              clear hlA hgA hcA hroom
              go_wp2_with (refine RgX.wpList_store_seg rfl 3 _ _ rfl gA (oA + j * 6 + 5) (.int .i64 (-1)) rfl rfl 71 C1 HG.out.2.1 tp_sz_int HG.out.2.2 (by simp [Value.cells, Value.oneCell']) _ rfl ?_; intro V2 k2 ho2 hz2 hb2)
              go_roundw
              case rel => exact ⟨j + 1, by omega, by go_num, HT.out.trans (Tw.of_store HG.out.2.1 (by decide) (oneI (-1)) HG.out.2.2 k2 ho2), HB.out.trans (hb2.mono HG.out.1)⟩
              case measure => simp [intOf]; omega
            · have dj : decide (j < m) = false := decide_eq_false hjm
              have dj2 : decide ((j : Int) < (m : Int)) = false := decide_eq_false (by omega)
              have HT2 := Lib.hid (HT0.out.trans HT.out)
              have HB3 := Lib.hid HB.out
              go_wp2_with fail
              go_roundw
              case rel => exact ⟨i + 1, by omega, by go_num, HT2.out, HB3.out⟩
              case measure => simp [intOf]; omega
    · have di : decide (i < 3) = false := decide_eq_false hin
      have di2 : decide ((i : Int) < 3) = false := decide_eq_false (by omega)
      obtain ⟨v4, hv4⟩ : ∃ W, W = wr := ⟨_, rfl⟩
      subst hv4
      have hs4 := HB0.out.size
      go_upto_region 15 with (fail)
      refine RgX.regionB 14 (fun i => (if i = 13 then 6 else 70 + i)) (fun ix_ => match ix_ with | 0 => .v (.agg #[.slice E0 e0.length c0, .slice A0 l0.length d0]) | 1 => .v (.agg #[.slice E1 e0.length c1, .slice A1 l0.length d1]) | 2 => .v (.bool true) | 3 => .v (.bool true) | 4 => .v (.agg #[.slice E0 e0.length c0, .slice A0 l0.length d0]) | 5 => .byt (encT e0 n0) | 6 => .v (.agg #[.slice E1 e0.length c1, .slice A1 l0.length d1]) | 7 => .byt (encT e0 n0) | 8 => .v (.bool true) | 9 => .v (.bool true) | 10 => .v (.bool true) | 11 => .v (.bool true) | 12 => .v (.bool true) | 13 => .v (.bool true) | _ => .any) (by kernel_rfl) rfl (by kernel_rfl)  (fun i hi => by show (if i = 13 then 6 else 70 + i) < 83; (repeat' split) <;> omega) (fun i j hi hj => by show (if i = 13 then 6 else 70 + i) = (if j = 13 then 6 else 70 + j) → i = j; (repeat' split) <;> omega) ?step ?fin
      case step =>
        intro L_ A_ w3 ix op_ hI ho hdep
        have hi : ix < 14 := (Array.getElem?_eq_some_iff.1 ho).1
        have hcase : ix = 0 ∨ ix = 1 ∨ ix = 2 ∨ ix = 3 ∨ ix = 4 ∨ ix = 5 ∨ ix = 6 ∨ ix = 7 ∨ ix = 8 ∨ ix = 9 ∨ ix = 10 ∨ ix = 11 ∨ ix = 12 ∨ ix = 13 := by omega
        have hh := hI.held
        clear hi
        rcases hcase with rfl | rfl | rfl | rfl | rfl | rfl | rfl | rfl | rfl | rfl | rfl | rfl | rfl | rfl
        · simp only [List.getElem?_toArray, List.getElem?_cons_zero, Option.some.injEq] at ho
          subst ho
          refine ⟨rfl, ?_⟩
          have e7 : A_.tmps[7]?.getD undef = .pointer (some ⟨g7, 0, none⟩) := by rw [hI.low 7 (by decide)]; rfl
          clear hI hdep
          obtain ⟨⟨b0, b1⟩, b2, b3⟩ := HF.out w3 (HB0.out.trans (hh.mono HB0.out.size))
          exact .run rfl (.agg #[.slice E0 e0.length c0, .slice A0 l0.length d0]) w3 (by simp [execOp, go_sem, Act.eval, *]) (Below.refl _ _) rfl
        · simp only [List.getElem?_toArray, List.getElem?_cons_succ, List.getElem?_cons_zero, Option.some.injEq] at ho
          subst ho
          refine ⟨rfl, ?_⟩
          have e8 : A_.tmps[8]?.getD undef = .pointer (some ⟨g8, 0, none⟩) := by rw [hI.low 8 (by decide)]; rfl
          clear hI hdep
          obtain ⟨⟨b0, b1⟩, b2, b3⟩ := HF.out w3 (HB0.out.trans (hh.mono HB0.out.size))
          exact .run rfl (.agg #[.slice E1 e0.length c1, .slice A1 l0.length d1]) w3 (by simp [execOp, go_sem, Act.eval, *]) (Below.refl _ _) rfl
        · simp only [List.getElem?_toArray, List.getElem?_cons_succ, List.getElem?_cons_zero, Option.some.injEq] at ho
          subst ho
          refine ⟨rfl, ?_⟩
          have e70 : A_.tmps[70]?.getD undef = .agg #[.slice E0 e0.length c0, .slice A0 l0.length d0] := getD_of (hI.val_ (i := 0) rfl rfl (by decide) (hdep ⟨0, .data⟩ (by simp) rfl))
          have e71 : A_.tmps[71]?.getD undef = .agg #[.slice E1 e0.length c1, .slice A1 l0.length d1] := getD_of (hI.val_ (i := 1) rfl rfl (by decide) (hdep ⟨1, .data⟩ (by simp) rfl))
          clear hI hdep
          exact .call rfl 16 #[.agg #[.slice E0 e0.length c0, .slice A0 l0.length d0], .agg #[.slice E1 e0.length c1, .slice A1 l0.length d1]] (by simp [go_sem, Act.eval, e70, e71]) ((same_good w3 (HI0.out w3 (HB0.out.trans (hh.mono HB0.out.size))) (HI1.out w3 (HB0.out.trans (hh.mono HB0.out.size)))).mono fun _ _ ⟨h1_, h2_⟩ => ⟨⟨_, h1_, rfl⟩, h2_⟩)
        · simp only [List.getElem?_toArray, List.getElem?_cons_succ, List.getElem?_cons_zero, Option.some.injEq] at ho
          subst ho
          refine ⟨rfl, ?_⟩
          have e72 : A_.tmps[72]?.getD undef = .bool true := getD_of (hI.val_ (i := 2) rfl rfl (by decide) (hdep ⟨2, .data⟩ (by simp) rfl))
          clear hI hdep
          exact .run rfl (.bool true) w3 (by simp [execOp, go_sem, Act.eval, e72]) (Below.refl _ _) rfl
        · simp only [List.getElem?_toArray, List.getElem?_cons_succ, List.getElem?_cons_zero, Option.some.injEq] at ho
          subst ho
          refine ⟨rfl, ?_⟩
          have q73 : A_.tmps[73]? = some (.bool true) := hI.val_ (i := 3) rfl rfl (by decide) (hdep ⟨3, .guard⟩ (by simp) rfl)
          have e7 : A_.tmps[7]?.getD undef = .pointer (some ⟨g7, 0, none⟩) := by rw [hI.low 7 (by decide)]; rfl
          clear hI hdep
          obtain ⟨⟨b0, b1⟩, b2, b3⟩ := HF.out w3 (HB0.out.trans (hh.mono HB0.out.size))
          exact .run ((wanted_some rfl rfl q73).trans rfl) (.agg #[.slice E0 e0.length c0, .slice A0 l0.length d0]) w3 (by simp [execOp, go_sem, Act.eval, *]) (Below.refl _ _) rfl
        · simp only [List.getElem?_toArray, List.getElem?_cons_succ, List.getElem?_cons_zero, Option.some.injEq] at ho
          subst ho
          refine ⟨rfl, ?_⟩
          have q73 : A_.tmps[73]? = some (.bool true) := hI.val_ (i := 3) rfl rfl (by decide) (hdep ⟨3, .guard⟩ (by simp) rfl)
          have e74 : A_.tmps[74]?.getD undef = .agg #[.slice E0 e0.length c0, .slice A0 l0.length d0] := getD_of (hI.val_ (i := 4) rfl rfl (by decide) (hdep ⟨4, .data⟩ (by simp) rfl))
          clear hI hdep
          exact .call ((wanted_some rfl rfl q73).trans rfl) 33 #[.agg #[.slice E0 e0.length c0, .slice A0 l0.length d0]] (by simp [go_sem, Act.eval, e74]) (encode_good w3 (HI0.out w3 (HB0.out.trans (hh.mono HB0.out.size))) hf0 hf1 F0.out.2.2.1 F0.out.2.2.2 HNE.out.1)
        · simp only [List.getElem?_toArray, List.getElem?_cons_succ, List.getElem?_cons_zero, Option.some.injEq] at ho
          subst ho
          refine ⟨rfl, ?_⟩
          have q73 : A_.tmps[73]? = some (.bool true) := hI.val_ (i := 3) rfl rfl (by decide) (hdep ⟨3, .guard⟩ (by simp) rfl)
          have e8 : A_.tmps[8]?.getD undef = .pointer (some ⟨g8, 0, none⟩) := by rw [hI.low 8 (by decide)]; rfl
          clear hI hdep
          obtain ⟨⟨b0, b1⟩, b2, b3⟩ := HF.out w3 (HB0.out.trans (hh.mono HB0.out.size))
          exact .run ((wanted_some rfl rfl q73).trans rfl) (.agg #[.slice E1 e0.length c1, .slice A1 l0.length d1]) w3 (by simp [execOp, go_sem, Act.eval, *]) (Below.refl _ _) rfl
        · simp only [List.getElem?_toArray, List.getElem?_cons_succ, List.getElem?_cons_zero, Option.some.injEq] at ho
          subst ho
          refine ⟨rfl, ?_⟩
          have q73 : A_.tmps[73]? = some (.bool true) := hI.val_ (i := 3) rfl rfl (by decide) (hdep ⟨3, .guard⟩ (by simp) rfl)
          have e76 : A_.tmps[76]?.getD undef = .agg #[.slice E1 e0.length c1, .slice A1 l0.length d1] := getD_of (hI.val_ (i := 6) rfl rfl (by decide) (hdep ⟨6, .data⟩ (by simp) rfl))
          clear hI hdep
          exact .call ((wanted_some rfl rfl q73).trans rfl) 34 #[.agg #[.slice E1 e0.length c1, .slice A1 l0.length d1]] (by simp [go_sem, Act.eval, e76]) (refEncode_goodT w3 (HI1.out w3 (HB0.out.trans (hh.mono HB0.out.size))) hf0 hf1 F0.out.2.2.1 F0.out.2.2.2 HNE.out.1)
        · simp only [List.getElem?_toArray, List.getElem?_cons_succ, List.getElem?_cons_zero, Option.some.injEq] at ho
          subst ho
          refine ⟨rfl, ?_⟩
          have q73 : A_.tmps[73]? = some (.bool true) := hI.val_ (i := 3) rfl rfl (by decide) (hdep ⟨3, .guard⟩ (by simp) rfl)
          obtain ⟨_, e75, B75, n75_, c75, rfl, h75⟩ := hI.get_ (i := 5) (j := 75) rfl rfl (by decide) (hdep ⟨5, .data⟩ (by simp) rfl)
          obtain ⟨_, e77, B77, n77_, c77, rfl, h77⟩ := hI.get_ (i := 7) (j := 77) rfl rfl (by decide) (hdep ⟨7, .data⟩ (by simp) rfl)
          clear hI hdep
          exact .call ((wanted_some rfl rfl q73).trans rfl) 32 #[.slice B75 n75_ c75, .slice B77 n77_ c77] (by simp [go_sem, Act.eval, e75, e77]) ((bytes_good w3 h75 h77 HLE.out).mono fun _ _ ⟨h1_, h2_⟩ => ⟨⟨_, h1_, rfl⟩, h2_⟩)
        · simp only [List.getElem?_toArray, List.getElem?_cons_succ, List.getElem?_cons_zero, Option.some.injEq] at ho
          subst ho
          refine ⟨rfl, ?_⟩
          have e73 : A_.tmps[73]?.getD undef = .bool true := getD_of (hI.val_ (i := 3) rfl rfl (by decide) (hdep ⟨3, .data⟩ (by simp) rfl))
          have e78 : A_.tmps[78]?.getD undef = .bool true := getD_of (hI.val_ (i := 8) rfl rfl (by decide) (hdep ⟨8, .data⟩ (by simp) rfl))
          clear hI hdep
          exact .run rfl (.bool true) w3 (by simp [execOp, go_sem, Act.eval, e73, e78]) (Below.refl _ _) rfl
        · simp only [List.getElem?_toArray, List.getElem?_cons_succ, List.getElem?_cons_zero, Option.some.injEq] at ho
          subst ho
          refine ⟨rfl, ?_⟩
          have e79 : A_.tmps[79]?.getD undef = .bool true := getD_of (hI.val_ (i := 9) rfl rfl (by decide) (hdep ⟨9, .data⟩ (by simp) rfl))
          clear hI hdep
          exact .run rfl (.bool true) w3 (by simp [execOp, go_sem, Act.eval, e79]) (Below.refl _ _) rfl
        · simp only [List.getElem?_toArray, List.getElem?_cons_succ, List.getElem?_cons_zero, Option.some.injEq] at ho
          subst ho
          refine ⟨rfl, ?_⟩
          have q80 : A_.tmps[80]? = some (.bool true) := hI.val_ (i := 10) rfl rfl (by decide) (hdep ⟨10, .guard⟩ (by simp) rfl)
          clear hI hdep
          exact .call ((wanted_some rfl rfl q80).trans rfl) 24 #[] (by simp [go_sem]) ((lives_any w3).mono fun _ _ ⟨h1_, h2_⟩ => ⟨⟨_, h1_, rfl⟩, h2_⟩)
        · simp only [List.getElem?_toArray, List.getElem?_cons_succ, List.getElem?_cons_zero, Option.some.injEq] at ho
          subst ho
          refine ⟨rfl, ?_⟩
          have e80 : A_.tmps[80]?.getD undef = .bool true := getD_of (hI.val_ (i := 10) rfl rfl (by decide) (hdep ⟨10, .data⟩ (by simp) rfl))
          have e81 : A_.tmps[81]?.getD undef = .bool true := getD_of (hI.val_ (i := 11) rfl rfl (by decide) (hdep ⟨11, .data⟩ (by simp) rfl))
          clear hI hdep
          exact .run rfl (.bool true) w3 (by simp [execOp, go_sem, Act.eval, e80, e81]) (Below.refl _ _) rfl
        · simp only [List.getElem?_toArray, List.getElem?_cons_succ, List.getElem?_cons_zero, Option.some.injEq] at ho
          subst ho
          refine ⟨rfl, ?_⟩
          have e82 : A_.tmps[82]?.getD undef = .bool true := getD_of (hI.val_ (i := 12) rfl rfl (by decide) (hdep ⟨12, .data⟩ (by simp) rfl))
          clear hI hdep
          exact .run rfl (.bool true) w3 (by simp [execOp, go_sem, Act.eval, e82]) (Below.refl _ _) rfl
      case fin =>
      intro A_ w3 hs hd hlow hS hok
      obtain ⟨_, hy75, B75, n75_, c75, rfl, h75⟩ := hok 5 75 _ (by decide) rfl rfl
      obtain ⟨_, hy77, B77, n77_, c77, rfl, h77⟩ := hok 7 77 _ (by decide) rfl rfl
      obtain rfl : A_ = ⟨#[.slice a0 len0 cap0, .slice a1 len1 cap1, .int .i64 a2, undef, undef, undef, .bool true, .pointer (some ⟨g7, 0, none⟩), .pointer (some ⟨g8, 0, none⟩), .slice (some ⟨g9, 0, none⟩) 3 3, .int .i64 (i : Int), u11, u12, .slice a0 len0 cap0, .slice a1 len1 cap1, .agg #[.slice E0 e0.length c0, .slice A0 l0.length d0], .slice a0 len0 cap0, .slice a1 len1 cap1, .agg #[.slice E1 e0.length c1, .slice A1 l0.length d1], .agg #[.slice E0 e0.length c0, .slice A0 l0.length d0], .agg #[.slice E20 e0.length c20, .slice A20 n0.length d20], .agg #[.slice E0 e0.length c0, .slice A0 l0.length d0], .int .i64 a2, .agg #[.int .i64 p.c, .int .i64 p.h, .int .i64 p.t, .int .i64 p.k, .int .i64 p.i], .agg #[.slice E24 e0.length c24, .slice A24 x0.length d24], .agg #[.slice E0 e0.length c0, .slice A0 l0.length d0], .int .i64 a2, .slice (some ⟨g27, 0, none⟩) 1 1, .agg #[.slice E28 s0.length c28, .slice A28 y0.length d28], .slice (some ⟨g29, 0, none⟩) 3 3, .int .i64 (i : Int), .bool false, u32, u33, u34, u35, u36, u37, u38, u39, u40, u41, u42, u43, u44, u45, u46, u47, u48, u49, u50, u51, u52, u53, u54, u55, u56, u57, u58, u59, u60, u61, u62, u63, u64, u65, u66, u67, u68, u69, .agg #[.slice E0 e0.length c0, .slice A0 l0.length d0], .agg #[.slice E1 e0.length c1, .slice A1 l0.length d1], .bool true, .bool true, .agg #[.slice E0 e0.length c0, .slice A0 l0.length d0], .slice B75 n75_ c75, .agg #[.slice E1 e0.length c1, .slice A1 l0.length d1], .slice B77 n77_ c77, .bool true, .bool true, .bool true, .bool true, .bool true], []⟩ := act_ext hd hs (fun j hj => match j, hj with | 0, _ => (hlow 0 (by decide)).trans rfl | 1, _ => (hlow 1 (by decide)).trans rfl | 2, _ => (hlow 2 (by decide)).trans rfl | 3, _ => (hlow 3 (by decide)).trans rfl | 4, _ => (hlow 4 (by decide)).trans rfl | 5, _ => (hlow 5 (by decide)).trans rfl | 6, _ => RgX.val_at (hok 13 6 _ (by decide) rfl rfl) | 7, _ => (hlow 7 (by decide)).trans rfl | 8, _ => (hlow 8 (by decide)).trans rfl | 9, _ => (hlow 9 (by decide)).trans rfl | 10, _ => (hlow 10 (by decide)).trans rfl | 11, _ => (hlow 11 (by decide)).trans rfl | 12, _ => (hlow 12 (by decide)).trans rfl | 13, _ => (hlow 13 (by decide)).trans rfl | 14, _ => (hlow 14 (by decide)).trans rfl | 15, _ => (hlow 15 (by decide)).trans rfl | 16, _ => (hlow 16 (by decide)).trans rfl | 17, _ => (hlow 17 (by decide)).trans rfl | 18, _ => (hlow 18 (by decide)).trans rfl | 19, _ => (hlow 19 (by decide)).trans rfl | 20, _ => (hlow 20 (by decide)).trans rfl | 21, _ => (hlow 21 (by decide)).trans rfl | 22, _ => (hlow 22 (by decide)).trans rfl | 23, _ => (hlow 23 (by decide)).trans rfl | 24, _ => (hlow 24 (by decide)).trans rfl | 25, _ => (hlow 25 (by decide)).trans rfl | 26, _ => (hlow 26 (by decide)).trans rfl | 27, _ => (hlow 27 (by decide)).trans rfl | 28, _ => (hlow 28 (by decide)).trans rfl | 29, _ => (hlow 29 (by decide)).trans rfl | 30, _ => (hlow 30 (by decide)).trans rfl | 31, _ => (hlow 31 (by decide)).trans rfl | 32, _ => (hlow 32 (by decide)).trans rfl | 33, _ => (hlow 33 (by decide)).trans rfl | 34, _ => (hlow 34 (by decide)).trans rfl | 35, _ => (hlow 35 (by decide)).trans rfl | 36, _ => (hlow 36 (by decide)).trans rfl | 37, _ => (hlow 37 (by decide)).trans rfl | 38, _ => (hlow 38 (by decide)).trans rfl | 39, _ => (hlow 39 (by decide)).trans rfl | 40, _ => (hlow 40 (by decide)).trans rfl | 41, _ => (hlow 41 (by decide)).trans rfl | 42, _ => (hlow 42 (by decide)).trans rfl | 43, _ => (hlow 43 (by decide)).trans rfl | 44, _ => (hlow 44 (by decide)).trans rfl | 45, _ => (hlow 45 (by decide)).trans rfl | 46, _ => (hlow 46 (by decide)).trans rfl | 47, _ => (hlow 47 (by decide)).trans rfl | 48, _ => (hlow 48 (by decide)).trans rfl | 49, _ => (hlow 49 (by decide)).trans rfl | 50, _ => (hlow 50 (by decide)).trans rfl | 51, _ => (hlow 51 (by decide)).trans rfl | 52, _ => (hlow 52 (by decide)).trans rfl | 53, _ => (hlow 53 (by decide)).trans rfl | 54, _ => (hlow 54 (by decide)).trans rfl | 55, _ => (hlow 55 (by decide)).trans rfl | 56, _ => (hlow 56 (by decide)).trans rfl | 57, _ => (hlow 57 (by decide)).trans rfl | 58, _ => (hlow 58 (by decide)).trans rfl | 59, _ => (hlow 59 (by decide)).trans rfl | 60, _ => (hlow 60 (by decide)).trans rfl | 61, _ => (hlow 61 (by decide)).trans rfl | 62, _ => (hlow 62 (by decide)).trans rfl | 63, _ => (hlow 63 (by decide)).trans rfl | 64, _ => (hlow 64 (by decide)).trans rfl | 65, _ => (hlow 65 (by decide)).trans rfl | 66, _ => (hlow 66 (by decide)).trans rfl | 67, _ => (hlow 67 (by decide)).trans rfl | 68, _ => (hlow 68 (by decide)).trans rfl | 69, _ => (hlow 69 (by decide)).trans rfl | 70, _ => RgX.val_at (hok 0 70 _ (by decide) rfl rfl) | 71, _ => RgX.val_at (hok 1 71 _ (by decide) rfl rfl) | 72, _ => RgX.val_at (hok 2 72 _ (by decide) rfl rfl) | 73, _ => RgX.val_at (hok 3 73 _ (by decide) rfl rfl) | 74, _ => RgX.val_at (hok 4 74 _ (by decide) rfl rfl) | 75, _ => hy75 | 76, _ => RgX.val_at (hok 6 76 _ (by decide) rfl rfl) | 77, _ => hy77 | 78, _ => RgX.val_at (hok 8 78 _ (by decide) rfl rfl) | 79, _ => RgX.val_at (hok 9 79 _ (by decide) rfl rfl) | 80, _ => RgX.val_at (hok 10 80 _ (by decide) rfl rfl) | 81, _ => RgX.val_at (hok 11 81 _ (by decide) rfl rfl) | 82, _ => RgX.val_at (hok 12 82 _ (by decide) rfl rfl) | n + 83, h => absurd h (by show ¬ n + 83 < 83; omega))
      clear hs hd hlow hok hy75 hy77
      have HE := Lib.hid (HB2.out.trans ((HB0.out.trans (hS.mono HB0.out.size)).mono HB2.out.size))
      go_wp2_with fail
      go_ret
      exact ⟨rfl, HE.out⟩
end Go.Proofs.Ytiokiecnglmbnaa.LawTapeOwn

namespace Go.Proofs.Ytiokiecnglmbnaa.tapeOwn
open Go.ChangeShapes Go.WideShapes Go.ChangeAt Go.RowKit
open Go.ChangeMaps (open_string shut_string)
set_option linter.unusedVariables false

theorem own : ownKnob Try.prog.godebug = none := by kernel_rfl
theorem laidOut : laidOutB Try.prog = true := by kernel_rfl

/-- WHAT THE WALK IS TOLD OF A SLICE OF INTEGERS THAT CAME IN: it is nil; or it leads to a row of 'cap' cells, the numbers 'zs' (the first 'len' are its elements, the rest its spare room), each fitting its kind. -/
def IsRow (k : IntKind) (w : World) (a : Option Addr) (len cap : Nat) (zs : List Int) : Prop :=
  (a = none ∧ len = 0 ∧ cap = 0 ∧ zs = []) ∨
  ∃ x, a = some x ∧ len ≤ cap ∧ cap ≤ maxLen ∧ zs.length = cap ∧ (∀ i, i < zs.length → w.cell? (x.add i) = some (.int k (zs.getD i 0))) ∧ ∀ n ∈ zs, (Lit.int k n).wf = true

/-! ### STEP 1: THE WALK: the Go text returns true, AND WRITES NOTHING THAT WAS THERE: 'Below w.heap.size w w'' (Derived/Below.lean: '.refl', '.alloc', '.drew', '.setCell' at a new block, '.trans'). Open each 'IsRow' by 'rcases' AHEAD of 'go_enter'; part every test ahead of the walk. -/
theorem walk (a0 : Option Addr) (len0 cap0 : Nat) (z0 : List Int) (a1 : Option Addr) (len1 cap1 : Nat) (z1 : List Int) (a2 : Int) (w : World) (w0 : IsRow .i64 w a0 len0 cap0 z0) (w1 : IsRow .i64 w a1 len1 cap1 z1) (w2 : (Lit.int .i64 a2).wf = true) :
    Calls Try.prog 11 #[.slice a0 len0 cap0, .slice a1 len1 cap1, .int .i64 a2] w fun e w' => e = .returned (.bool true) ∧ Below w.heap.size w w' := by
  exact LawTapeOwn.walk a0 len0 cap0 z0 a1 len1 cap1 z1 a2 w w0 w1 w2

/-! ### THE ROW's STEP: WRITTEN OUT: LEAVE IT -/
set_option maxRecDepth 100000 in
theorem lifted (os : Os) (started : os.Started) (H : Type) (enc : TypeId × Value → H) :
    ReturnsInHanded {} Try.checked os 11 .any (Rows.tapeOwnSpec.pre6 enc Try.prog Try.f11 Rows.tapeOwnRow.domain false) (Rows.tapeOwnSpec.post enc Try.prog Try.f11 false true false false) := by
  refine returnsInHanded_of_change (C := Try.checked) own started (by kernel_rfl) Try.func11
    (ChangeSpec.witness6 (enc := enc) (C := Try.checked) false ⟨#[], #[.slice none 0 0, .slice none 0 0, .int .i64 0], []⟩ 8 (by kernel_rfl) (by kernel_rfl) (by kernel_rfl) (by kernel_rfl)) ?_
  intro W base args ds gs before hval0 hW hcnd _
  have hval : ∀ (j : Nat) t v, Try.f11.params[j]? = some t → args[j]? = some v → Value.okWide Try.prog W .any base t v := hval0
  have hW' := hW
  obtain ⟨p, q, hA0, hV, rfl, hfz, hnd⟩ := hW
  have hA : DataW.TrodAll enc Try.prog W 0 (fun _ => true) true Try.f11.params.toList args.toList ds p := hA0
  rw [Try.params11] at hA hval
  obtain ⟨v0, vs0, d0, ds0, p0, q0, hargs, rfl, rfl, h0, r0⟩ := trodAll_cons hA
  obtain ⟨v1, vs1, d1, ds1, p1, q1, rfl, rfl, rfl, h1, r1⟩ := trodAll_cons r0
  obtain ⟨v2, vs2, d2, ds2, p2, q2, rfl, rfl, rfl, h2, r2⟩ := trodAll_cons r1
  obtain ⟨rfl, rfl, rfl⟩ := trodAll_nil r2
  obtain rfl : args = #[v0, v1, v2] := by cases args; simp_all
  obtain ⟨rfl, rfl⟩ := trodVars_none hV
  obtain ⟨a0, len0, cap0, rfl⟩ := okWide_slice Try.underlying22 (hval 0 22 v0 rfl rfl)
  have k0 := h0
  have lt0 : ∀ x ∈ p0, x.block < W.heap.size := by obtain ⟨m, hm⟩ := k0; exact DataW.trod_lt m _ _ _ hm
  obtain ⟨z0, w0⟩ : ∃ zs, IsRow .i64 W a0 len0 cap0 zs := by
    obtain ⟨fuel, hf⟩ := h0
    rcases open_ints Try.underlying22 Try.underlying3 (by kernel_rfl) hf with ⟨hcs, _⟩ | ⟨x, l, c, zs, hcs, _, hl, hm, hz, _, hcell, hwz⟩
    · simp [Value.cells] at hcs
      obtain ⟨rfl, rfl, rfl⟩ := hcs
      exact ⟨[], .inl ⟨rfl, rfl, rfl, rfl⟩⟩
    · simp [Value.cells] at hcs
      obtain ⟨rfl, rfl, rfl⟩ := hcs
      exact ⟨zs, .inr ⟨_, rfl, hl, hm, by simpa using hz, hcell, hwz⟩⟩
  obtain ⟨a1, len1, cap1, rfl⟩ := okWide_slice Try.underlying22 (hval 1 22 v1 rfl rfl)
  have k1 := h1
  have lt1 : ∀ x ∈ p1, x.block < W.heap.size := by obtain ⟨m, hm⟩ := k1; exact DataW.trod_lt m _ _ _ hm
  obtain ⟨z1, w1⟩ : ∃ zs, IsRow .i64 W a1 len1 cap1 zs := by
    obtain ⟨fuel, hf⟩ := h1
    rcases open_ints Try.underlying22 Try.underlying3 (by kernel_rfl) hf with ⟨hcs, _⟩ | ⟨x, l, c, zs, hcs, _, hl, hm, hz, _, hcell, hwz⟩
    · simp [Value.cells] at hcs
      obtain ⟨rfl, rfl, rfl⟩ := hcs
      exact ⟨[], .inl ⟨rfl, rfl, rfl, rfl⟩⟩
    · simp [Value.cells] at hcs
      obtain ⟨rfl, rfl, rfl⟩ := hcs
      exact ⟨zs, .inr ⟨_, rfl, hl, hm, by simpa using hz, hcell, hwz⟩⟩
  obtain ⟨a2, rfl, rfl, rfl, w2⟩ := open_int Try.underlying3 (hval 2 3 v2 rfl rfl) h2
  clear hA0 hval0
  refine (walk a0 len0 cap0 z0 a1 len1 cap1 z1 a2 W w0 w1 w2).mono fun e W' ⟨he, bel⟩ => ?_
  subst he
  exact ⟨_, rfl, _, _, _, [], _, [], hW', trodAll_mk1 (shut_bool Try.underlying4 _), (trodAll_cons_mk (Below.trod laidOut (by kernel_rfl) (of_decide_eq_true (by kernel_rfl)) k0 bel lt0) (trodAll_cons_mk (Below.trod laidOut (by kernel_rfl) (of_decide_eq_true (by kernel_rfl)) k1 bel lt1) (trodAll_cons_mk (shut_int Try.underlying3 w2) trodAll_mk0))), rfl, bel.frame _, fun h => by cases h⟩

theorem over : Rows.tapeOwnRow.holds Try.pinned (OpenSpec.ofChange Rows.tapeOwnSpec) :=
  OpenClaim.holds_of_wide 11 Try.f11 rfl rfl rfl rfl rfl rfl rfl ⟨rfl, rfl, rfl, rfl, rfl⟩ rfl rfl rfl rfl rfl (by kernel_rfl) Try.func11 (by kernel_rfl)
    (of_decide_eq_true (by kernel_rfl)) (by unfold Func.isWrapper; first | (rw [if_pos (by decide +kernel)]; kernel_rfl) | (rw [if_neg (by decide +kernel)]; exact ⟨rfl, rfl⟩))
    (fun os started H enc _ => lifted os started H enc)

/-- ████ THE STATEMENT ████ -/
theorem proved : Rows.TapeOwnSaid := over
end Go.Proofs.Ytiokiecnglmbnaa.tapeOwn
