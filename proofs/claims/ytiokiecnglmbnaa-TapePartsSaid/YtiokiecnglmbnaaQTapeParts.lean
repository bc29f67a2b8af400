/-
  The walk of the law TapeParts. No condition beyond the arguments' readings.
  The statement TapeParts: for every input the law answers true and leaves its arguments as they were. No condition is added. The frame of this proof was written by the guide's program, the walk is the text LawTapeParts's.
-/
import Derived.Test.YtiokiecnglmbnaaK48
import Derived.Test.YtiokiecnglmbnaaK45
import Derived.Test.YtiokiecnglmbnaaK49
import Derived.Test.YtiokiecnglmbnaaK24
import Derived.Test.YtiokiecnglmbnaaK15
import Derived.Test.YtiokiecnglmbnaaRows
import Derived.WalkKit
import Derived.ProofKit
import Derived.OpenShut
import Derived.ShutString
import Derived.ChangeOld
import Derived.Below

namespace Go.Proofs.Ytiokiecnglmbnaa.LawTapeParts
open Go Go.RowKit Go.Proofs Go.Proofs.Ytiokiecnglmbnaa
attribute [local go_sem] Oper.semAt_some

theorem tape_form {W : World} {L : Nat} {F : FuncId} {args : Array Value} {s s0 : List NM.Ev} {y y0 : List TP.An} (hs : s = s0) (hy : y = y0) (hL : L ≤ W.heap.size) (h : Calls Try.prog F args W fun e w' => (∃ v, e = .returned v ∧ TapeN W.heap.size w' v s y) ∧ Below W.heap.size W w') :
    Calls Try.prog F args W fun e w' => (∃ v, e = .returned v ∧ (RgX.Sp.tape L s0 y0 s0.length y0.length).p w' v) ∧ Below W.heap.size W w' := by
  subst hs hy
  exact RgX.tape_calls_lo hL rfl rfl h
set_option maxHeartbeats 16000000 in
set_option maxRecDepth 100000 in
theorem walk (a0 : Option Addr) (len0 cap0 : Nat) (z0 : List Int) (a1 : Option Addr) (len1 cap1 : Nat) (z1 : List Int) (a2 : Option Addr) (len2 cap2 : Nat) (z2 : List Int) (w : World) (w0 : Row .i64 w a0 len0 cap0 z0) (w1 : Row .i64 w a1 len1 cap1 z1) (w2 : Row .i64 w a2 len2 cap2 z2) :
    Calls Try.prog 5 #[.slice a0 len0 cap0, .slice a1 len1 cap1, .slice a2 len2 cap2] w fun e w' => e = .returned (.bool true) ∧ Below w.heap.size w w' := by
  have i0 := w0.ints.1
  have j0 := i64_of w0.ints.2.2.2
  have i1 := w1.ints.1
  have j1 := i64_of w1.ints.2.2.2
  have j2 := i64_of w2.ints.2.2.2
  have s2 := w2.slc
  obtain ⟨fw, hfw⟩ : ∃ x, (z2.take len2).take (20 : Int).toNat = x := ⟨_, rfl⟩
  have f64 : ∀ x ∈ fw, I64 x := fun x hx => j2 x (List.mem_of_mem_take (by rw [hfw]; exact hx))
  have hfl : fw.length ≤ 20 := by rw [← hfw]; exact List.length_take_le _ _
  have HT := Lib.hid (fun (V : World) (hV : Below w.heap.size w V) => RgX.tape_calls_lo hV.size rfl rfl (refTape_any (cap0 := cap0) (cap1 := cap1) V ((i0.below hV).more hV.size) j0 ((i1.below hV).more hV.size) j1))
  have HIN := Lib.hid (fun (V : World) (hV : Below w.heap.size w V) => ints_any a2 len2 cap2 _ 20 (by decide) (by decide) V (s2.below hV))
  rw [hfw] at HIN
  have F0 := Lib.hid (show (TP.evsG (z0.take len0)).length ≤ 10 ∧ (TP.ansG (z1.take len1)).length ≤ 10 from ⟨by unfold TP.evsG; rw [List.length_map]; exact Nat.le_trans (List.length_take_le _ _) (by decide), by unfold TP.ansG; rw [List.length_map]; exact List.length_take_le _ _⟩)
  obtain ⟨e0, he0⟩ : ∃ x, TP.evsG (z0.take len0) = x := ⟨_, rfl⟩
  obtain ⟨l0, hl0⟩ : ∃ x, TP.ansG (z1.take len1) = x := ⟨_, rfl⟩
  rw [he0, hl0] at HT F0
  obtain ⟨n0, hn0⟩ : ∃ x, TP.normA l0 = x := ⟨_, rfl⟩
  obtain ⟨s0, hs0⟩ : ∃ x, TP.sub fw 0 e0 = x := ⟨_, rfl⟩
  obtain ⟨y0, hy0⟩ : ∃ x, TP.sub fw e0.length n0 = x := ⟨_, rfl⟩
  have hnl : n0.length ≤ 10 := by have := TP.norm_len l0; have := F0.out.2; rw [hn0] at *; omega
  have hsl : s0.length ≤ 10 := by have := TP.sub_len fw 0 e0; have := F0.out.1; rw [hs0] at *; omega
  have hyl : y0.length ≤ 10 := by have := TP.sub_len fw e0.length n0; rw [hy0] at *; omega
  have HNE := Lib.hid (And.intro hn0 (And.intro hs0 hy0))
  have HNN := Lib.hid (show TP.normA n0 = n0 from by rw [← hn0, TP.norm_norm])
  have hf0 := F0.out.1
  have hf1 := F0.out.2
  have HF6 := Lib.hid f64
  clear w0 w1 w2 i0 j0 i1 j1 j2 s2 hfw he0 hl0 hn0 hs0 hy0 f64
  go_enter Try.func5, Try.ntmps5
  go_upto_region 2 with (go_at_call 12; refine (HT.out w (Below.refl _ _)).mono ?_; rintro e v1 ⟨⟨v, rfl, E0, c0, A0, d0, rfl, hT⟩, hb⟩; have HT0 := Lib.hid hT; have HV := Lib.hid hb; clear hT hb)
  obtain ⟨U1, hU⟩ : ∃ U, v1.alloc (.cells #[.slice E0 e0.length c0, .slice A0 l0.length d0] 26) = U := ⟨_, rfl⟩
  rw [hU]
  obtain ⟨g7, hg_⟩ : ∃ g, g = v1.heap.size := ⟨_, rfl⟩
  rw [← hg_]
  have k7 : U1.heap[g7]? = some (.cells #[.slice E0 e0.length c0, .slice A0 l0.length d0] 26 (0, 0)) := by rw [hg_, ← hU]; exact new_at rfl
  have hb : Below v1.heap.size v1 U1 := hU ▸ one_box _ _
  have K7 := Lib.hid k7
  replace HT0 := Lib.hid (HT0.out.keep hb)
  have HV1 := Lib.hid (HV.out.trans (hb.mono HV.out.size))
  clear hb hU hg_ k7 HT HV
  go_upto_region 3 with (go_at_call 26; refine (HIN.out U1 HV1.out).mono ?_; rintro e v2 ⟨F8, n8, c8, rfl, hn8, _, ho8, hb⟩; have HO := Lib.hid ho8; have HV2 := Lib.hid hb; clear ho8 hb)
  have h12 := HV2.out
  have HT1 := Lib.hid (HT0.out.keep h12)
  have hK := (h12.block g7 (heap_lt K7.out)).trans K7.out
  replace K7 := Lib.hid hK
  obtain ⟨⟨b0, b1⟩, _, _⟩ := row2 hK
  have HW := Lib.hid (own_ints HO.out)
  have HV3 := Lib.hid (HV1.out.trans (h12.mono HV1.out.size))
  clear h12 hK HT0 HV1 HV2 HIN HO
  have hrw := refWithout_any (ca := d0) (ce := c0) (cap2 := c8) v2 (HT1.out.tin (by omega) (by omega)) HW.out (by omega) (by omega) (by omega)
  rw [HNE.out.1, HNE.out.2.1, HNE.out.2.2] at hrw
  have HRW := Lib.hid (RgX.tape_calls_lo (Nat.le_refl _) rfl rfl hrw)
  clear hrw
  go_upto_region 4 with (go_at_call 29; refine HRW.out.mono ?_; clear HRW; rintro e v3 ⟨⟨v, rfl, E1, c1, A1, d1, rfl, hT⟩, hb⟩; have HT2 := Lib.hid hT; have HV4 := Lib.hid hb; clear hT hb)
  clear b0 b1
  obtain ⟨U3, hU⟩ : ∃ U, v3.alloc (.cells #[.slice E1 s0.length c1, .slice A1 y0.length d1] 26) = U := ⟨_, rfl⟩
  rw [hU]
  obtain ⟨g9, hg_⟩ : ∃ g, g = v3.heap.size := ⟨_, rfl⟩
  rw [← hg_]
  have k9 : U3.heap[g9]? = some (.cells #[.slice E1 s0.length c1, .slice A1 y0.length d1] 26 (0, 0)) := by rw [hg_, ← hU]; exact new_at rfl
  have hb : Below v3.heap.size v3 U3 := hU ▸ one_box _ _
  have h23 := HV4.out.trans (hb.mono HV4.out.size)
  have k7 := (h23.block g7 (heap_lt K7.out)).trans K7.out
  have t0 := HT1.out.keep h23
  have t1 := HT2.out.keep hb
  have hw := (HW.out.below h23).more h23.size
  have HF := Lib.hid (fun (V : World) (hV : Below U3.heap.size U3 V) => And.intro (row2C ((hV.block g7 (heap_lt k7)).trans k7)) (row2C ((hV.block g9 (heap_lt k9)).trans k9)))
  have HI0 := Lib.hid (fun (V : World) (hV : Below U3.heap.size U3 V) => TapeIs.tin (t0.keep hV) (by omega) (by omega))
  have HI1 := Lib.hid (fun (V : World) (hV : Below U3.heap.size U3 V) => TapeIs.tin (t1.keep hV) (by omega) (by omega))
  have HI8 := Lib.hid (fun (V : World) (hV : Below U3.heap.size U3 V) => (hw.below hV).more hV.size)
  have HTT := Lib.hid t0
  have HWO := Lib.hid (fun (V : World) (hV : Below U3.heap.size U3 V) => show Calls Try.prog 30 #[.agg #[.slice E0 e0.length c0, .slice A0 l0.length d0], .slice F8 n8 c8] V fun e w' => (∃ v, e = .returned v ∧ (RgX.Sp.tape U3.heap.size s0 y0 s0.length y0.length).p w' v) ∧ Below V.heap.size V w' from by
    have h := without_any (ca := d0) (ce := c0) (cap2 := c8) V (HI0.out V hV) (HI8.out V hV) HF6.out (by omega)
    rw [HNE.out.1, HNE.out.2.1, HNE.out.2.2] at h
    exact RgX.tape_calls_lo hV.size rfl rfl h)
  have HB3 := Lib.hid (HV3.out.trans (h23.mono HV3.out.size))
  have hg73 := heap_lt k7
  have hg93 := heap_lt k9
  clear hb hU hg_ k7 k9 h23 t0 t1 hw HT1 HT2 HV3 HV4 K7 HW
  refine RgX.regionB 6 (fun i => ( 22 + i)) (fun ix_ => match ix_ with | 0 => .v (.agg #[.slice E0 e0.length c0, .slice A0 l0.length d0]) | 1 => .v (.slice F8 n8 c8) | 2 => .tape U3.heap.size s0 y0 s0.length y0.length | 3 => .v (.agg #[.slice E1 s0.length c1, .slice A1 y0.length d1]) | 4 => .v (.bool true) | 5 => .v (.bool false) | _ => .any) (by kernel_rfl) rfl (by kernel_rfl)  (fun i hi => by show ( 22 + i) < 68; (repeat' split) <;> omega) (fun i j hi hj => by show ( 22 + i) = ( 22 + j) → i = j; (repeat' split) <;> omega) ?step ?fin
  case step =>
    intro L_ A_ w3 ix op_ hI ho hdep
    have hi : ix < 6 := (Array.getElem?_eq_some_iff.1 ho).1
    have hcase : ix = 0 ∨ ix = 1 ∨ ix = 2 ∨ ix = 3 ∨ ix = 4 ∨ ix = 5 := by omega
    have hh := hI.held
    clear hi
    rcases hcase with rfl | rfl | rfl | rfl | rfl | rfl
    · simp only [List.getElem?_toArray, List.getElem?_cons_zero, Option.some.injEq] at ho
      subst ho
      refine ⟨rfl, ?_⟩
      have e7 : A_.tmps[7]?.getD undef = .pointer (some ⟨g7, 0, none⟩) := by rw [hI.low 7 (by decide)]; rfl
      clear hI hdep
      obtain ⟨⟨x0, x1⟩, x2, x3⟩ := HF.out w3 hh
      exact .run rfl (.agg #[.slice E0 e0.length c0, .slice A0 l0.length d0]) w3 (by simp [execOp, go_sem, Act.eval, *]) (Below.refl _ _) rfl
    · simp only [List.getElem?_toArray, List.getElem?_cons_succ, List.getElem?_cons_zero, Option.some.injEq] at ho
      subst ho
      refine ⟨rfl, ?_⟩
      have e8 : A_.tmps[8]?.getD undef = .slice F8 n8 c8 := by rw [hI.low 8 (by decide)]; rfl
      clear hI hdep
      exact .run rfl (.slice F8 n8 c8) w3 (by simp [execOp, go_sem, Act.eval, e8]) (Below.refl _ _) rfl
    · simp only [List.getElem?_toArray, List.getElem?_cons_succ, List.getElem?_cons_zero, Option.some.injEq] at ho
      subst ho
      refine ⟨rfl, ?_⟩
      have e22 : A_.tmps[22]?.getD undef = .agg #[.slice E0 e0.length c0, .slice A0 l0.length d0] := getD_of (hI.val_ (i := 0) rfl rfl (by decide) (hdep ⟨0, .data⟩ (by simp) rfl))
      have e23 : A_.tmps[23]?.getD undef = .slice F8 n8 c8 := getD_of (hI.val_ (i := 1) rfl rfl (by decide) (hdep ⟨1, .data⟩ (by simp) rfl))
      clear hI hdep
      exact .call rfl 30 #[.agg #[.slice E0 e0.length c0, .slice A0 l0.length d0], .slice F8 n8 c8] (by simp [go_sem, Act.eval, e22, e23]) (HWO.out w3 hh)
    · simp only [List.getElem?_toArray, List.getElem?_cons_succ, List.getElem?_cons_zero, Option.some.injEq] at ho
      subst ho
      refine ⟨rfl, ?_⟩
      have e9 : A_.tmps[9]?.getD undef = .pointer (some ⟨g9, 0, none⟩) := by rw [hI.low 9 (by decide)]; rfl
      clear hI hdep
      obtain ⟨⟨x0, x1⟩, x2, x3⟩ := HF.out w3 hh
      exact .run rfl (.agg #[.slice E1 s0.length c1, .slice A1 y0.length d1]) w3 (by simp [execOp, go_sem, Act.eval, *]) (Below.refl _ _) rfl
    · simp only [List.getElem?_toArray, List.getElem?_cons_succ, List.getElem?_cons_zero, Option.some.injEq] at ho
      subst ho
      refine ⟨rfl, ?_⟩
      obtain ⟨_, e24, E24, c24, A24, d24, rfl, h24⟩ := hI.get_ (i := 2) (j := 24) rfl rfl (by decide) (hdep ⟨2, .data⟩ (by simp) rfl)
      have e25 : A_.tmps[25]?.getD undef = .agg #[.slice E1 s0.length c1, .slice A1 y0.length d1] := getD_of (hI.val_ (i := 3) rfl rfl (by decide) (hdep ⟨3, .data⟩ (by simp) rfl))
      clear hI hdep
      exact .call rfl 16 #[.agg #[.slice E24 s0.length c24, .slice A24 y0.length d24], .agg #[.slice E1 s0.length c1, .slice A1 y0.length d1]] (by simp [go_sem, Act.eval, e24, e25]) ((same_good w3 (TapeIs.tin h24 (by omega) (by omega)) (HI1.out w3 hh)).mono fun _ _ ⟨h1_, h2_⟩ => ⟨⟨_, h1_, rfl⟩, h2_⟩)
    · simp only [List.getElem?_toArray, List.getElem?_cons_succ, List.getElem?_cons_zero, Option.some.injEq] at ho
      subst ho
      refine ⟨rfl, ?_⟩
      have e26 : A_.tmps[26]?.getD undef = .bool true := getD_of (hI.val_ (i := 4) rfl rfl (by decide) (hdep ⟨4, .data⟩ (by simp) rfl))
      clear hI hdep
      exact .run rfl (.bool false) w3 (by simp [execOp, go_sem, Act.eval, e26]) (Below.refl _ _) rfl
  case fin =>
  intro A_ w3 hs hd hlow hS hok
  obtain ⟨_, hy24, E24, c24, A24, d24, rfl, h24⟩ := hok 2 24 _ (by decide) rfl rfl
  obtain rfl : A_ = ⟨#[.slice a0 len0 cap0, .slice a1 len1 cap1, .slice a2 len2 cap2, undef, undef, undef, .bool false, .pointer (some ⟨g7, 0, none⟩), .slice F8 n8 c8, .pointer (some ⟨g9, 0, none⟩), undef, undef, undef, undef, .slice a0 len0 cap0, .slice a1 len1 cap1, .agg #[.slice E0 e0.length c0, .slice A0 l0.length d0], .slice a2 len2 cap2, .slice F8 n8 c8, .agg #[.slice E0 e0.length c0, .slice A0 l0.length d0], .slice F8 n8 c8, .agg #[.slice E1 s0.length c1, .slice A1 y0.length d1], .agg #[.slice E0 e0.length c0, .slice A0 l0.length d0], .slice F8 n8 c8, .agg #[.slice E24 s0.length c24, .slice A24 y0.length d24], .agg #[.slice E1 s0.length c1, .slice A1 y0.length d1], .bool true, .bool false, undef, undef, undef, undef, undef, undef, undef, undef, undef, undef, undef, undef, undef, undef, undef, undef, undef, undef, undef, undef, undef, undef, undef, undef, undef, undef, undef, undef, undef, undef, undef, undef, undef, undef, undef, undef, undef, undef, undef, undef], []⟩ := act_ext hd hs (fun j hj => match j, hj with | 0, _ => (hlow 0 (by decide)).trans rfl | 1, _ => (hlow 1 (by decide)).trans rfl | 2, _ => (hlow 2 (by decide)).trans rfl | 3, _ => (hlow 3 (by decide)).trans rfl | 4, _ => (hlow 4 (by decide)).trans rfl | 5, _ => (hlow 5 (by decide)).trans rfl | 6, _ => (hlow 6 (by decide)).trans rfl | 7, _ => (hlow 7 (by decide)).trans rfl | 8, _ => (hlow 8 (by decide)).trans rfl | 9, _ => (hlow 9 (by decide)).trans rfl | 10, _ => (hlow 10 (by decide)).trans rfl | 11, _ => (hlow 11 (by decide)).trans rfl | 12, _ => (hlow 12 (by decide)).trans rfl | 13, _ => (hlow 13 (by decide)).trans rfl | 14, _ => (hlow 14 (by decide)).trans rfl | 15, _ => (hlow 15 (by decide)).trans rfl | 16, _ => (hlow 16 (by decide)).trans rfl | 17, _ => (hlow 17 (by decide)).trans rfl | 18, _ => (hlow 18 (by decide)).trans rfl | 19, _ => (hlow 19 (by decide)).trans rfl | 20, _ => (hlow 20 (by decide)).trans rfl | 21, _ => (hlow 21 (by decide)).trans rfl | 22, _ => RgX.val_at (hok 0 22 _ (by decide) rfl rfl) | 23, _ => RgX.val_at (hok 1 23 _ (by decide) rfl rfl) | 24, _ => hy24 | 25, _ => RgX.val_at (hok 3 25 _ (by decide) rfl rfl) | 26, _ => RgX.val_at (hok 4 26 _ (by decide) rfl rfl) | 27, _ => RgX.val_at (hok 5 27 _ (by decide) rfl rfl) | 28, _ => (hlow 28 (by decide)).trans rfl | 29, _ => (hlow 29 (by decide)).trans rfl | 30, _ => (hlow 30 (by decide)).trans rfl | 31, _ => (hlow 31 (by decide)).trans rfl | 32, _ => (hlow 32 (by decide)).trans rfl | 33, _ => (hlow 33 (by decide)).trans rfl | 34, _ => (hlow 34 (by decide)).trans rfl | 35, _ => (hlow 35 (by decide)).trans rfl | 36, _ => (hlow 36 (by decide)).trans rfl | 37, _ => (hlow 37 (by decide)).trans rfl | 38, _ => (hlow 38 (by decide)).trans rfl | 39, _ => (hlow 39 (by decide)).trans rfl | 40, _ => (hlow 40 (by decide)).trans rfl | 41, _ => (hlow 41 (by decide)).trans rfl | 42, _ => (hlow 42 (by decide)).trans rfl | 43, _ => (hlow 43 (by decide)).trans rfl | 44, _ => (hlow 44 (by decide)).trans rfl | 45, _ => (hlow 45 (by decide)).trans rfl | 46, _ => (hlow 46 (by decide)).trans rfl | 47, _ => (hlow 47 (by decide)).trans rfl | 48, _ => (hlow 48 (by decide)).trans rfl | 49, _ => (hlow 49 (by decide)).trans rfl | 50, _ => (hlow 50 (by decide)).trans rfl | 51, _ => (hlow 51 (by decide)).trans rfl | 52, _ => (hlow 52 (by decide)).trans rfl | 53, _ => (hlow 53 (by decide)).trans rfl | 54, _ => (hlow 54 (by decide)).trans rfl | 55, _ => (hlow 55 (by decide)).trans rfl | 56, _ => (hlow 56 (by decide)).trans rfl | 57, _ => (hlow 57 (by decide)).trans rfl | 58, _ => (hlow 58 (by decide)).trans rfl | 59, _ => (hlow 59 (by decide)).trans rfl | 60, _ => (hlow 60 (by decide)).trans rfl | 61, _ => (hlow 61 (by decide)).trans rfl | 62, _ => (hlow 62 (by decide)).trans rfl | 63, _ => (hlow 63 (by decide)).trans rfl | 64, _ => (hlow 64 (by decide)).trans rfl | 65, _ => (hlow 65 (by decide)).trans rfl | 66, _ => (hlow 66 (by decide)).trans rfl | 67, _ => (hlow 67 (by decide)).trans rfl | n + 68, h => absurd h (by show ¬ n + 68 < 68; omega))
  clear hs hd hlow hok hy24
  obtain ⟨v4, h4⟩ : ∃ V, V = w3 := ⟨_, rfl⟩
  rw [← h4] at hS ⊢
  have HS4 := Lib.hid hS
  obtain ⟨⟨x0, x1⟩, x2, x3⟩ := HF.out v4 hS
  clear hS h4 h24
  go_upto_region 7 with (fail)
  obtain ⟨U5, hU⟩ : ∃ U, v4.alloc (.cells #[.slice E0 e0.length c0, .slice A0 l0.length d0] 26) = U := ⟨_, rfl⟩
  rw [hU]
  obtain ⟨g10, hg_⟩ : ∃ g, g = v4.heap.size := ⟨_, rfl⟩
  rw [← hg_]
  have k10 : U5.heap[g10]? = some (.cells #[.slice E0 e0.length c0, .slice A0 l0.length d0] 26 (0, 0)) := by rw [hg_, ← hU]; exact new_at rfl
  have hb : Below v4.heap.size v4 U5 := hU ▸ one_box _ _
  have h35 := HS4.out.trans (hb.mono HS4.out.size)
  have HB5 := Lib.hid h35
  have HV45 := Lib.hid (show Below v4.heap.size v4 U5 from hb)
  have hsz4 := HS4.out.size
  obtain ⟨⟨b0, b1⟩, _⟩ := HF.out U5 h35
  have HP := Lib.hid (parts_any (ca := d0) (ce := c0) U5 (HI0.out U5 h35))
  rw [HNE.out.1] at HP
  have HT5 := Lib.hid (HTT.out.keep h35)
  have K10 := Lib.hid k10
  obtain ⟨P, hP⟩ : ∃ n : Nat, e0.length + n0.length = n := ⟨_, rfl⟩
  have hwp : IntKind.i64.wrap ((e0.length : Int) + (n0.length : Int) - 1) = (P : Int) - 1 := (IntWalk.i64_in _ (by omega)).trans (by omega)
  have hP20 : P ≤ 20 := by omega
  have hg10 : U3.heap.size ≤ g10 := by rw [hg_]; exact hsz4
  have hU5 : U5.heap.size = g10 + 1 := by rw [← hU, hg_]; simp
  have hg_0 := hg_
  clear hb hU hg_ k10 h35
  have hsz410 : v4.heap.size = g10 := hg_0.symm
  clear hg_0
  go_upto_block 0 with (go_at_call 18; refine HP.out.mono ?_; clear HP; rintro e v6 ⟨rfl, h6⟩; have HV6 := Lib.hid h6; clear h6)
  try rw [hwp]
  clear hwp b0 b1 x0 x1 x2 x3
  have HX0 := Lib.hid (show v6.heap[g10]? = some (.cells #[.slice E0 e0.length c0, .slice A0 l0.length d0] 26 (0, 0)) ∧ TapeIs w.heap.size v6 E0 e0.length c0 A0 l0.length d0 e0 l0 ∧ (e0, TP.normA l0) = TP.wo (TP.from_ P fw) (e0, n0) from
    ⟨(HV6.out.block g10 (by omega)).trans K10.out, HT5.out.keep HV6.out, by rw [TP.wo_from _ (by show e0.length + n0.length ≤ P; omega), HNE.out.1]⟩)
  have HB6 := Lib.hid (HV45.out.trans (HV6.out.mono (by omega)))
  obtain ⟨i0, hi0, hz0, hs0, hb0⟩ := info_splitI info_int
  clear HV45 HV6 HT5 K10 HTT
  go_wp2_with fail
  go_loopw [11, 12] (fun all i V => ∃ (k n c en ec bn bc : Nat) (A E B : Option Addr) (eu : List NM.Ev) (lu : List TP.An) (z : Int), k ≤ P ∧ i = .int .i64 z ∧ z = (k : Int) - 1 ∧ all = .slice A n c ∧ Hid (V.heap[g10]? = some (.cells #[.slice E en ec, .slice B bn bc] 26 (0, 0)) ∧ TapeIs w.heap.size V E en ec B bn bc eu lu ∧ (eu, TP.normA lu) = TP.wo (TP.from_ k fw) (e0, n0)) ∧ en ≤ 10 ∧ bn ≤ 10 ∧ n ≤ 20 - k ∧ Hid (V.ownsRow (g10 + 1) 3 1 (.slice A n c) n ((TP.downs P k).map (Value.int .i64))) ∧ Hid (Below v4.heap.size v4 V)) (fun _ i _ => (intOf i + 1).toNat)
  case atStart => exact ⟨P, 0, 0, e0.length, c0, l0.length, d0, none, E0, A0, e0, l0, _, Nat.le_refl _, rfl, rfl, rfl, HX0.out, hf0, hf1, by omega, by rw [TP.downs_self]; exact World.ownsRow_nil _ _ _ _, HB6.out⟩
  case round =>
    obtain ⟨k, n, c, en, ec, bn, bc, A, E, B, eu, lu, z, hk, rfl, hz, rfl, HX, hen, hbn, hnk, HR, HV⟩ := hrel
    have hgl := heap_lt HX.out.1
    obtain ⟨⟨b0, b1⟩, _, _⟩ := row2 HX.out.1
    have hel : eu.length = en := HX.out.2.1.1.1
    have hll : lu.length = bn := HX.out.2.1.1.2
    cases k with
    | succ k =>
      obtain rfl : z = (k : Int) := by omega
      clear hz
      have dk : decide ((0 : Int) ≤ (k : Int)) = true := decide_eq_true (by omega)
      have HDN := Lib.hid (TP.downs_next (n := P) (k := k) hk)
      obtain ⟨se, hse⟩ : ∃ x, TP.sub [(k : Int)] 0 eu = x := ⟨_, rfl⟩
      obtain ⟨sy, hsy⟩ : ∃ x, TP.sub [(k : Int)] eu.length (TP.normA lu) = x := ⟨_, rfl⟩
      have hsel : se.length ≤ 10 := by have := TP.sub_len [(k : Int)] 0 eu; rw [hse] at this; omega
      have hsyl : sy.length ≤ 10 := by have h1 := TP.sub_len [(k : Int)] eu.length (TP.normA lu); have h2 := TP.norm_len lu; rw [hsy] at h1; omega
      have HSY := Lib.hid (show TP.normA sy = sy from by rw [← hsy]; exact TP.norm_sub _ _ (TP.norm_norm lu))
      have HSE := Lib.hid (fun (hm : (k : Int) ∈ fw) => show (se, sy) = TP.wo (TP.from_ k fw) (e0, n0) from by
        rw [← TP.wo_one fw k (e0, n0) (by show k < e0.length + n0.length; omega) hm, ← HX.out.2.2]
        unfold TP.wo
        rw [hse, hsy])
      have HWU := Lib.hid (fun (V : World) (hT : TapeIs w.heap.size V E en ec B bn bc eu lu) (hV : w.heap.size ≤ V.heap.size) (g : Nat) (hg : V.heap[g]? = some (.cells #[.int .i64 (k : Int)] 3 (0, 0))) => show Calls Try.prog 30 #[.agg #[.slice E en ec, .slice B bn bc], .slice (some ⟨g, 0, none⟩) 1 1] V fun e w' => (∃ v, e = .returned v ∧ (RgX.Sp.tape w.heap.size se sy se.length sy.length).p w' v) ∧ Below V.heap.size V w' from by
        have h := without_any (ca := bc) (ce := ec) (cap2 := 1) V (hT.tin (by omega) (by omega)) (ints_box hg) (fun x hx => by rw [List.mem_singleton.1 hx]; unfold I64; omega) (by decide)
        rw [hse, hsy] at h
        exact RgX.tape_calls_lo hV rfl rfl h)
      have HH := Lib.hid (fun (V : World) (hV : Below v4.heap.size v4 V) => has_any F8 n8 c8 fw (k : Int) V (HI8.out V (HS4.out.trans (hV.mono HS4.out.size))) (by omega))
      have hwV : w.heap.size ≤ wr.heap.size := Nat.le_trans HB3.out.size (Nat.le_trans HS4.out.size HV.out.size)
      clear hse hsy
      by_cases hm : (k : Int) ∈ fw
      · have dm : decide ((k : Int) ∈ fw) = true := decide_eq_true hm
        replace HSE := Lib.hid (HSE.out hm)
        clear hm
        go_wp2_with (first
          | (at_builtin; refine wpList_append_lies _ rfl (.tmp 36) (.tmp 38) 22 rfl (g10 + 1) 3 i0 _ 1 8 Try.underlying22 hi0 hz0 hs0 hb0 rfl (by decide) (.slice A n c) n ((TP.downs P (k + 1)).map (Value.int .i64)) (by simp [Act.eval]) (own_belowW HR.out (one_box wr _)) ⟨wr.heap.size, 0, none⟩ 1 1 [.int .i64 (k : Int)] (by simp [Act.eval]) rfl (World.news_of_block (World.alloc_heap_new wr _)) (by simp [Value.oneCell']) (by decide) (by simp only [maxLen]; omega) (by omega) (by simp; omega) _ rfl ?_
             intro gq cq w7 hown7 hgr7 _ _
             have ho0 := own_belowW HR.out (one_box wr (.cells #[.int .i64 (k : Int)] 3))
             have hob : ∀ b, (Value.slice A n c).ownBlock = some b → g10 + 1 ≤ b := fun b hb => (own_int ho0 hb).1
             have hbx7 := (hgr7.block g10 (by simp; omega) (fun e => by have := hob _ e.symm; omega)).trans (((one_box wr (.cells #[.int .i64 (k : Int)] 3)).block g10 hgl).trans HX.out.1)
             have ht7 := (HX.out.2.1.keep (one_box wr (.cells #[.int .i64 (k : Int)] 3))).grewI ho0 hgr7
             have hv7 := (HV.out.trans ((one_box wr (.cells #[.int .i64 (k : Int)] 3)).mono HV.out.size)).grown hgr7 (by have := HV.out.size; simp; omega) (fun b e => by have := hob _ e; omega)
             have hw7 : w7.ownsRow (g10 + 1) 3 1 (.slice (some ⟨gq, 0, none⟩) (n + 1) cq) (n + 1) ((TP.downs P k).map (Value.int .i64)) := by
               rw [HDN.out, List.map_append]
               exact hown7
             have HX7 := Lib.hid (And.intro hbx7 (And.intro ht7 (And.intro hw7 hv7)))
             have hgl7 := heap_lt hbx7
             have hwV7 : w.heap.size ≤ w7.heap.size := Nat.le_trans HB3.out.size (Nat.le_trans HS4.out.size hv7.size)
             obtain ⟨⟨p0, p1⟩, _, _⟩ := row2 hbx7
             clear ho0 hob hbx7 ht7 hv7 hw7 hown7 hgr7)
          | (go_at_call 31; refine (HH.out _ HX7.out.2.2.2).mono ?_; clear HH; rintro e w8 ⟨rfl, hw8⟩; obtain rfl : w7 = w8 := hw8.symm; rw [dm])
          | (go_at_call 30; refine (HWU.out _ (TapeIs.keep HX7.out.2.1 (one_box w7 (.cells #[.int .i64 (k : Int)] 3))) (by simp; omega) _ (new_at rfl)).mono ?_; clear HWU; rintro e w9 ⟨⟨v, rfl, E9, c9, A9, d9, rfl, h9⟩, hb9⟩
             have b79 : Below w7.heap.size w7 w9 := (one_box w7 (.cells #[.int .i64 (k : Int)] 3)).trans (hb9.mono (by simp))
             have hbx9 := (b79.block g10 hgl7).trans HX7.out.1
             have H9 := Lib.hid (And.intro hbx9 (And.intro h9 (And.intro (own_belowW HX7.out.2.2.1 b79) (HX7.out.2.2.2.trans (b79.mono HX7.out.2.2.2.size)))))
             clear b79 hbx9 h9 hb9)
          | (refine RgX.wpList_store_seg rfl 26 _ _ rfl g10 0 (.agg #[.slice E9 se.length c9, .slice A9 sy.length d9]) rfl rfl 26 _ H9.out.1 (by rw [size_tape]; rfl) (by show 0 + 2 ≤ 2; omega) (by simp [Value.cells, Value.oneCell']) #[.slice E9 se.length c9, .slice A9 sy.length d9] rfl ?_; intro w10 k10 ho10 hz10 hb10
             have hgr10 : w9.grownBy w10 (some g10) := ⟨hb10.os, hb10.tape, hb10.output, by omega, fun b _ hne => ho10 b (fun e => hne (by rw [e]))⟩
             have HX10 := Lib.hid (And.intro k10 (And.intro (TapeIs.grown H9.out.2.1 hgr10 H9.out.1 (by decide) (by decide)) HSE.out))
             have HR10 := Lib.hid (H9.out.2.2.1.kept hgr10 (own_ne H9.out.2.2.1 H9.out.1 (by decide)))
             have HV10 := Lib.hid (H9.out.2.2.2.grown hgr10 H9.out.2.2.2.size (fun b e => by injection e with e; omega))
             clear k10 ho10 hz10 hb10 hgr10))
        go_roundw
        case rel => exact ⟨k, n + 1, cq, se.length, c9, sy.length, d9, _, E9, A9, se, sy, (k : Int) - 1, by omega, by go_num, rfl, rfl, ⟨HX10.out.1, HX10.out.2.1, by rw [HSY.out]; exact HX10.out.2.2⟩, hsel, hsyl, by omega, HR10.out, HV10.out⟩
        case measure => simp [intOf]
      · have dm : decide ((k : Int) ∈ fw) = false := decide_eq_false hm
        have HFS := Lib.hid (TP.from_skip hm)
        clear hm HSE HWU
        go_wp2_with (first
          | (at_builtin; refine wpList_append_lies _ rfl (.tmp 36) (.tmp 38) 22 rfl (g10 + 1) 3 i0 _ 1 8 Try.underlying22 hi0 hz0 hs0 hb0 rfl (by decide) (.slice A n c) n ((TP.downs P (k + 1)).map (Value.int .i64)) (by simp [Act.eval]) (own_belowW HR.out (one_box wr _)) ⟨wr.heap.size, 0, none⟩ 1 1 [.int .i64 (k : Int)] (by simp [Act.eval]) rfl (World.news_of_block (World.alloc_heap_new wr _)) (by simp [Value.oneCell']) (by decide) (by simp only [maxLen]; omega) (by omega) (by simp; omega) _ rfl ?_
             intro gq cq w7 hown7 hgr7 _ _
             have ho0 := own_belowW HR.out (one_box wr (.cells #[.int .i64 (k : Int)] 3))
             have hob : ∀ b, (Value.slice A n c).ownBlock = some b → g10 + 1 ≤ b := fun b hb => (own_int ho0 hb).1
             have hbx7 := (hgr7.block g10 (by simp; omega) (fun e => by have := hob _ e.symm; omega)).trans (((one_box wr (.cells #[.int .i64 (k : Int)] 3)).block g10 hgl).trans HX.out.1)
             have ht7 := (HX.out.2.1.keep (one_box wr (.cells #[.int .i64 (k : Int)] 3))).grewI ho0 hgr7
             have hv7 := (HV.out.trans ((one_box wr (.cells #[.int .i64 (k : Int)] 3)).mono HV.out.size)).grown hgr7 (by have := HV.out.size; simp; omega) (fun b e => by have := hob _ e; omega)
             have hw7 : w7.ownsRow (g10 + 1) 3 1 (.slice (some ⟨gq, 0, none⟩) (n + 1) cq) (n + 1) ((TP.downs P k).map (Value.int .i64)) := by
               rw [HDN.out, List.map_append]
               exact hown7
             have HX7 := Lib.hid (And.intro hbx7 (And.intro ht7 (And.intro hw7 hv7)))
             have hgl7 := heap_lt hbx7
             have hwV7 : w.heap.size ≤ w7.heap.size := Nat.le_trans HB3.out.size (Nat.le_trans HS4.out.size hv7.size)
             obtain ⟨⟨p0, p1⟩, _, _⟩ := row2 hbx7
             clear ho0 hob hbx7 ht7 hv7 hw7 hown7 hgr7)
          | (go_at_call 31; refine (HH.out _ HX7.out.2.2.2).mono ?_; clear HH; rintro e w8 ⟨rfl, hw8⟩; obtain rfl : w7 = w8 := hw8.symm; rw [dm]))
        go_roundw
        case rel => exact ⟨k, n + 1, cq, en, ec, bn, bc, _, E, B, eu, lu, (k : Int) - 1, by omega, by go_num, rfl, rfl, by rw [← HFS.out]; exact ⟨HX7.out.1, HX7.out.2.1, HX.out.2.2⟩, hen, hbn, by omega, HX7.out.2.2.1, HX7.out.2.2.2⟩
        case measure => simp [intOf]
    | zero =>
      obtain rfl : z = -1 := by omega
      clear hz
      have dk : decide ((0 : Int) ≤ -1) = false := rfl
      subst hel hll
      obtain ⟨hes, hln⟩ : eu = s0 ∧ TP.normA lu = y0 := by
        have := HX.out.2.2
        rw [TP.wo_zero] at this
        unfold TP.wo at this
        rw [HNE.out.2.1, HNE.out.2.2] at this
        injection this with p q
        exact ⟨p, q⟩
      subst hes
      have HYY := Lib.hid (show TP.normA y0 = y0 from by rw [← hln, TP.norm_norm])
      have HLN := Lib.hid hln
      have HWA := Lib.hid (fun (V : World) (hV : Below U3.heap.size U3 V) (hA : Ints .i64 V.heap.size V A n (TP.downs P 0)) => show Calls Try.prog 30 #[.agg #[.slice E0 e0.length c0, .slice A0 l0.length d0], .slice A n c] V fun e w' => (∃ v, e = .returned v ∧ (RgX.Sp.tape U3.heap.size ([] : List NM.Ev) ([] : List TP.An) 0 0).p w' v) ∧ Below V.heap.size V w' from by
        have h := without_any (ca := d0) (ce := c0) (cap2 := c) V (HI0.out V hV) hA (TP.downs_64 (by omega) 0) (by omega)
        rw [HNE.out.1, TP.sub_all (o := TP.downs P 0) (f := 0) (l := e0) (fun j hj => TP.mem_downs (by omega) (by omega)), TP.sub_all (o := TP.downs P 0) (f := e0.length) (l := n0) (fun j hj => TP.mem_downs (by omega) (by omega))] at h
        exact RgX.tape_calls_lo hV.size rfl rfl h)
      have hVU := HS4.out.trans (HV.out.mono HS4.out.size)
      have HVU := Lib.hid hVU
      obtain ⟨⟨x0, x1⟩, x2, x3⟩ := HF.out wr hVU
      clear hln hVU b0 b1
      go_upto_region 15 with (go_at_call 30; refine (HWA.out wr HVU.out (own_ints HR.out)).mono ?_; clear HWA; rintro e w9 ⟨⟨v, rfl, E9, c9, A9, d9, rfl, h9⟩, hb9⟩; have H9 := Lib.hid (And.intro h9 hb9); clear h9 hb9)
      clear x0 x1 x2 x3
      obtain ⟨U9, hU⟩ : ∃ U, w9.alloc (.cells #[.slice E9 0 c9, .slice A9 0 d9] 26) = U := ⟨_, rfl⟩
      rw [hU]
      obtain ⟨g13, hg_⟩ : ∃ g, g = w9.heap.size := ⟨_, rfl⟩
      rw [← hg_]
      have k13 : U9.heap[g13]? = some (.cells #[.slice E9 0 c9, .slice A9 0 d9] 26 (0, 0)) := by rw [hg_, ← hU]; exact new_at rfl
      have hb : Below w9.heap.size w9 U9 := hU ▸ one_box _ _
      have hr9 : Below wr.heap.size wr U9 := H9.out.2.trans (hb.mono H9.out.2.size)
      have hk10 := (hr9.block g10 hgl).trans HX.out.1
      have hu10 := HX.out.2.1.keep hr9
      have h39 := HVU.out.trans (hr9.mono HVU.out.size)
      have HF9 := Lib.hid (fun (V : World) (hV : Below U9.heap.size U9 V) => And.intro (row2C ((hV.block g10 (heap_lt hk10)).trans hk10)) (And.intro (row2C ((hV.block g13 (heap_lt k13)).trans k13)) (HF.out V (h39.trans (hV.mono h39.size))).2))
      have HIU := Lib.hid (fun (V : World) (hV : Below U9.heap.size U9 V) => TapeIs.tin (hu10.keep hV) (by omega) (by omega))
      have HI9 := Lib.hid (fun (V : World) (hV : Below U9.heap.size U9 V) => HI1.out V (h39.trans (hV.mono h39.size)))
      have HBE := Lib.hid (HB3.out.trans (h39.mono HB3.out.size))
      clear hU hg_ k13 hb hr9 hk10 hu10 h39
      obtain ⟨⟨x0, x1⟩, ⟨x2, x3⟩, x4, x5⟩ := HF9.out U9 (Below.refl _ _)
      go_wp2_with (first
        | (go_at_call 19; refine (equal_good U9 (HIU.out U9 (Below.refl _ _)) (HI9.out U9 (Below.refl _ _)) HLN.out HYY.out).mono ?_; rintro e wa ⟨rfl, hba⟩; have HBA := Lib.hid hba; obtain ⟨_, ⟨y2, y3⟩, _⟩ := HF9.out wa hba; clear hba)
        | (go_at_call 24; refine (lives_any wa).mono ?_; rintro e wb ⟨rfl, hbb⟩; have HBB := Lib.hid hbb; clear hbb))
      have HE := Lib.hid (HBE.out.trans ((HBA.out.trans (HBB.out.mono HBA.out.size)).mono HBE.out.size))
      go_ret
      exact ⟨rfl, HE.out⟩
end Go.Proofs.Ytiokiecnglmbnaa.LawTapeParts

namespace Go.Proofs.Ytiokiecnglmbnaa.tapeParts
open Go.ChangeShapes Go.WideShapes Go.ChangeAt Go.RowKit
open Go.ChangeMaps (open_string shut_string)
set_option linter.unusedVariables false

theorem own : ownKnob Try.prog.godebug = none := by kernel_rfl
theorem laidOut : laidOutB Try.prog = true := by kernel_rfl

/-- WHAT THE WALK IS TOLD OF A SLICE OF INTEGERS THAT CAME IN: it is nil; or it leads to a row of 'cap' cells, the numbers 'zs' (the first 'len' are its elements, the rest its spare room), each fitting its kind. -/
def IsRow (k : IntKind) (w : World) (a : Option Addr) (len cap : Nat) (zs : List Int) : Prop :=
  (a = none ∧ len = 0 ∧ cap = 0 ∧ zs = []) ∨
  ∃ x, a = some x ∧ len ≤ cap ∧ cap ≤ maxLen ∧ zs.length = cap ∧ (∀ i, i < zs.length → w.cell? (x.add i) = some (.int k (zs.getD i 0))) ∧ ∀ n ∈ zs, (Lit.int k n).wf = true

/-! ### STEP 1: THE WALK: the Go text returns true, AND WRITES NOTHING THAT WAS THERE: 'Below w.heap.size w w'' (Derived/Below.lean: '.refl', '.alloc', '.drew', '.setCell' at a new block, '.trans'). Open each 'IsRow' by 'rcases' AHEAD of 'go_enter'; part every test ahead of the walk. -/
theorem walk (a0 : Option Addr) (len0 cap0 : Nat) (z0 : List Int) (a1 : Option Addr) (len1 cap1 : Nat) (z1 : List Int) (a2 : Option Addr) (len2 cap2 : Nat) (z2 : List Int) (w : World) (w0 : IsRow .i64 w a0 len0 cap0 z0) (w1 : IsRow .i64 w a1 len1 cap1 z1) (w2 : IsRow .i64 w a2 len2 cap2 z2) :
    Calls Try.prog 5 #[.slice a0 len0 cap0, .slice a1 len1 cap1, .slice a2 len2 cap2] w fun e w' => e = .returned (.bool true) ∧ Below w.heap.size w w' := by
  exact LawTapeParts.walk a0 len0 cap0 z0 a1 len1 cap1 z1 a2 len2 cap2 z2 w w0 w1 w2

/-! ### THE ROW's STEP: WRITTEN OUT: LEAVE IT -/
set_option maxRecDepth 100000 in
theorem lifted (os : Os) (started : os.Started) (H : Type) (enc : TypeId × Value → H) :
    ReturnsInHanded {} Try.checked os 5 .any (Rows.tapePartsSpec.pre6 enc Try.prog Try.f5 Rows.tapePartsRow.domain false) (Rows.tapePartsSpec.post enc Try.prog Try.f5 false true false false) := by
  refine returnsInHanded_of_change (C := Try.checked) own started (by kernel_rfl) Try.func5
    (ChangeSpec.witness6 (enc := enc) (C := Try.checked) false ⟨#[], #[.slice none 0 0, .slice none 0 0, .slice none 0 0], []⟩ 8 (by kernel_rfl) (by kernel_rfl) (by kernel_rfl) (by kernel_rfl)) ?_
  intro W base args ds gs before hval0 hW hcnd _
  have hval : ∀ (j : Nat) t v, Try.f5.params[j]? = some t → args[j]? = some v → Value.okWide Try.prog W .any base t v := hval0
  have hW' := hW
  obtain ⟨p, q, hA0, hV, rfl, hfz, hnd⟩ := hW
  have hA : DataW.TrodAll enc Try.prog W 0 (fun _ => true) true Try.f5.params.toList args.toList ds p := hA0
  rw [Try.params5] at hA hval
  obtain ⟨v0, vs0, d0, ds0, p0, q0, hargs, rfl, rfl, h0, r0⟩ := trodAll_cons hA
  obtain ⟨v1, vs1, d1, ds1, p1, q1, rfl, rfl, rfl, h1, r1⟩ := trodAll_cons r0
  obtain ⟨v2, vs2, d2, ds2, p2, q2, rfl, rfl, rfl, h2, r2⟩ := trodAll_cons r1
  obtain ⟨rfl, rfl, rfl⟩ := trodAll_nil r2
  obtain rfl : args = #[v0, v1, v2] := by cases args; simp_all
  obtain ⟨rfl, rfl⟩ := trodVars_none hV
  obtain ⟨a0, len0, cap0, rfl⟩ := okWide_slice Try.underlying22 (hval 0 22 v0 rfl rfl)
  have k0 := h0
  have lt0 : ∀ x ∈ p0, x.block < W.heap.size := by obtain ⟨m, hm⟩ := k0; exact DataW.trod_lt m _ _ _ hm
  obtain ⟨z0, w0⟩ : ∃ zs, IsRow .i64 W a0 len0 cap0 zs := by
    obtain ⟨fuel, hf⟩ := h0
    rcases open_ints Try.underlying22 Try.underlying3 (by kernel_rfl) hf with ⟨hcs, _⟩ | ⟨x, l, c, zs, hcs, _, hl, hm, hz, _, hcell, hwz⟩
    · simp [Value.cells] at hcs
      obtain ⟨rfl, rfl, rfl⟩ := hcs
      exact ⟨[], .inl ⟨rfl, rfl, rfl, rfl⟩⟩
    · simp [Value.cells] at hcs
      obtain ⟨rfl, rfl, rfl⟩ := hcs
      exact ⟨zs, .inr ⟨_, rfl, hl, hm, by simpa using hz, hcell, hwz⟩⟩
  obtain ⟨a1, len1, cap1, rfl⟩ := okWide_slice Try.underlying22 (hval 1 22 v1 rfl rfl)
  have k1 := h1
  have lt1 : ∀ x ∈ p1, x.block < W.heap.size := by obtain ⟨m, hm⟩ := k1; exact DataW.trod_lt m _ _ _ hm
  obtain ⟨z1, w1⟩ : ∃ zs, IsRow .i64 W a1 len1 cap1 zs := by
    obtain ⟨fuel, hf⟩ := h1
    rcases open_ints Try.underlying22 Try.underlying3 (by kernel_rfl) hf with ⟨hcs, _⟩ | ⟨x, l, c, zs, hcs, _, hl, hm, hz, _, hcell, hwz⟩
    · simp [Value.cells] at hcs
      obtain ⟨rfl, rfl, rfl⟩ := hcs
      exact ⟨[], .inl ⟨rfl, rfl, rfl, rfl⟩⟩
    · simp [Value.cells] at hcs
      obtain ⟨rfl, rfl, rfl⟩ := hcs
      exact ⟨zs, .inr ⟨_, rfl, hl, hm, by simpa using hz, hcell, hwz⟩⟩
  obtain ⟨a2, len2, cap2, rfl⟩ := okWide_slice Try.underlying22 (hval 2 22 v2 rfl rfl)
  have k2 := h2
  have lt2 : ∀ x ∈ p2, x.block < W.heap.size := by obtain ⟨m, hm⟩ := k2; exact DataW.trod_lt m _ _ _ hm
  obtain ⟨z2, w2⟩ : ∃ zs, IsRow .i64 W a2 len2 cap2 zs := by
    obtain ⟨fuel, hf⟩ := h2
    rcases open_ints Try.underlying22 Try.underlying3 (by kernel_rfl) hf with ⟨hcs, _⟩ | ⟨x, l, c, zs, hcs, _, hl, hm, hz, _, hcell, hwz⟩
    · simp [Value.cells] at hcs
      obtain ⟨rfl, rfl, rfl⟩ := hcs
      exact ⟨[], .inl ⟨rfl, rfl, rfl, rfl⟩⟩
    · simp [Value.cells] at hcs
      obtain ⟨rfl, rfl, rfl⟩ := hcs
      exact ⟨zs, .inr ⟨_, rfl, hl, hm, by simpa using hz, hcell, hwz⟩⟩
  clear hA0 hval0
  refine (walk a0 len0 cap0 z0 a1 len1 cap1 z1 a2 len2 cap2 z2 W w0 w1 w2).mono fun e W' ⟨he, bel⟩ => ?_
  subst he
  exact ⟨_, rfl, _, _, _, [], _, [], hW', trodAll_mk1 (shut_bool Try.underlying4 _), (trodAll_cons_mk (Below.trod laidOut (by kernel_rfl) (of_decide_eq_true (by kernel_rfl)) k0 bel lt0) (trodAll_cons_mk (Below.trod laidOut (by kernel_rfl) (of_decide_eq_true (by kernel_rfl)) k1 bel lt1) (trodAll_cons_mk (Below.trod laidOut (by kernel_rfl) (of_decide_eq_true (by kernel_rfl)) k2 bel lt2) trodAll_mk0))), rfl, bel.frame _, fun h => by cases h⟩

theorem over : Rows.tapePartsRow.holds Try.pinned (OpenSpec.ofChange Rows.tapePartsSpec) :=
  OpenClaim.holds_of_wide 5 Try.f5 rfl rfl rfl rfl rfl rfl rfl ⟨rfl, rfl, rfl, rfl, rfl⟩ rfl rfl rfl rfl rfl (by kernel_rfl) Try.func5 (by kernel_rfl)
    (of_decide_eq_true (by kernel_rfl)) (by unfold Func.isWrapper; first | (rw [if_pos (by decide +kernel)]; kernel_rfl) | (rw [if_neg (by decide +kernel)]; exact ⟨rfl, rfl⟩))
    (fun os started H enc _ => lifted os started H enc)

/-- ████ THE STATEMENT ████ -/
theorem proved : Rows.TapePartsSaid := over
end Go.Proofs.Ytiokiecnglmbnaa.tapeParts
