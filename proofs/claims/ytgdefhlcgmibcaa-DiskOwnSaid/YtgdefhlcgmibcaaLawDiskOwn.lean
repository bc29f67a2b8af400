/-
  The walk of DiskOwn. No condition.
-/
import Derived.Test.YtgdefhlcgmibcaaDkT
import Derived.Deep.Cut
namespace Go.Proofs.Ytgdefhlcgmibcaa.LawDiskOwn
open Go Go.RowKit Go.Proofs Go.Proofs.Ytgdefhlcgmibcaa
attribute [local go_sem] Oper.semAt_some

theorem oneInt (v : Int) : ∀ u ∈ (Value.int .i64 v).cells.toList, ∃ v', u = Value.int .i64 v' := by
  intro u hu
  have h : u ∈ [Value.int .i64 v] := hu
  simp at h
  exact ⟨v, h⟩
theorem twoInts (a v : Int) : ∀ u ∈ (Value.agg #[.int .i64 a, .int .i64 v]).cells.toList, ∃ v', u = Value.int .i64 v' := by
  intro u hu
  have h : u ∈ [Value.int .i64 a, Value.int .i64 v] := hu
  simp at h
  rcases h with h | h
  · exact ⟨a, h⟩
  · exact ⟨v, h⟩
theorem isI_room {t : TypeId} {sz lo k g off n : Nat} {w : World} {A : Option Addr} {C : Array Value} (h : IsI t sz lo w A n) (hA : A = some ⟨g, off, none⟩) (hk : k < n) (hg : w.heap[g]? = some (.cells C t (0, 0))) (hz : 0 < sz) : off + k * sz + sz ≤ C.size := by
  subst hA
  rcases h with h | ⟨g', off', C', e, _, hg', hc⟩
  · omega
  · injection e with e
    injection e with e1 e2
    subst e1
    subst e2
    rw [hg] at hg'
    injection hg' with hg'
    injection hg' with e3 _
    subst e3
    have hlt : k * sz + (sz - 1) < n * sz := by
      have : (k + 1) * sz ≤ n * sz := Nat.mul_le_mul_right _ hk
      rw [Nat.add_mul] at this
      omega
    obtain ⟨v, hv⟩ := hc _ hlt
    have := (Array.getElem?_eq_some_iff.1 hv).1
    omega
theorem around_below {n m k : Int} {w : World} (h : Calls Try.prog 11 #[.int .i64 n, .int .i64 m] w fun e w' => e = .returned (.int .i64 k) ∧ w = w') : Calls Try.prog 11 #[.int .i64 n, .int .i64 m] w fun e w' => e = .returned (.int .i64 k) ∧ Below w.heap.size w w' :=
  h.mono fun _ _ ⟨h1, h2⟩ => ⟨h1, by subst h2; exact Below.refl _ _⟩
theorem bls_one {w : World} {g : Nat} (h : w.heap[g]? = some (.cells #[.bool true] 4 (0, 0))) : Bls 0 w (some ⟨g, 0, none⟩) 1 1 [true] := Rw.of_block h (Nat.zero_le _) rfl (Nat.le_refl _) (by simp [maxLen]) fun j u hu => by
  match j, hu with
  | 0, hu => exact hu
theorem res_five {lo : Nat} {w : World} {d0 d1 d2 d3 d4 : DK.Dk} {A0 A1 A2 A3 A4 P0 P1 P2 P3 P4 : Option Addr} {n0 n1 n2 n3 n4 c0 c1 c2 c3 c4 m0 m1 m2 m3 m4 q0 q1 q2 q3 q4 : Nat}
    (h0 : Cls lo w A0 n0 c0 d0.cells) (k0 : Wrs lo w P0 m0 q0 d0.pend) (h1 : Cls lo w A1 n1 c1 d1.cells) (k1 : Wrs lo w P1 m1 q1 d1.pend) (h2 : Cls lo w A2 n2 c2 d2.cells) (k2 : Wrs lo w P2 m2 q2 d2.pend) (h3 : Cls lo w A3 n3 c3 d3.cells) (k3 : Wrs lo w P3 m3 q3 d3.pend) (h4 : Cls lo w A4 n4 c4 d4.cells) (k4 : Wrs lo w P4 m4 q4 d4.pend)
    (hl : (d0.cells.length ≤ 1000 ∧ d0.pend.length ≤ 1000) ∧ (d1.cells.length ≤ 1000 ∧ d1.pend.length ≤ 1000) ∧ (d2.cells.length ≤ 1000 ∧ d2.pend.length ≤ 1000) ∧ (d3.cells.length ≤ 1000 ∧ d3.pend.length ≤ 1000) ∧ (d4.cells.length ≤ 1000 ∧ d4.pend.length ≤ 1000)) :
    ResAt lo (w.alloc (.cells #[.slice A0 n0 c0, .slice P0 m0 q0, .slice A1 n1 c1, .slice P1 m1 q1, .slice A2 n2 c2, .slice P2 m2 q2, .slice A3 n3 c3, .slice P3 m3 q3, .slice A4 n4 c4, .slice P4 m4 q4] 26)) w.heap.size := by
  obtain ⟨l0, l1, l2, l3, l4⟩ := hl
  have key := res_new (lo := lo) (w := w) (d := fun i => match i with | 0 => d0 | 1 => d1 | 2 => d2 | 3 => d3 | _ => d4) (A := fun i => match i with | 0 => A0 | 1 => A1 | 2 => A2 | 3 => A3 | _ => A4) (P := fun i => match i with | 0 => P0 | 1 => P1 | 2 => P2 | 3 => P3 | _ => P4)
    (n := fun i => match i with | 0 => n0 | 1 => n1 | 2 => n2 | 3 => n3 | _ => n4) (c := fun i => match i with | 0 => c0 | 1 => c1 | 2 => c2 | 3 => c3 | _ => c4) (m := fun i => match i with | 0 => m0 | 1 => m1 | 2 => m2 | 3 => m3 | _ => m4) (q := fun i => match i with | 0 => q0 | 1 => q1 | 2 => q2 | 3 => q3 | _ => q4)
    (fun i hi => by rcases (by omega : i = 0 ∨ i = 1 ∨ i = 2 ∨ i = 3 ∨ i = 4) with rfl | rfl | rfl | rfl | rfl <;> first | exact ⟨h0, k0⟩ | exact ⟨h1, k1⟩ | exact ⟨h2, k2⟩ | exact ⟨h3, k3⟩ | exact ⟨h4, k4⟩)
    (fun i hi => by rcases (by omega : i = 0 ∨ i = 1 ∨ i = 2 ∨ i = 3 ∨ i = 4) with rfl | rfl | rfl | rfl | rfl <;> first | exact l0 | exact l1 | exact l2 | exact l3 | exact l4)
  exact key
set_option maxHeartbeats 8000000 in
set_option maxRecDepth 100000 in
theorem walk (a0 : Int) (a1 : Option Addr) (len1 cap1 : Nat) (z1 : List Int) (a2 a3 : Int) (w : World) (w0 : (Lit.int .i64 a0).wf = true) (w1 : Row .i64 w a1 len1 cap1 z1) (w2 : (Lit.int .i64 a2).wf = true) (_ : (Lit.int .i64 a3).wf = true) :
    Calls Try.prog 9 #[.int .i64 a0, .slice a1 len1 cap1, .int .i64 a2, .int .i64 a3] w fun e w' => e = .returned (.bool true) ∧ Below w.heap.size w w' := by
  have hc2 : I64 a2 := by have := bounds_i64 w2; unfold I64; omega
  have hc0 : I64 a0 := by have := bounds_i64 w0; unfold I64; omega
  obtain ⟨hz, _, _, hwf⟩ := w1.ints
  obtain ⟨zs, hzs⟩ : ∃ zs, z1.take len1 = zs := ⟨_, rfl⟩
  rw [hzs] at hz hwf
  have HZ := Lib.hid (And.intro hz (i64_of hwf))
  have HBU := Lib.hid (built_any a0 w (c := cap1) hc0 hz (i64_of hwf))
  obtain ⟨d, hd⟩ : ∃ d, DK.built a0 zs = d := ⟨_, rfl⟩
  have HD := Lib.hid (show DK.Ok d from hd ▸ DK.ok_built a0 zs)
  have HBR := Lib.hid (fun (V : World) (hV : Below w.heap.size w V) => refBuilt_any a0 V (c := cap1) hc0 ((hz.below hV).more hV.size) (i64_of hwf))
  rw [hd] at HBU HBR
  have hn16 : d.cells.length ≤ 16 := HD.out.size
  have hm4 : d.pend.length ≤ 4 := HD.out.pend
  clear w0 w1 w2 hzs hwf hz hd hc0
  obtain ⟨i1, hi1, hy0, hy1, hy2⟩ := dk_info dk_bool
  have HA := Lib.hid (fun V => around_any a2 ((d.cells.length : Int) + 1) hc2 (by omega) (by omega) V)
  obtain ⟨kk, hkk⟩ : ∃ kk, around a2 ((d.cells.length : Int) + 1) = kk := ⟨_, rfl⟩
  rw [hkk] at HA
  clear hkk hc2 hi1 hy0 hy1 hy2
  go_enter Try.func9, Try.ntmps9
  go_upto_region 2 with (first | (go_at_call 22; refine HBU.out.mono ?_; rintro e w2 ⟨⟨y, rfl, A2, n2, c2, P2, m2, q2, rfl, j1, j2⟩, hb2⟩; have HJ := Lib.hid (And.intro (show DkAt 0 w2 (.agg #[.slice A2 n2 c2, .slice P2 m2 q2]) d from ⟨A2, n2, c2, P2, m2, q2, rfl, j1.more (Nat.zero_le _), j2.more (Nat.zero_le _)⟩) (And.intro hb2 (And.intro j1.len j2.len))); clear j1 j2 hb2) | (refine dk_store rfl _ _ rfl w2.heap.size A2 n2 c2 P2 m2 q2 _ _ rfl rfl (dk_new_at rfl) ?_; intro v3 k3 ho3 hz3 hb3))
  obtain ⟨rfl, rfl⟩ := HJ.out.2.2
  have H3 := Lib.hid (And.intro k3 (And.intro (HJ.out.1.keep ((dk_box w2 _).trans hb3)) (HJ.out.2.1.trans (((dk_box w2 _).trans hb3).mono HJ.out.2.1.size))))
  clear k3 ho3 hz3 hb3 HBU
  have HBR3 := Lib.hid (HBR.out v3 H3.out.2.2)
  go_upto_region 3 with (first | (go_at_call 27; refine HBR3.out.mono ?_; rintro e w4 ⟨⟨y, rfl, A4, n4, c4, P4, m4, q4, rfl, j1, j2⟩, hb4⟩; have HJ4 := Lib.hid (And.intro (show DkAt 0 w4 (.agg #[.slice A4 n4 c4, .slice P4 m4 q4]) d from ⟨A4, n4, c4, P4, m4, q4, rfl, j1, j2⟩) hb4); clear j1 j2 hb4) | (refine dk_store rfl _ _ rfl w4.heap.size A4 n4 c4 P4 m4 q4 _ _ rfl rfl (dk_new_at rfl) ?_; intro v5 k5 ho5 hz5 hb5))
  have hb35 : Below v3.heap.size v3 v5 := HJ4.out.2.trans (((dk_box w4 _).trans hb5).mono HJ4.out.2.size)
  have H5 := Lib.hid (And.intro ((hb35.block _ (blk_lt H3.out.1)).trans H3.out.1) (And.intro (H3.out.2.1.keep hb35) (And.intro k5 (And.intro (HJ4.out.1.keep ((dk_box w4 _).trans hb5)) (H3.out.2.2.trans (hb35.mono H3.out.2.2.size))))))
  clear k5 ho5 hz5 hb5 hb35 HBR HBR3
  have HK5 := Lib.hid (fun (V : World) (hV : Below v5.heap.size v5 V) => And.intro (dk_two ((hV.block _ (blk_lt H5.out.1)).trans H5.out.1)) (dk_two ((hV.block _ (blk_lt H5.out.2.2.1)).trans H5.out.2.2.1)))
  obtain ⟨⟨d0, d1⟩, _⟩ := HK5.out v5 (Below.refl _ _)
  go_upto_region 4 with fail
  clear d0 d1
  have hw1 : IntKind.i64.wrap ((d.cells.length : Int) + 1) = (d.cells.length : Int) + 1 := IntWalk.i64_in _ (by omega)
  refine RgX.region 20 (fun i => (if i = 19 then 12 else 27 + i)) (fun ix_ => match ix_ with | 0 => .v (.agg #[.slice A2 d.cells.length c2, .slice P2 d.pend.length q2]) | 1 => .v (.int .i64 a2) | 2 => .v (.int .i64 (d.cells.length : Int)) | 3 => .v (.int .i64 ((d.cells.length : Int) + 1)) | 4 => .v (.int .i64 kk) | 5 => .v (.int .i64 a3) | 6 => .dkv v5.heap.size (DK.write d kk a3) | 7 => .v (.agg #[.slice A2 d.cells.length c2, .slice P2 d.pend.length q2]) | 8 => .dkv v5.heap.size (DK.sync d) | 9 => .v (.agg #[.slice A2 d.cells.length c2, .slice P2 d.pend.length q2]) | 10 => .row #[.bool true] 4 1 | 11 => .dkv v5.heap.size (DK.crash d [true]) | 12 => .v (.agg #[.slice A2 d.cells.length c2, .slice P2 d.pend.length q2]) | 13 => .v (.int .i64 (d.cells.length : Int)) | 14 => .dkv v5.heap.size (DK.sync d) | 15 => .v (.agg #[.slice A2 d.cells.length c2, .slice P2 d.pend.length q2]) | 16 => .v (.int .i64 a3) | 17 => .dkv v5.heap.size (DK.write d (-1) a3) | 18 => .res v5.heap.size | 19 => .res v5.heap.size | _ => .any) (by kernel_rfl) rfl (by kernel_rfl)  (fun i hi => by show (if i = 19 then 12 else 27 + i) < 103; (repeat' split) <;> omega) (fun i j hi hj => by show (if i = 19 then 12 else 27 + i) = (if j = 19 then 12 else 27 + j) → i = j; (repeat' split) <;> omega) ?step ?fin
  case step =>
    intro L_ A_ w3 ix op_ hI ho hdep
    have hi : ix < 20 := (Array.getElem?_eq_some_iff.1 ho).1
    have hcase : ix = 0 ∨ ix = 1 ∨ ix = 2 ∨ ix = 3 ∨ ix = 4 ∨ ix = 5 ∨ ix = 6 ∨ ix = 7 ∨ ix = 8 ∨ ix = 9 ∨ ix = 10 ∨ ix = 11 ∨ ix = 12 ∨ ix = 13 ∨ ix = 14 ∨ ix = 15 ∨ ix = 16 ∨ ix = 17 ∨ ix = 18 ∨ ix = 19 := by omega
    have hh := hI.held
    clear hi
    rcases hcase with rfl | rfl | rfl | rfl | rfl | rfl | rfl | rfl | rfl | rfl | rfl | rfl | rfl | rfl | rfl | rfl | rfl | rfl | rfl | rfl
    · simp only [List.getElem?_toArray, List.getElem?_cons_zero, Option.some.injEq] at ho
      subst ho
      refine ⟨rfl, ?_⟩
      have e9 : A_.tmps[9]?.getD undef = .pointer (some ⟨w2.heap.size, 0, none⟩) := by rw [hI.low 9 (by decide)]; rfl
      clear hI hdep
      obtain ⟨⟨d0, d1⟩, _⟩ := HK5.out w3 hh
      exact .run rfl (.agg #[.slice A2 d.cells.length c2, .slice P2 d.pend.length q2]) w3 (by simp [execOp, go_sem, Act.eval, *]) (Below.refl _ _) rfl
    · simp only [List.getElem?_toArray, List.getElem?_cons_succ, List.getElem?_cons_zero, Option.some.injEq] at ho
      subst ho
      refine ⟨rfl, ?_⟩
      have e2 : A_.tmps[2]?.getD undef = .int .i64 a2 := by rw [hI.low 2 (by decide)]; rfl
      clear hI hdep
      exact .run rfl (.int .i64 a2) w3 (by simp [execOp, go_sem, Act.eval, e2]) (Below.refl _ _) rfl
    · simp only [List.getElem?_toArray, List.getElem?_cons_succ, List.getElem?_cons_zero, Option.some.injEq] at ho
      subst ho
      refine ⟨rfl, ?_⟩
      have e11 : A_.tmps[11]?.getD undef = .int .i64 (d.cells.length : Int) := by rw [hI.low 11 (by decide)]; rfl
      clear hI hdep
      exact .run rfl (.int .i64 (d.cells.length : Int)) w3 (by simp [execOp, go_sem, Act.eval, e11]) (Below.refl _ _) rfl
    · simp only [List.getElem?_toArray, List.getElem?_cons_succ, List.getElem?_cons_zero, Option.some.injEq] at ho
      subst ho
      refine ⟨rfl, ?_⟩
      have e29 : A_.tmps[29]?.getD undef = .int .i64 (d.cells.length : Int) := getD_of (hI.val_ (i := 2) rfl rfl (by decide) (hdep ⟨2, .data⟩ (by simp) rfl))
      clear hI hdep
      exact .run rfl (.int .i64 ((d.cells.length : Int) + 1)) w3 (by simp [execOp, go_sem, Act.eval, e29, hw1]) (Below.refl _ _) rfl
    · simp only [List.getElem?_toArray, List.getElem?_cons_succ, List.getElem?_cons_zero, Option.some.injEq] at ho
      subst ho
      refine ⟨rfl, ?_⟩
      have e28 : A_.tmps[28]?.getD undef = .int .i64 a2 := getD_of (hI.val_ (i := 1) rfl rfl (by decide) (hdep ⟨1, .data⟩ (by simp) rfl))
      have e30 : A_.tmps[30]?.getD undef = .int .i64 ((d.cells.length : Int) + 1) := getD_of (hI.val_ (i := 3) rfl rfl (by decide) (hdep ⟨3, .data⟩ (by simp) rfl))
      clear hI hdep
      exact .call rfl 11 #[.int .i64 a2, .int .i64 ((d.cells.length : Int) + 1)] (by simp [go_sem, Act.eval, e28, e30]) (((around_below (HA.out w3))).mono fun _ _ ⟨h1_, h2_⟩ => ⟨⟨_, h1_, rfl⟩, h2_⟩)
    · simp only [List.getElem?_toArray, List.getElem?_cons_succ, List.getElem?_cons_zero, Option.some.injEq] at ho
      subst ho
      refine ⟨rfl, ?_⟩
      have e3 : A_.tmps[3]?.getD undef = .int .i64 a3 := by rw [hI.low 3 (by decide)]; rfl
      clear hI hdep
      exact .run rfl (.int .i64 a3) w3 (by simp [execOp, go_sem, Act.eval, e3]) (Below.refl _ _) rfl
    · simp only [List.getElem?_toArray, List.getElem?_cons_succ, List.getElem?_cons_zero, Option.some.injEq] at ho
      subst ho
      refine ⟨rfl, ?_⟩
      have e27 : A_.tmps[27]?.getD undef = .agg #[.slice A2 d.cells.length c2, .slice P2 d.pend.length q2] := getD_of (hI.val_ (i := 0) rfl rfl (by decide) (hdep ⟨0, .data⟩ (by simp) rfl))
      have e31 : A_.tmps[31]?.getD undef = .int .i64 kk := getD_of (hI.val_ (i := 4) rfl rfl (by decide) (hdep ⟨4, .data⟩ (by simp) rfl))
      have e32 : A_.tmps[32]?.getD undef = .int .i64 a3 := getD_of (hI.val_ (i := 5) rfl rfl (by decide) (hdep ⟨5, .data⟩ (by simp) rfl))
      clear hI hdep
      exact .call rfl 23 #[.agg #[.slice A2 d.cells.length c2, .slice P2 d.pend.length q2], .int .i64 kk, .int .i64 a3] (by simp [go_sem, Act.eval, e27, e31, e32]) (RgX.dkv_calls (write_any kk a3 w3 (H5.out.2.1.keep hh) (by omega) (by omega)) hh.size)
    · simp only [List.getElem?_toArray, List.getElem?_cons_succ, List.getElem?_cons_zero, Option.some.injEq] at ho
      subst ho
      refine ⟨rfl, ?_⟩
      have e9 : A_.tmps[9]?.getD undef = .pointer (some ⟨w2.heap.size, 0, none⟩) := by rw [hI.low 9 (by decide)]; rfl
      clear hI hdep
      obtain ⟨⟨d0, d1⟩, _⟩ := HK5.out w3 hh
      exact .run rfl (.agg #[.slice A2 d.cells.length c2, .slice P2 d.pend.length q2]) w3 (by simp [execOp, go_sem, Act.eval, *]) (Below.refl _ _) rfl
    · simp only [List.getElem?_toArray, List.getElem?_cons_succ, List.getElem?_cons_zero, Option.some.injEq] at ho
      subst ho
      refine ⟨rfl, ?_⟩
      have e34 : A_.tmps[34]?.getD undef = .agg #[.slice A2 d.cells.length c2, .slice P2 d.pend.length q2] := getD_of (hI.val_ (i := 7) rfl rfl (by decide) (hdep ⟨7, .data⟩ (by simp) rfl))
      clear hI hdep
      exact .call rfl 24 #[.agg #[.slice A2 d.cells.length c2, .slice P2 d.pend.length q2]] (by simp [go_sem, Act.eval, e34]) (RgX.dkv_calls (sync_any w3 (H5.out.2.1.keep hh) (by omega) (by omega)) hh.size)
    · simp only [List.getElem?_toArray, List.getElem?_cons_succ, List.getElem?_cons_zero, Option.some.injEq] at ho
      subst ho
      refine ⟨rfl, ?_⟩
      have e9 : A_.tmps[9]?.getD undef = .pointer (some ⟨w2.heap.size, 0, none⟩) := by rw [hI.low 9 (by decide)]; rfl
      clear hI hdep
      obtain ⟨⟨d0, d1⟩, _⟩ := HK5.out w3 hh
      exact .run rfl (.agg #[.slice A2 d.cells.length c2, .slice P2 d.pend.length q2]) w3 (by simp [execOp, go_sem, Act.eval, *]) (Below.refl _ _) rfl
    · simp only [List.getElem?_toArray, List.getElem?_cons_succ, List.getElem?_cons_zero, Option.some.injEq] at ho
      subst ho
      refine ⟨rfl, ?_⟩
      clear hI hdep
      exact .run rfl (.slice (some ⟨w3.heap.size, 0, none⟩) 1 1) (w3.alloc (.cells #[.bool true] 4)) (by simp [execOp, go_sem, Act.eval]) ((Below.refl _ _).alloc (Nat.le_refl _) _) (RgX.row_new _ _ _ _)
    · simp only [List.getElem?_toArray, List.getElem?_cons_succ, List.getElem?_cons_zero, Option.some.injEq] at ho
      subst ho
      refine ⟨rfl, ?_⟩
      have e36 : A_.tmps[36]?.getD undef = .agg #[.slice A2 d.cells.length c2, .slice P2 d.pend.length q2] := getD_of (hI.val_ (i := 9) rfl rfl (by decide) (hdep ⟨9, .data⟩ (by simp) rfl))
      obtain ⟨_, e37, g37, rfl, r37⟩ := hI.get_ (i := 10) (j := 37) rfl rfl (by decide) (hdep ⟨10, .data⟩ (by simp) rfl)
      clear hI hdep
      exact .call rfl 25 #[.agg #[.slice A2 d.cells.length c2, .slice P2 d.pend.length q2], .slice (some ⟨g37, 0, none⟩) 1 1] (by simp [go_sem, Act.eval, e36, e37]) (RgX.dkv_calls (crash_any w3 (H5.out.2.1.keep hh) (bls_one r37) (by omega) (by omega) (by omega)) hh.size)
    · simp only [List.getElem?_toArray, List.getElem?_cons_succ, List.getElem?_cons_zero, Option.some.injEq] at ho
      subst ho
      refine ⟨rfl, ?_⟩
      have e9 : A_.tmps[9]?.getD undef = .pointer (some ⟨w2.heap.size, 0, none⟩) := by rw [hI.low 9 (by decide)]; rfl
      clear hI hdep
      obtain ⟨⟨d0, d1⟩, _⟩ := HK5.out w3 hh
      exact .run rfl (.agg #[.slice A2 d.cells.length c2, .slice P2 d.pend.length q2]) w3 (by simp [execOp, go_sem, Act.eval, *]) (Below.refl _ _) rfl
    · simp only [List.getElem?_toArray, List.getElem?_cons_succ, List.getElem?_cons_zero, Option.some.injEq] at ho
      subst ho
      refine ⟨rfl, ?_⟩
      have e11 : A_.tmps[11]?.getD undef = .int .i64 (d.cells.length : Int) := by rw [hI.low 11 (by decide)]; rfl
      clear hI hdep
      exact .run rfl (.int .i64 (d.cells.length : Int)) w3 (by simp [execOp, go_sem, Act.eval, e11]) (Below.refl _ _) rfl
    · simp only [List.getElem?_toArray, List.getElem?_cons_succ, List.getElem?_cons_zero, Option.some.injEq] at ho
      subst ho
      refine ⟨rfl, ?_⟩
      have e39 : A_.tmps[39]?.getD undef = .agg #[.slice A2 d.cells.length c2, .slice P2 d.pend.length q2] := getD_of (hI.val_ (i := 12) rfl rfl (by decide) (hdep ⟨12, .data⟩ (by simp) rfl))
      have e40 : A_.tmps[40]?.getD undef = .int .i64 (d.cells.length : Int) := getD_of (hI.val_ (i := 13) rfl rfl (by decide) (hdep ⟨13, .data⟩ (by simp) rfl))
      clear hI hdep
      exact .call rfl 26 #[.agg #[.slice A2 d.cells.length c2, .slice P2 d.pend.length q2], .int .i64 (d.cells.length : Int)] (by simp [go_sem, Act.eval, e39, e40]) (RgX.dkv_calls (resize_len hn16 w3 (H5.out.2.1.keep hh) HD.out) hh.size)
    · simp only [List.getElem?_toArray, List.getElem?_cons_succ, List.getElem?_cons_zero, Option.some.injEq] at ho
      subst ho
      refine ⟨rfl, ?_⟩
      have e9 : A_.tmps[9]?.getD undef = .pointer (some ⟨w2.heap.size, 0, none⟩) := by rw [hI.low 9 (by decide)]; rfl
      clear hI hdep
      obtain ⟨⟨d0, d1⟩, _⟩ := HK5.out w3 hh
      exact .run rfl (.agg #[.slice A2 d.cells.length c2, .slice P2 d.pend.length q2]) w3 (by simp [execOp, go_sem, Act.eval, *]) (Below.refl _ _) rfl
    · simp only [List.getElem?_toArray, List.getElem?_cons_succ, List.getElem?_cons_zero, Option.some.injEq] at ho
      subst ho
      refine ⟨rfl, ?_⟩
      have e3 : A_.tmps[3]?.getD undef = .int .i64 a3 := by rw [hI.low 3 (by decide)]; rfl
      clear hI hdep
      exact .run rfl (.int .i64 a3) w3 (by simp [execOp, go_sem, Act.eval, e3]) (Below.refl _ _) rfl
    · simp only [List.getElem?_toArray, List.getElem?_cons_succ, List.getElem?_cons_zero, Option.some.injEq] at ho
      subst ho
      refine ⟨rfl, ?_⟩
      have e42 : A_.tmps[42]?.getD undef = .agg #[.slice A2 d.cells.length c2, .slice P2 d.pend.length q2] := getD_of (hI.val_ (i := 15) rfl rfl (by decide) (hdep ⟨15, .data⟩ (by simp) rfl))
      have e43 : A_.tmps[43]?.getD undef = .int .i64 a3 := getD_of (hI.val_ (i := 16) rfl rfl (by decide) (hdep ⟨16, .data⟩ (by simp) rfl))
      clear hI hdep
      exact .call rfl 23 #[.agg #[.slice A2 d.cells.length c2, .slice P2 d.pend.length q2], .int IntKind.i64 (-1), .int .i64 a3] (by simp [go_sem, Act.eval, e42, e43]) (RgX.dkv_calls (write_any (-1) a3 w3 (H5.out.2.1.keep hh) (by omega) (by omega)) hh.size)
    · simp only [List.getElem?_toArray, List.getElem?_cons_succ, List.getElem?_cons_zero, Option.some.injEq] at ho
      subst ho
      refine ⟨rfl, ?_⟩
      obtain ⟨_, e33, A33, n33, c33, P33, m33, q33, rfl, h33, k33⟩ := hI.get_ (i := 6) (j := 33) rfl rfl (by decide) (hdep ⟨6, .data⟩ (by simp) rfl)
      obtain ⟨_, e35, A35, n35, c35, P35, m35, q35, rfl, h35, k35⟩ := hI.get_ (i := 8) (j := 35) rfl rfl (by decide) (hdep ⟨8, .data⟩ (by simp) rfl)
      obtain ⟨_, e38, A38, n38, c38, P38, m38, q38, rfl, h38, k38⟩ := hI.get_ (i := 11) (j := 38) rfl rfl (by decide) (hdep ⟨11, .data⟩ (by simp) rfl)
      obtain ⟨_, e41, A41, n41, c41, P41, m41, q41, rfl, h41, k41⟩ := hI.get_ (i := 14) (j := 41) rfl rfl (by decide) (hdep ⟨14, .data⟩ (by simp) rfl)
      obtain ⟨_, e44, A44, n44, c44, P44, m44, q44, rfl, h44, k44⟩ := hI.get_ (i := 17) (j := 44) rfl rfl (by decide) (hdep ⟨17, .data⟩ (by simp) rfl)
      clear hI hdep
      exact .run rfl (.slice (some ⟨w3.heap.size, 0, none⟩) 5 5) (w3.alloc (.cells #[.slice A33 n33 c33, .slice P33 m33 q33, .slice A35 n35 c35, .slice P35 m35 q35, .slice A38 n38 c38, .slice P38 m38 q38, .slice A41 n41 c41, .slice P41 m41 q41, .slice A44 n44 c44, .slice P44 m44 q44] 26)) (by simp [execOp, go_sem, Act.eval, e33, e35, e38, e41, e44]) ((Below.refl _ _).alloc (Nat.le_refl _) _) ⟨_, rfl, res_five h33 k33 h35 k35 h38 k38 h41 k41 h44 k44 (by refine ⟨?_, ?_, ?_, ?_, ?_⟩ <;> refine ⟨?_, ?_⟩ <;> first | (rw [DK.write_len]; omega) | (have := (DK.ok_write kk a3 HD.out).pend; omega) | (have := (DK.ok_write (-1) a3 HD.out).pend; omega) | (have := (DK.ok_sync HD.out).size; omega) | (have := (DK.ok_sync HD.out).pend; omega) | (have := (DK.ok_crash [true] HD.out).size; omega) | (have := (DK.ok_crash [true] HD.out).pend; omega))⟩
    · simp only [List.getElem?_toArray, List.getElem?_cons_succ, List.getElem?_cons_zero, Option.some.injEq] at ho
      subst ho
      refine ⟨rfl, ?_⟩
      obtain ⟨y45, e45, h45⟩ := hI.get_ (i := 18) (j := 45) rfl rfl (by decide) (hdep ⟨18, .data⟩ (by simp) rfl)
      clear hI hdep
      exact .run rfl y45 w3 (by simp [execOp, go_sem, Act.eval, e45]) (Below.refl _ _) h45
  case fin =>
  intro A_ w3 hs hd hlow hS hok
  obtain ⟨_, hy12, g12, rfl, h12⟩ := hok 19 12 _ (by decide) rfl rfl
  obtain ⟨_, hy33, A33, n33, c33, P33, m33, q33, rfl, h33, k33⟩ := hok 6 33 _ (by decide) rfl rfl
  obtain ⟨_, hy35, A35, n35, c35, P35, m35, q35, rfl, h35, k35⟩ := hok 8 35 _ (by decide) rfl rfl
  obtain ⟨_, hy37, g37, rfl, r37⟩ := hok 10 37 _ (by decide) rfl rfl
  obtain ⟨_, hy38, A38, n38, c38, P38, m38, q38, rfl, h38, k38⟩ := hok 11 38 _ (by decide) rfl rfl
  obtain ⟨_, hy41, A41, n41, c41, P41, m41, q41, rfl, h41, k41⟩ := hok 14 41 _ (by decide) rfl rfl
  obtain ⟨_, hy44, A44, n44, c44, P44, m44, q44, rfl, h44, k44⟩ := hok 17 44 _ (by decide) rfl rfl
  obtain ⟨_, hy45, g45, rfl, h45⟩ := hok 18 45 _ (by decide) rfl rfl
  obtain rfl : A_ = ⟨#[.int .i64 a0, .slice a1 len1 cap1, .int .i64 a2, .int .i64 a3, undef, undef, undef, undef, .bool false, .pointer (some ⟨w2.heap.size, 0, none⟩), .pointer (some ⟨w4.heap.size, 0, none⟩), .int .i64 (d.cells.length : Int), .slice (some ⟨g12, 0, none⟩) 5 5, undef, undef, undef, undef, undef, .int .i64 a0, .slice a1 len1 cap1, .agg #[.slice A2 d.cells.length c2, .slice P2 d.pend.length q2], .int .i64 a0, .slice a1 len1 cap1, .agg #[.slice A4 n4 c4, .slice P4 m4 q4], .pointer (some ⟨w2.heap.size, 0, none⟩), .slice A2 d.cells.length c2, .int .i64 (d.cells.length : Int), .agg #[.slice A2 d.cells.length c2, .slice P2 d.pend.length q2], .int .i64 a2, .int .i64 (d.cells.length : Int), .int .i64 ((d.cells.length : Int) + 1), .int .i64 kk, .int .i64 a3, .agg #[.slice A33 n33 c33, .slice P33 m33 q33], .agg #[.slice A2 d.cells.length c2, .slice P2 d.pend.length q2], .agg #[.slice A35 n35 c35, .slice P35 m35 q35], .agg #[.slice A2 d.cells.length c2, .slice P2 d.pend.length q2], .slice (some ⟨g37, 0, none⟩) 1 1, .agg #[.slice A38 n38 c38, .slice P38 m38 q38], .agg #[.slice A2 d.cells.length c2, .slice P2 d.pend.length q2], .int .i64 (d.cells.length : Int), .agg #[.slice A41 n41 c41, .slice P41 m41 q41], .agg #[.slice A2 d.cells.length c2, .slice P2 d.pend.length q2], .int .i64 a3, .agg #[.slice A44 n44 c44, .slice P44 m44 q44], .slice (some ⟨g45, 0, none⟩) 5 5, undef, undef, undef, undef, undef, undef, undef, undef, undef, undef, undef, undef, undef, undef, undef, undef, undef, undef, undef, undef, undef, undef, undef, undef, undef, undef, undef, undef, undef, undef, undef, undef, undef, undef, undef, undef, undef, undef, undef, undef, undef, undef, undef, undef, undef, undef, undef, undef, undef, undef, undef, undef, undef, undef, undef, undef, undef], []⟩ := act_ext hd hs (fun j hj => match j, hj with | 0, _ => (hlow 0 (by decide)).trans rfl | 1, _ => (hlow 1 (by decide)).trans rfl | 2, _ => (hlow 2 (by decide)).trans rfl | 3, _ => (hlow 3 (by decide)).trans rfl | 4, _ => (hlow 4 (by decide)).trans rfl | 5, _ => (hlow 5 (by decide)).trans rfl | 6, _ => (hlow 6 (by decide)).trans rfl | 7, _ => (hlow 7 (by decide)).trans rfl | 8, _ => (hlow 8 (by decide)).trans rfl | 9, _ => (hlow 9 (by decide)).trans rfl | 10, _ => (hlow 10 (by decide)).trans rfl | 11, _ => (hlow 11 (by decide)).trans rfl | 12, _ => hy12 | 13, _ => (hlow 13 (by decide)).trans rfl | 14, _ => (hlow 14 (by decide)).trans rfl | 15, _ => (hlow 15 (by decide)).trans rfl | 16, _ => (hlow 16 (by decide)).trans rfl | 17, _ => (hlow 17 (by decide)).trans rfl | 18, _ => (hlow 18 (by decide)).trans rfl | 19, _ => (hlow 19 (by decide)).trans rfl | 20, _ => (hlow 20 (by decide)).trans rfl | 21, _ => (hlow 21 (by decide)).trans rfl | 22, _ => (hlow 22 (by decide)).trans rfl | 23, _ => (hlow 23 (by decide)).trans rfl | 24, _ => (hlow 24 (by decide)).trans rfl | 25, _ => (hlow 25 (by decide)).trans rfl | 26, _ => (hlow 26 (by decide)).trans rfl | 27, _ => RgX.val_at (hok 0 27 _ (by decide) rfl rfl) | 28, _ => RgX.val_at (hok 1 28 _ (by decide) rfl rfl) | 29, _ => RgX.val_at (hok 2 29 _ (by decide) rfl rfl) | 30, _ => RgX.val_at (hok 3 30 _ (by decide) rfl rfl) | 31, _ => RgX.val_at (hok 4 31 _ (by decide) rfl rfl) | 32, _ => RgX.val_at (hok 5 32 _ (by decide) rfl rfl) | 33, _ => hy33 | 34, _ => RgX.val_at (hok 7 34 _ (by decide) rfl rfl) | 35, _ => hy35 | 36, _ => RgX.val_at (hok 9 36 _ (by decide) rfl rfl) | 37, _ => hy37 | 38, _ => hy38 | 39, _ => RgX.val_at (hok 12 39 _ (by decide) rfl rfl) | 40, _ => RgX.val_at (hok 13 40 _ (by decide) rfl rfl) | 41, _ => hy41 | 42, _ => RgX.val_at (hok 15 42 _ (by decide) rfl rfl) | 43, _ => RgX.val_at (hok 16 43 _ (by decide) rfl rfl) | 44, _ => hy44 | 45, _ => hy45 | 46, _ => (hlow 46 (by decide)).trans rfl | 47, _ => (hlow 47 (by decide)).trans rfl | 48, _ => (hlow 48 (by decide)).trans rfl | 49, _ => (hlow 49 (by decide)).trans rfl | 50, _ => (hlow 50 (by decide)).trans rfl | 51, _ => (hlow 51 (by decide)).trans rfl | 52, _ => (hlow 52 (by decide)).trans rfl | 53, _ => (hlow 53 (by decide)).trans rfl | 54, _ => (hlow 54 (by decide)).trans rfl | 55, _ => (hlow 55 (by decide)).trans rfl | 56, _ => (hlow 56 (by decide)).trans rfl | 57, _ => (hlow 57 (by decide)).trans rfl | 58, _ => (hlow 58 (by decide)).trans rfl | 59, _ => (hlow 59 (by decide)).trans rfl | 60, _ => (hlow 60 (by decide)).trans rfl | 61, _ => (hlow 61 (by decide)).trans rfl | 62, _ => (hlow 62 (by decide)).trans rfl | 63, _ => (hlow 63 (by decide)).trans rfl | 64, _ => (hlow 64 (by decide)).trans rfl | 65, _ => (hlow 65 (by decide)).trans rfl | 66, _ => (hlow 66 (by decide)).trans rfl | 67, _ => (hlow 67 (by decide)).trans rfl | 68, _ => (hlow 68 (by decide)).trans rfl | 69, _ => (hlow 69 (by decide)).trans rfl | 70, _ => (hlow 70 (by decide)).trans rfl | 71, _ => (hlow 71 (by decide)).trans rfl | 72, _ => (hlow 72 (by decide)).trans rfl | 73, _ => (hlow 73 (by decide)).trans rfl | 74, _ => (hlow 74 (by decide)).trans rfl | 75, _ => (hlow 75 (by decide)).trans rfl | 76, _ => (hlow 76 (by decide)).trans rfl | 77, _ => (hlow 77 (by decide)).trans rfl | 78, _ => (hlow 78 (by decide)).trans rfl | 79, _ => (hlow 79 (by decide)).trans rfl | 80, _ => (hlow 80 (by decide)).trans rfl | 81, _ => (hlow 81 (by decide)).trans rfl | 82, _ => (hlow 82 (by decide)).trans rfl | 83, _ => (hlow 83 (by decide)).trans rfl | 84, _ => (hlow 84 (by decide)).trans rfl | 85, _ => (hlow 85 (by decide)).trans rfl | 86, _ => (hlow 86 (by decide)).trans rfl | 87, _ => (hlow 87 (by decide)).trans rfl | 88, _ => (hlow 88 (by decide)).trans rfl | 89, _ => (hlow 89 (by decide)).trans rfl | 90, _ => (hlow 90 (by decide)).trans rfl | 91, _ => (hlow 91 (by decide)).trans rfl | 92, _ => (hlow 92 (by decide)).trans rfl | 93, _ => (hlow 93 (by decide)).trans rfl | 94, _ => (hlow 94 (by decide)).trans rfl | 95, _ => (hlow 95 (by decide)).trans rfl | 96, _ => (hlow 96 (by decide)).trans rfl | 97, _ => (hlow 97 (by decide)).trans rfl | 98, _ => (hlow 98 (by decide)).trans rfl | 99, _ => (hlow 99 (by decide)).trans rfl | 100, _ => (hlow 100 (by decide)).trans rfl | 101, _ => (hlow 101 (by decide)).trans rfl | 102, _ => (hlow 102 (by decide)).trans rfl | n + 103, h => absurd h (by show ¬ n + 103 < 103; omega))
  clear hs hd hlow hok hy12 hy33 hy35 hy37 hy38 hy41 hy44 hy45
  have H6 := Lib.hid (And.intro h12 hS)
  obtain ⟨v6, hv6⟩ : ∃ W, W = w3 := ⟨_, rfl⟩
  subst hv6
  clear h33 k33 h35 k35 h38 k38 h41 k41 h44 k44 h45 h12 hS hw1 HA
  clear r37
  go_wp2_with fail
  go_loopw [13] (fun i V => ∃ i0 : Nat, i0 ≤ 5 ∧ i = .int .i64 (i0 : Int) ∧ Hid (Tw v6 V) ∧ Hid (Below v5.heap.size v5 V)) (fun i _ => 5 - (intOf i).toNat)
  case atStart => exact ⟨0, by omega, rfl, Tw.refl _, H6.out.2⟩
  case round =>
    obtain ⟨i, hi, rfl, HT0, HB0⟩ := hrel
    by_cases hin : i < 5
    · have di : decide (i < 5) = true := decide_eq_true hin
      have di2 : decide ((i : Int) < 5) = true := decide_eq_true (by omega)
      obtain ⟨C, hgC, hC⟩ := H6.out.1.tw HT0.out
      obtain ⟨A, n, c, P, m, q, e1, e2, hn, hm, hA, hP⟩ := hC i hin
      have HCI := Lib.hid (fun (V : World) (hV : Tw wr V) => show V.cell? ⟨g12, i * 2, none⟩ = some (.slice A n c) ∧ V.cell? ⟨g12, i * 2 + 1, none⟩ = some (.slice P m q) from by
        obtain ⟨C', h1, _, h3⟩ := hV g12 C _ hgC
        rw [h3 rfl] at h1
        exact ⟨(cell_of_row V g12 _ _ _ (0, 0) h1).trans e1, (cell_of_row V g12 _ _ _ (0, 0) h1).trans e2⟩)
      have HIS := Lib.hid (And.intro hA hP)
      clear hgC hC e1 e2 hA hP
      obtain ⟨wo, hwo⟩ : ∃ W, W = wr := ⟨_, rfl⟩
      subst hwo
      go_wp2_with fail
      go_loopw [14] (fun k V => ∃ j : Nat, j ≤ n ∧ k = .int .i64 (j : Int) ∧ Hid (Tw wo V) ∧ Hid (Below v5.heap.size v5 V)) (fun k _ => n - (intOf k).toNat)
      case atStart => exact ⟨0, by omega, rfl, Tw.refl _, HB0.out⟩
      case round =>
        obtain ⟨j, hj, rfl, HT, HB⟩ := hrel
        obtain ⟨d0, d1⟩ := HCI.out wr HT.out
        by_cases hjn : j < n
        · have dj : decide (j < n) = true := decide_eq_true hjn
          obtain ⟨gA, oA, C1, eA, hlA, hgA, hcA⟩ := (HIS.out.1.tw HT.out).resolve_left (by omega)
          subst eA
          have hroom : oA + j + 1 ≤ C1.size := by
            obtain ⟨v, hv⟩ := hcA (j * 1 + (1 - 1)) (by omega)
            have := (Array.getElem?_eq_some_iff.1 hv).1
            omega
          have HG := Lib.hid (And.intro hlA (And.intro hgA hroom))
          clear hlA hgA hcA hroom
          go_wp2_with (refine RgX.wpList_store_seg rfl 3 _ _ rfl gA (oA + j) (.int .i64 99) rfl rfl 3 C1 HG.out.2.1 dk_sz_int HG.out.2.2 (by simp [Value.cells, Value.oneCell']) _ rfl ?_; intro V2 k2 ho2 hz2 hb2)
          go_roundw
          case rel => exact ⟨j + 1, by omega, by go_num, HT.out.trans (Tw.of_store HG.out.2.1 (by decide) (oneInt 99) HG.out.2.2 k2 ho2), HB.out.trans (hb2.mono HG.out.1)⟩
          case measure => simp [intOf]; omega
        · have dj : decide (j < n) = false := decide_eq_false hjn
          obtain ⟨w1o, hw1o⟩ : ∃ W, W = wr := ⟨_, rfl⟩
          subst hw1o
          have HT1 := Lib.hid HT.out
          have HB1 := Lib.hid HB.out
          clear HT HB
          go_wp2_with fail
          clear d0 d1
          go_loopw [15] (fun k V => ∃ j : Nat, j ≤ m ∧ k = .int .i64 (j : Int) ∧ Hid (Tw wo V) ∧ Hid (Below v5.heap.size v5 V)) (fun k _ => m - (intOf k).toNat)
          case atStart => exact ⟨0, by omega, rfl, HT1.out, HB1.out⟩
          case round =>
            obtain ⟨j, hj, rfl, HT, HB⟩ := hrel
            obtain ⟨d0, d1⟩ := HCI.out wr HT.out
            by_cases hjm : j < m
            · have dj : decide (j < m) = true := decide_eq_true hjm
              obtain ⟨gA, oA, C1, eA, hlA, hgA, hcA⟩ := (HIS.out.2.tw HT.out).resolve_left (by omega)
              subst eA
              have hroom : oA + j * 2 + 2 ≤ C1.size := by
                obtain ⟨v, hv⟩ := hcA (j * 2 + (2 - 1)) (by omega)
                have := (Array.getElem?_eq_some_iff.1 hv).1
                omega
              have HG := Lib.hid (And.intro hlA (And.intro hgA hroom))
              clear hlA hgA hcA hroom
              go_wp2_with (refine RgX.wpList_store_seg rfl 46 _ _ rfl gA (oA + j * 2) (.agg #[.int .i64 0, .int .i64 98]) rfl rfl 46 C1 HG.out.2.1 dk_sz_wr HG.out.2.2 (by simp [Value.cells, Value.oneCell']) _ rfl ?_; intro V2 k2 ho2 hz2 hb2)
              go_roundw
              case rel => exact ⟨j + 1, by omega, by go_num, HT.out.trans (Tw.of_store HG.out.2.1 (by decide) (twoInts 0 98) HG.out.2.2 k2 ho2), HB.out.trans (hb2.mono HG.out.1)⟩
              case measure => simp [intOf]; omega
            · have dj : decide (j < m) = false := decide_eq_false hjm
              obtain ⟨⟨e0, e1⟩, e2, e3⟩ := HK5.out wr HB.out
              have HVW := Lib.hid (view_any wr (H5.out.2.1.keep HB.out) (by omega) (by omega))
              have HT2 := Lib.hid (HT0.out.trans HT.out)
              have HB2 := Lib.hid HB.out
              obtain ⟨w2o, hw2o⟩ : ∃ W, W = wr := ⟨_, rfl⟩
              subst hw2o
              clear HT HB
              go_wp2_with (go_at_call 19; refine HVW.out.mono ?_; rintro e w7 ⟨⟨gV, rfl, lV, kV⟩, hb7⟩)
              have HV := Lib.hid (show IsI 3 1 v5.heap.size w7 (some ⟨gV, 0, none⟩) d.cells.length from Cls.isI (Cls.of_block kV (by have := HB2.out.size; omega) (DK.view_len d) (by omega)))
              have HT7 := Lib.hid (HT2.out.trans (Tw.of_below hb7))
              have HB7 := Lib.hid (HB2.out.trans (hb7.mono HB2.out.size))
              clear e0 e1 e2 e3 lV kV hb7 HVW d0 d1
              go_loopw [17] (fun k V => ∃ j : Nat, j ≤ d.cells.length ∧ k = .int .i64 (j : Int) ∧ Hid (Tw w7 V) ∧ Hid (Below v5.heap.size v5 V)) (fun k _ => d.cells.length - (intOf k).toNat)
              case atStart => exact ⟨0, by omega, rfl, Tw.refl _, HB7.out⟩
              case round =>
                obtain ⟨j, hj, rfl, HT, HB⟩ := hrel
                by_cases hjv : j < d.cells.length
                · have dj : decide (j < d.cells.length) = true := decide_eq_true hjv
                  obtain ⟨gA, oA, C1, eA, hlA, hgA, hcA⟩ := (HV.out.tw HT.out).resolve_left (by omega)
                  injection eA with eA
                  injection eA with eA1 eA2
                  subst eA1
                  subst eA2
                  have hroom : j + 1 ≤ C1.size := by
                    obtain ⟨v, hv⟩ := hcA (j * 1 + (1 - 1)) (by omega)
                    have := (Array.getElem?_eq_some_iff.1 hv).1
                    omega
                  have HG := Lib.hid (And.intro hlA (And.intro hgA hroom))
                  clear hlA hgA hcA hroom
                  go_wp2_with (refine RgX.wpList_store_seg rfl 3 _ _ rfl gV j (.int .i64 97) rfl rfl 3 C1 HG.out.2.1 dk_sz_int HG.out.2.2 (by simp [Value.cells, Value.oneCell']) _ rfl ?_; intro V2 k2 ho2 hz2 hb2)
                  go_roundw
                  case rel => exact ⟨j + 1, by omega, by go_num, HT.out.trans (Tw.of_store HG.out.2.1 (by decide) (oneInt 97) HG.out.2.2 k2 ho2), HB.out.trans (hb2.mono HG.out.1)⟩
                  case measure => simp [intOf]; omega
                · have dj : decide (j < d.cells.length) = false := decide_eq_false hjv
                  obtain ⟨⟨e0, e1⟩, e2, e3⟩ := HK5.out wr HB.out
                  have HSM := Lib.hid (same_true wr (H5.out.2.1.keep HB.out) (H5.out.2.2.2.1.keep HB.out) HD.out)
                  have HT8 := Lib.hid (HT7.out.trans HT.out)
                  go_wp2_with (go_at_call 17; refine HSM.out.mono ?_; rintro e w9 ⟨rfl, hb9⟩)
                  go_roundw
                  case rel => exact ⟨i + 1, by omega, by go_num, HT8.out.trans (Tw.of_below hb9), HB.out.trans (hb9.mono HB.out.size)⟩
                  case measure => simp [intOf]; omega
    · have di : decide (i < 5) = false := decide_eq_false hin
      have di2 : decide ((i : Int) < 5) = false := decide_eq_false (by omega)
      go_wp2_with (go_at_call 21; refine (lives_any _).mono ?_; rintro e w9 ⟨rfl, hb9⟩)
      go_ret
      have h8 := H5.out.2.2.2.2.trans (HB0.out.mono H5.out.2.2.2.2.size)
      exact ⟨rfl, h8.trans (hb9.mono h8.size)⟩
end Go.Proofs.Ytgdefhlcgmibcaa.LawDiskOwn
