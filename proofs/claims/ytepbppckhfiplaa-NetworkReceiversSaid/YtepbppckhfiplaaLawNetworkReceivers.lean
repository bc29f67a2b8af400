/-
  The walk of the law NetworkReceivers.
-/
import Derived.Test.YtepbppckhfiplaaNwLv
import Derived.Test.YtepbppckhfiplaaNwS
import Derived.Test.YtepbppckhfiplaaRgY
import Derived.Deep.Cut
namespace Go.Proofs.Ytepbppckhfiplaa.LawNetworkReceivers
open Go Go.RowKit Go.Proofs Go.Proofs.Ytepbppckhfiplaa
attribute [local go_sem] Oper.semAt_some

/-- How many envelopes have a receiver below v. -/
def cnt (s : List NW.En) (v : Int) : Nat := (s.filter fun x => decide (x.o < v)).length
theorem cnt_more (s : List NW.En) (v : Int) : cnt s (v + 1) = cnt s v + (NW.toL s v).length := by
  unfold cnt NW.toL
  rw [List.length_map]
  induction s with
  | nil => rfl
  | cons x t ih =>
    rw [List.filter_cons, List.filter_cons, List.filter_cons]
    by_cases h1 : x.o < v
    · rw [decide_eq_true (show x.o < v + 1 by omega), decide_eq_true h1, decide_eq_false (show ¬ x.o = v by omega)]
      simp only [if_true, Bool.false_eq_true, if_false, List.length_cons, ih]
      omega
    · by_cases h3 : x.o = v
      · rw [decide_eq_true (show x.o < v + 1 by omega), decide_eq_false h1, decide_eq_true h3]
        simp only [if_true, Bool.false_eq_true, if_false, List.length_cons, ih]
        omega
      · rw [decide_eq_false (show ¬ x.o < v + 1 by omega), decide_eq_false h1, decide_eq_false h3]
        simp only [Bool.false_eq_true, if_false, ih]
theorem cnt_none {s : List NW.En} {v : Int} (h : ∀ x ∈ s, ¬ x.o < v) : cnt s v = 0 := by
  unfold cnt
  rw [List.length_eq_zero_iff, List.filter_eq_nil_iff]
  intro x hx
  simpa using h x hx
theorem cnt_all {s : List NW.En} {v : Int} (h : ∀ x ∈ s, x.o < v) : cnt s v = s.length := by
  unfold cnt
  rw [List.filter_eq_self.2 fun x hx => by simpa using h x hx]
theorem toL_find {s : List NW.En} {v : Int} {m : NM.Ms} (hs : NW.Srt s) (h : m ∈ NW.toL s v) : ∃ x, NW.find s m = some x ∧ x.o = v := by
  unfold NW.toL at h
  obtain ⟨x, hx, rfl⟩ := List.mem_map.1 h
  obtain ⟨h1, h2⟩ := List.mem_filter.1 hx
  exact ⟨x, (NW.find_some hs).2 ⟨h1, rfl⟩, by simpa using h2⟩
theorem toL_inc {s : List NW.En} {v : Int} {m m' : NM.Ms} {k : Nat} (hs : NW.Srt s) (h : (NW.toL s v)[k]? = some m) (h' : (NW.toL s v)[k + 1]? = some m') : NM.lexL (NM.msL m) (NM.msL m') < 0 := by
  have hp : (NW.toL s v).Pairwise NW.ltM := by
    unfold NW.toL
    rw [List.pairwise_map]
    exact List.Pairwise.sublist List.filter_sublist hs
  obtain ⟨q1, e1⟩ := List.getElem?_eq_some_iff.1 h
  obtain ⟨q2, e2⟩ := List.getElem?_eq_some_iff.1 h'
  have := List.pairwise_iff_getElem.1 hp k (k + 1) q1 q2 (by omega)
  rwa [e1, e2] at this
theorem toL_len (s : List NW.En) (v : Int) : (NW.toL s v).length ≤ s.length := by
  unfold NW.toL
  rw [List.length_map]
  exact List.length_filter_le _ _
set_option maxHeartbeats 4000000 in
set_option maxRecDepth 100000 in
theorem walk (a0 : Option Addr) (len0 cap0 : Nat) (z0 : List Int) (w : World) (w0 : Row .i64 w a0 len0 cap0 z0) :
    Calls Try.prog 8 #[.slice a0 len0 cap0] w fun e w' => e = .returned (.bool true) ∧ Below w.heap.size w w' := by
  have HS := Lib.hid (set_any (c := cap0) w w0.ints.1 (i64_of w0.ints.2.2.2))
  have HO := Lib.hid (NW.setL_srt (z0.take len0))
  have HL := Lib.hid (NW.setL_len (z0.take len0))
  have HTO := Lib.hid (fun x (hx : x ∈ NW.setL (z0.take len0)) => NW.setL_to hx)
  obtain ⟨s, hs⟩ : ∃ s, NW.setL (z0.take len0) = s := ⟨_, rfl⟩
  rw [hs] at HS HO HL HTO
  have hlen := HL.out
  have HC0 := Lib.hid (cnt_none (v := -1) fun x hx => by have := HTO.out x hx; omega)
  have HC1 := Lib.hid (cnt_all (v := 5) fun x hx => by have := HTO.out x hx; omega)
  have HCM := Lib.hid (fun v => cnt_more s v)
  have HTL := Lib.hid (fun v => toL_len s v)
  clear w0 hs HL HTO
  go_enter Try.func8, Try.ntmps8
  go_upto_region 4 with ((go_at_call 9; (with_reducible refine HS.out.mono ?_); rintro e v1 ⟨⟨B, r, rfl, hE⟩, hb⟩; have HE := Lib.hid hE; have HB := Lib.hid hb; clear hE hb))
  go_loopw [4, 5, 6, 7, 8, 9] (fun c v _ _ _ _ V => ∃ x : Int, -1 ≤ x ∧ x ≤ 5 ∧ v = .int .i64 x ∧ c = .int .i64 ((cnt s x : Nat) : Int) ∧ Hid (Ens V B s.length r s) ∧ Hid (Below w.heap.size w V)) (fun _ v _ _ _ _ _ => (5 - intOf v).toNat)
  case atStart => exact ⟨-1, by omega, by omega, rfl, by rw [HC0.out]; rfl, HE, HB⟩
  case round =>
    clear HE HB HS
    obtain ⟨v, hv1, hv2, rfl, rfl, HE, HB⟩ := hrel
    by_cases hv : v ≤ 4
    · have dv : decide (v ≤ 4) = true := decide_eq_true hv
      have hcl : cnt s v ≤ s.length := by unfold cnt; exact List.length_filter_le _ _
      have htl := HTL.out v
      obtain ⟨T, hT⟩ : ∃ T, NW.toL s v = T := ⟨_, rfl⟩
      have HTO := Lib.hid (fun V (h : Ens V B s.length r s) => to_any v V h (by omega))
      have HT1 : Hid (∀ m, m ∈ T → ∃ x, NW.find s m = some x ∧ x.o = v) := Lib.hid (fun m h => toL_find HO.out (hT.symm ▸ h))
      have HT2 : Hid (∀ (k : Nat) m m', T[k]? = some m → T[k + 1]? = some m' → NM.lexL (NM.msL m) (NM.msL m') < 0) := Lib.hid (fun k m m' h h' => toL_inc HO.out (hT.symm ▸ h) (hT.symm ▸ h'))
      have HC2 := Lib.hid (HCM.out v)
      rw [hT] at HTO HC2 htl
      clear hT
      obtain ⟨wo, hwo⟩ : ∃ W, W = wr := ⟨_, rfl⟩
      subst hwo
      have hc12 : ((cnt s v : Nat) : Int) + ((T.length : Nat) : Int) ≤ 100 := by omega
      have ew : IntKind.i64.wrap (((cnt s v : Nat) : Int) + ((T.length : Nat) : Int)) = ((cnt s v : Nat) : Int) + ((T.length : Nat) : Int) := by rw [IntKind.wrap_i64]; omega
      go_upto_region 9 with ((go_at_call 22; (with_reducible refine (HTO.out _ HE.out).mono ?_); rintro e v2 ⟨⟨B6, c6, rfl, h_⟩, hb⟩; have HM := Lib.hid h_; clear h_; replace HE := Lib.hid (HE.out.keep hb); replace HB := Lib.hid (HB.out.trans (hb.mono HB.out.size)); clear hb))
      clear ew
      have hc13 : ((cnt s (v + 1) : Nat) : Int) = ((cnt s v : Nat) : Int) + ((T.length : Nat) : Int) := by rw [HC2.out]; omega
      have HC13 := Lib.hid hc13
      clear hc13
      go_loopw [7, 8, 9] (fun i _ _ V => ∃ k : Nat, k ≤ T.length ∧ i = .int .i64 (k : Int) ∧ Hid (Ens V B s.length r s) ∧ Hid (Mss V B6 T.length c6 T) ∧ Hid (Below w.heap.size w V)) (fun i _ _ _ => T.length - (intOf i).toNat)
      case atStart => exact ⟨0, by omega, rfl, HE, HM, HB⟩
      case round =>
        clear HE HM HB
        obtain ⟨k, hk, rfl, HE, HM, HB⟩ := hrel
        by_cases hin : k < T.length
        · have dk : decide (k < T.length) = true := decide_eq_true hin
          obtain ⟨m, hm⟩ : ∃ m, T[k]? = some m := ⟨_, List.getElem?_eq_getElem hin⟩
          obtain ⟨x, hx, hxo⟩ := HT1.out m (List.mem_of_getElem? hm)
          have hh : NW.has s m = true := by rw [← NW.find_has, hx]; rfl
          obtain ⟨g, hg, hgl, p0, p1, p2, p3, p4⟩ := ms_at HM.out hm
          subst hg
          have HFI := Lib.hid (find_any m wr HE.out HO.out (by omega))
          rw [hx, hh] at HFI
          have HX := Lib.hid hxo
          have HMM := Lib.hid hm
          clear hx hh hm hxo
          go_upto_region 12 with ((go_at_call 13; (with_reducible refine (HFI.out).mono ?_); rintro e v3 ⟨rfl, hb⟩; replace HE := Lib.hid (HE.out.keep hb); replace HM := Lib.hid (HM.out.keep hb); replace HB := Lib.hid (HB.out.trans (hb.mono HB.out.size)); clear hb))
          clear p0 p1 p2 p3 p4
          obtain ⟨Y, hY⟩ : ∃ Y, v3.alloc (.cells #[.int .i64 x.m.c, .int .i64 x.m.h, .int .i64 x.m.t, .int .i64 x.m.i, .int .i64 x.m.p, .int .i64 x.o, .int .i64 x.k, .int .i64 x.a, .int .i64 x.b] 28) = Y := ⟨_, rfl⟩
          rw [hY]
          have hkY : EnB Y v3.heap.size x := by rw [← hY]; exact new_at rfl
          have hb : Below v3.heap.size v3 Y := hY ▸ one_box _ _
          replace HE := Lib.hid (HE.out.keep hb)
          replace HM := Lib.hid (HM.out.keep hb)
          replace HB := Lib.hid (HB.out.trans (hb.mono HB.out.size))
          obtain ⟨q0, q1, q2, q3, q4, q5, q6, q7, q8⟩ := hkY.cells
          clear hb hY hkY
          have dx : (x.o != v) = false := by simp [HX.out]
          go_upto_region 14 with (fail)
          clear q0 q1 q2 q3 q4 q5 q6 q7 q8 dx
          rcases k with _ | i
          · clear hgl
            go_wp2_with (go_quiet (fail))
            go_roundw
            case rel => exact ⟨1, by omega, by go_num, HE.out.keep (drewN_below Y _), HM.out.keep (drewN_below Y _), HB.out.trans ((drewN_below Y _).mono HB.out.size)⟩
            case measure => simp [intOf]; omega
          · obtain ⟨m', hm'⟩ : ∃ m, T[i]? = some m := ⟨_, List.getElem?_eq_getElem (by omega)⟩
            have hlt := HT2.out i m' m hm' HMM.out
            have HCP := Lib.hid (fun V => cmpMsg_any m' m V)
            obtain ⟨q, hq⟩ : ∃ q, NM.lexL (NM.msL m') (NM.msL m) = q := ⟨_, rfl⟩
            rw [hq] at HCP hlt
            have HXM := Lib.hid (fun (V : World) (hV : Below Y.heap.size Y V) => And.intro (ms_at (HM.out.keep hV) hm') (ms_at (HM.out.keep hV) HMM.out))
            have HQ := Lib.hid (show decide (q ≥ 0) = false from decide_eq_false (by omega))
            clear hq hm' hlt
            simp only [Int.natCast_add, Int.cast_ofNat_Int] at *
            have hq0 : q < 0 := by have := of_decide_eq_false HQ.out; omega
            refine RgX.regionB 15 (fun i => ( 46 + i)) (fun ix_ => match ix_ with | 0 => .v (.int .i64 ((i : Int) + 1)) | 1 => .v (.bool true) | 2 => .v (.bool true) | 3 => .v (.slice (some ⟨g, 0, none⟩) T.length c6) | 4 => .v (.int .i64 ((i : Int) + 1)) | 5 => .v (.int .i64 (i : Int)) | 6 => .v (.pointer (some ⟨g, i * 5, none⟩)) | 7 => .v (.agg #[.int .i64 m'.c, .int .i64 m'.h, .int .i64 m'.t, .int .i64 m'.i, .int .i64 m'.p]) | 8 => .v (.slice (some ⟨g, 0, none⟩) T.length c6) | 9 => .v (.int .i64 ((i : Int) + 1)) | 10 => .v (.pointer (some ⟨g, (i + 1) * 5, none⟩)) | 11 => .v (.agg #[.int .i64 m.c, .int .i64 m.h, .int .i64 m.t, .int .i64 m.i, .int .i64 m.p]) | 12 => .v (.int .i64 q) | 13 => .v (.bool false) | 14 => .v (.bool false) | _ => .any) (by kernel_rfl) rfl (by kernel_rfl)  (fun i hi => by show ( 46 + i) < 68; (repeat' split) <;> omega) (fun i j hi hj => by show ( 46 + i) = ( 46 + j) → i = j; (repeat' split) <;> omega) ?step ?fin
            case step =>
              intro L_ A_ w3 ix op_ hI ho hdep
              have hi : ix < 15 := (Array.getElem?_eq_some_iff.1 ho).1
              have hcase : ix = 0 ∨ ix = 1 ∨ ix = 2 ∨ ix = 3 ∨ ix = 4 ∨ ix = 5 ∨ ix = 6 ∨ ix = 7 ∨ ix = 8 ∨ ix = 9 ∨ ix = 10 ∨ ix = 11 ∨ ix = 12 ∨ ix = 13 ∨ ix = 14 := by omega
              have hh := hI.held
              clear hi
              rcases hcase with rfl | rfl | rfl | rfl | rfl | rfl | rfl | rfl | rfl | rfl | rfl | rfl | rfl | rfl | rfl
              · simp only [List.getElem?_toArray, List.getElem?_cons_zero, Option.some.injEq] at ho
                subst ho
                refine ⟨rfl, ?_⟩
                have e7 : A_.tmps[7]?.getD undef = .int .i64 ((i : Int) + 1) := by rw [hI.low 7 (by decide)]; rfl
                clear hI hdep
                exact .run rfl (.int .i64 ((i : Int) + 1)) w3 (by simp [execOp, go_sem, Act.eval, e7]) (Below.refl _ _) rfl
              · simp only [List.getElem?_toArray, List.getElem?_cons_succ, List.getElem?_cons_zero, Option.some.injEq] at ho
                subst ho
                refine ⟨rfl, ?_⟩
                have e46 : A_.tmps[46]?.getD undef = .int .i64 ((i : Int) + 1) := getD_of (hI.val_ (i := 0) rfl rfl (by decide) (hdep ⟨0, .data⟩ (by simp) rfl))
                clear hI hdep
                exact .run rfl (.bool true) w3 (by simp [execOp, go_sem, Act.eval, *]) (Below.refl _ _) rfl
              · simp only [List.getElem?_toArray, List.getElem?_cons_succ, List.getElem?_cons_zero, Option.some.injEq] at ho
                subst ho
                refine ⟨rfl, ?_⟩
                have e47 : A_.tmps[47]?.getD undef = .bool true := getD_of (hI.val_ (i := 1) rfl rfl (by decide) (hdep ⟨1, .data⟩ (by simp) rfl))
                clear hI hdep
                exact .run rfl (.bool true) w3 (by simp [execOp, go_sem, Act.eval, e47]) (Below.refl _ _) rfl
              · simp only [List.getElem?_toArray, List.getElem?_cons_succ, List.getElem?_cons_zero, Option.some.injEq] at ho
                subst ho
                refine ⟨rfl, ?_⟩
                have q48 : A_.tmps[48]? = some (.bool true) := hI.val_ (i := 2) rfl rfl (by decide) (hdep ⟨2, .guard⟩ (by simp) rfl)
                have e6 : A_.tmps[6]?.getD undef = .slice (some ⟨g, 0, none⟩) T.length c6 := by rw [hI.low 6 (by decide)]; rfl
                clear hI hdep
                exact .run ((wanted_some rfl rfl q48).trans rfl) (.slice (some ⟨g, 0, none⟩) T.length c6) w3 (by simp [execOp, go_sem, Act.eval, e6]) (Below.refl _ _) rfl
              · simp only [List.getElem?_toArray, List.getElem?_cons_succ, List.getElem?_cons_zero, Option.some.injEq] at ho
                subst ho
                refine ⟨rfl, ?_⟩
                have q48 : A_.tmps[48]? = some (.bool true) := hI.val_ (i := 2) rfl rfl (by decide) (hdep ⟨2, .guard⟩ (by simp) rfl)
                have e7 : A_.tmps[7]?.getD undef = .int .i64 ((i : Int) + 1) := by rw [hI.low 7 (by decide)]; rfl
                clear hI hdep
                exact .run ((wanted_some rfl rfl q48).trans rfl) (.int .i64 ((i : Int) + 1)) w3 (by simp [execOp, go_sem, Act.eval, e7]) (Below.refl _ _) rfl
              · simp only [List.getElem?_toArray, List.getElem?_cons_succ, List.getElem?_cons_zero, Option.some.injEq] at ho
                subst ho
                refine ⟨rfl, ?_⟩
                have q48 : A_.tmps[48]? = some (.bool true) := hI.val_ (i := 2) rfl rfl (by decide) (hdep ⟨2, .guard⟩ (by simp) rfl)
                have e50 : A_.tmps[50]?.getD undef = .int .i64 ((i : Int) + 1) := getD_of (hI.val_ (i := 4) rfl rfl (by decide) (hdep ⟨4, .data⟩ (by simp) rfl))
                clear hI hdep
                have ew : IntKind.i64.wrap (i : Int) = (i : Int) := by rw [IntKind.wrap_i64]; omega
                exact .run ((wanted_some rfl rfl q48).trans rfl) (.int .i64 (i : Int)) w3 (by simp [execOp, go_sem, Act.eval, e50, show (i : Int) + 1 - 1 = (i : Int) by omega, ew]) (Below.refl _ _) rfl
              · simp only [List.getElem?_toArray, List.getElem?_cons_succ, List.getElem?_cons_zero, Option.some.injEq] at ho
                subst ho
                refine ⟨rfl, ?_⟩
                have q48 : A_.tmps[48]? = some (.bool true) := hI.val_ (i := 2) rfl rfl (by decide) (hdep ⟨2, .guard⟩ (by simp) rfl)
                have e49 : A_.tmps[49]?.getD undef = .slice (some ⟨g, 0, none⟩) T.length c6 := getD_of (hI.val_ (i := 3) rfl rfl (by decide) (hdep ⟨3, .data⟩ (by simp) rfl))
                have e51 : A_.tmps[51]?.getD undef = .int .i64 (i : Int) := getD_of (hI.val_ (i := 5) rfl rfl (by decide) (hdep ⟨5, .data⟩ (by simp) rfl))
                clear hI hdep
                have h8 : (i : Int) < (T.length : Int) := by omega
                exact .run ((wanted_some rfl rfl q48).trans rfl) (.pointer (some ⟨g, i * 5, none⟩)) w3 (by simp [execOp, go_sem, Act.eval, e49, e51, h8]) (Below.refl _ _) rfl
              · simp only [List.getElem?_toArray, List.getElem?_cons_succ, List.getElem?_cons_zero, Option.some.injEq] at ho
                subst ho
                refine ⟨rfl, ?_⟩
                have q48 : A_.tmps[48]? = some (.bool true) := hI.val_ (i := 2) rfl rfl (by decide) (hdep ⟨2, .guard⟩ (by simp) rfl)
                have e52 : A_.tmps[52]?.getD undef = .pointer (some ⟨g, i * 5, none⟩) := getD_of (hI.val_ (i := 6) rfl rfl (by decide) (hdep ⟨6, .data⟩ (by simp) rfl))
                clear hI hdep
                obtain ⟨⟨g1, hg1, _, x0, x1, x2, x3, x4⟩, g2, hg2, _, y0, y1, y2, y3, y4⟩ := HXM.out w3 hh
                obtain rfl : g = g1 := by injection hg1 with hg1; injection hg1
                obtain rfl : g = g2 := by injection hg2 with hg2; injection hg2
                exact .run ((wanted_some rfl rfl q48).trans rfl) (.agg #[.int .i64 m'.c, .int .i64 m'.h, .int .i64 m'.t, .int .i64 m'.i, .int .i64 m'.p]) w3 (by simp [execOp, go_sem, Act.eval, *]) (Below.refl _ _) rfl
              · simp only [List.getElem?_toArray, List.getElem?_cons_succ, List.getElem?_cons_zero, Option.some.injEq] at ho
                subst ho
                refine ⟨rfl, ?_⟩
                have q48 : A_.tmps[48]? = some (.bool true) := hI.val_ (i := 2) rfl rfl (by decide) (hdep ⟨2, .guard⟩ (by simp) rfl)
                have e6 : A_.tmps[6]?.getD undef = .slice (some ⟨g, 0, none⟩) T.length c6 := by rw [hI.low 6 (by decide)]; rfl
                clear hI hdep
                exact .run ((wanted_some rfl rfl q48).trans rfl) (.slice (some ⟨g, 0, none⟩) T.length c6) w3 (by simp [execOp, go_sem, Act.eval, e6]) (Below.refl _ _) rfl
              · simp only [List.getElem?_toArray, List.getElem?_cons_succ, List.getElem?_cons_zero, Option.some.injEq] at ho
                subst ho
                refine ⟨rfl, ?_⟩
                have q48 : A_.tmps[48]? = some (.bool true) := hI.val_ (i := 2) rfl rfl (by decide) (hdep ⟨2, .guard⟩ (by simp) rfl)
                have e7 : A_.tmps[7]?.getD undef = .int .i64 ((i : Int) + 1) := by rw [hI.low 7 (by decide)]; rfl
                clear hI hdep
                exact .run ((wanted_some rfl rfl q48).trans rfl) (.int .i64 ((i : Int) + 1)) w3 (by simp [execOp, go_sem, Act.eval, e7]) (Below.refl _ _) rfl
              · simp only [List.getElem?_toArray, List.getElem?_cons_succ, List.getElem?_cons_zero, Option.some.injEq] at ho
                subst ho
                refine ⟨rfl, ?_⟩
                have q48 : A_.tmps[48]? = some (.bool true) := hI.val_ (i := 2) rfl rfl (by decide) (hdep ⟨2, .guard⟩ (by simp) rfl)
                have e54 : A_.tmps[54]?.getD undef = .slice (some ⟨g, 0, none⟩) T.length c6 := getD_of (hI.val_ (i := 8) rfl rfl (by decide) (hdep ⟨8, .data⟩ (by simp) rfl))
                have e55 : A_.tmps[55]?.getD undef = .int .i64 ((i : Int) + 1) := getD_of (hI.val_ (i := 9) rfl rfl (by decide) (hdep ⟨9, .data⟩ (by simp) rfl))
                clear hI hdep
                have h8 : (i : Int) + 1 < (T.length : Int) := by omega
                exact .run ((wanted_some rfl rfl q48).trans rfl) (.pointer (some ⟨g, (i + 1) * 5, none⟩)) w3 (by simp [execOp, go_sem, Act.eval, e54, e55, h8]; omega) (Below.refl _ _) rfl
              · simp only [List.getElem?_toArray, List.getElem?_cons_succ, List.getElem?_cons_zero, Option.some.injEq] at ho
                subst ho
                refine ⟨rfl, ?_⟩
                have q48 : A_.tmps[48]? = some (.bool true) := hI.val_ (i := 2) rfl rfl (by decide) (hdep ⟨2, .guard⟩ (by simp) rfl)
                have e56 : A_.tmps[56]?.getD undef = .pointer (some ⟨g, (i + 1) * 5, none⟩) := getD_of (hI.val_ (i := 10) rfl rfl (by decide) (hdep ⟨10, .data⟩ (by simp) rfl))
                clear hI hdep
                obtain ⟨⟨g1, hg1, _, x0, x1, x2, x3, x4⟩, g2, hg2, _, y0, y1, y2, y3, y4⟩ := HXM.out w3 hh
                obtain rfl : g = g1 := by injection hg1 with hg1; injection hg1
                obtain rfl : g = g2 := by injection hg2 with hg2; injection hg2
                exact .run ((wanted_some rfl rfl q48).trans rfl) (.agg #[.int .i64 m.c, .int .i64 m.h, .int .i64 m.t, .int .i64 m.i, .int .i64 m.p]) w3 (by simp [execOp, go_sem, Act.eval, *]) (Below.refl _ _) rfl
              · simp only [List.getElem?_toArray, List.getElem?_cons_succ, List.getElem?_cons_zero, Option.some.injEq] at ho
                subst ho
                refine ⟨rfl, ?_⟩
                have q48 : A_.tmps[48]? = some (.bool true) := hI.val_ (i := 2) rfl rfl (by decide) (hdep ⟨2, .guard⟩ (by simp) rfl)
                have e53 : A_.tmps[53]?.getD undef = .agg #[.int .i64 m'.c, .int .i64 m'.h, .int .i64 m'.t, .int .i64 m'.i, .int .i64 m'.p] := getD_of (hI.val_ (i := 7) rfl rfl (by decide) (hdep ⟨7, .data⟩ (by simp) rfl))
                have e57 : A_.tmps[57]?.getD undef = .agg #[.int .i64 m.c, .int .i64 m.h, .int .i64 m.t, .int .i64 m.i, .int .i64 m.p] := getD_of (hI.val_ (i := 11) rfl rfl (by decide) (hdep ⟨11, .data⟩ (by simp) rfl))
                clear hI hdep
                exact .call ((wanted_some rfl rfl q48).trans rfl) 25 #[.agg #[.int .i64 m'.c, .int .i64 m'.h, .int .i64 m'.t, .int .i64 m'.i, .int .i64 m'.p], .agg #[.int .i64 m.c, .int .i64 m.h, .int .i64 m.t, .int .i64 m.i, .int .i64 m.p]] (by simp [go_sem, Act.eval, e53, e57]) ((HCP.out w3).mono fun _ _ ⟨h1_, h2_⟩ => ⟨⟨_, h1_, rfl⟩, h2_⟩)
              · simp only [List.getElem?_toArray, List.getElem?_cons_succ, List.getElem?_cons_zero, Option.some.injEq] at ho
                subst ho
                refine ⟨rfl, ?_⟩
                have q48 : A_.tmps[48]? = some (.bool true) := hI.val_ (i := 2) rfl rfl (by decide) (hdep ⟨2, .guard⟩ (by simp) rfl)
                have e58 : A_.tmps[58]?.getD undef = .int .i64 q := getD_of (hI.val_ (i := 12) rfl rfl (by decide) (hdep ⟨12, .data⟩ (by simp) rfl))
                clear hI hdep
                exact .run ((wanted_some rfl rfl q48).trans rfl) (.bool false) w3 (by simp [execOp, go_sem, Act.eval, *]) (Below.refl _ _) rfl
              · simp only [List.getElem?_toArray, List.getElem?_cons_succ, List.getElem?_cons_zero, Option.some.injEq] at ho
                subst ho
                refine ⟨rfl, ?_⟩
                have e48 : A_.tmps[48]?.getD undef = .bool true := getD_of (hI.val_ (i := 2) rfl rfl (by decide) (hdep ⟨2, .data⟩ (by simp) rfl))
                have e59 : A_.tmps[59]?.getD undef = .bool false := getD_of (hI.val_ (i := 13) rfl rfl (by decide) (hdep ⟨13, .data⟩ (by simp) rfl))
                clear hI hdep
                exact .run rfl (.bool false) w3 (by simp [execOp, go_sem, Act.eval, e48, e59]) (Below.refl _ _) rfl
            case fin =>
            intro A_ w3 hs hd hlow hS hok
            obtain rfl : A_ = ⟨#[.slice a0 len0 cap0, undef, u2, .slice B s.length r, .int .i64 (↑(cnt s v) + (T.length : Int)), .int .i64 v, .slice (some ⟨g, 0, none⟩) T.length c6, .int .i64 ((i : Int) + 1), .pointer (some ⟨v3.heap.size, 0, none⟩), .bool true, .slice a0 len0 cap0, .slice B s.length r, .int .i64 v, .bool true, u14, u15, .slice B s.length r, .int .i64 v, .slice (some ⟨g, 0, none⟩) T.length c6, .int .i64 ↑(cnt s v), .slice (some ⟨g, 0, none⟩) T.length c6, .int .i64 (T.length : Int), .int .i64 (↑(cnt s v) + (T.length : Int)), .int .i64 ((i : Int) + 1), .slice (some ⟨g, 0, none⟩) T.length c6, .int .i64 (T.length : Int), .bool true, u27, u28, Value.tuple #[enV x, .bool true], .slice B s.length r, .slice (some ⟨g, 0, none⟩) T.length c6, .int .i64 ((i : Int) + 1), .pointer (some { block := g, off := (i + 1) * 5 }), .agg #[.int .i64 m.c, .int .i64 m.h, .int .i64 m.t, .int .i64 m.i, .int .i64 m.p], Value.tuple #[enV x, .bool true], enV x, .bool true, .bool true, .bool false, .bool false, .pointer (some ⟨v3.heap.size, 5, none⟩), .int .i64 x.o, .int .i64 v, .bool false, .bool false, .int .i64 ((i : Int) + 1), .bool true, .bool true, .slice (some ⟨g, 0, none⟩) T.length c6, .int .i64 ((i : Int) + 1), .int .i64 (i : Int), .pointer (some ⟨g, i * 5, none⟩), .agg #[.int .i64 m'.c, .int .i64 m'.h, .int .i64 m'.t, .int .i64 m'.i, .int .i64 m'.p], .slice (some ⟨g, 0, none⟩) T.length c6, .int .i64 ((i : Int) + 1), .pointer (some ⟨g, (i + 1) * 5, none⟩), .agg #[.int .i64 m.c, .int .i64 m.h, .int .i64 m.t, .int .i64 m.i, .int .i64 m.p], .int .i64 q, .bool false, .bool false, undef, undef, undef, undef, undef, undef, undef], []⟩ := act_ext hd hs (fun j hj => match j, hj with | 0, _ => (hlow 0 (by decide)).trans rfl | 1, _ => (hlow 1 (by decide)).trans rfl | 2, _ => (hlow 2 (by decide)).trans rfl | 3, _ => (hlow 3 (by decide)).trans rfl | 4, _ => (hlow 4 (by decide)).trans rfl | 5, _ => (hlow 5 (by decide)).trans rfl | 6, _ => (hlow 6 (by decide)).trans rfl | 7, _ => (hlow 7 (by decide)).trans rfl | 8, _ => (hlow 8 (by decide)).trans rfl | 9, _ => (hlow 9 (by decide)).trans rfl | 10, _ => (hlow 10 (by decide)).trans rfl | 11, _ => (hlow 11 (by decide)).trans rfl | 12, _ => (hlow 12 (by decide)).trans rfl | 13, _ => (hlow 13 (by decide)).trans rfl | 14, _ => (hlow 14 (by decide)).trans rfl | 15, _ => (hlow 15 (by decide)).trans rfl | 16, _ => (hlow 16 (by decide)).trans rfl | 17, _ => (hlow 17 (by decide)).trans rfl | 18, _ => (hlow 18 (by decide)).trans rfl | 19, _ => (hlow 19 (by decide)).trans rfl | 20, _ => (hlow 20 (by decide)).trans rfl | 21, _ => (hlow 21 (by decide)).trans rfl | 22, _ => (hlow 22 (by decide)).trans rfl | 23, _ => (hlow 23 (by decide)).trans rfl | 24, _ => (hlow 24 (by decide)).trans rfl | 25, _ => (hlow 25 (by decide)).trans rfl | 26, _ => (hlow 26 (by decide)).trans rfl | 27, _ => (hlow 27 (by decide)).trans rfl | 28, _ => (hlow 28 (by decide)).trans rfl | 29, _ => (hlow 29 (by decide)).trans rfl | 30, _ => (hlow 30 (by decide)).trans rfl | 31, _ => (hlow 31 (by decide)).trans rfl | 32, _ => (hlow 32 (by decide)).trans rfl | 33, _ => (hlow 33 (by decide)).trans rfl | 34, _ => (hlow 34 (by decide)).trans rfl | 35, _ => (hlow 35 (by decide)).trans rfl | 36, _ => (hlow 36 (by decide)).trans rfl | 37, _ => (hlow 37 (by decide)).trans rfl | 38, _ => (hlow 38 (by decide)).trans rfl | 39, _ => (hlow 39 (by decide)).trans rfl | 40, _ => (hlow 40 (by decide)).trans rfl | 41, _ => (hlow 41 (by decide)).trans rfl | 42, _ => (hlow 42 (by decide)).trans rfl | 43, _ => (hlow 43 (by decide)).trans rfl | 44, _ => (hlow 44 (by decide)).trans rfl | 45, _ => (hlow 45 (by decide)).trans rfl | 46, _ => RgX.val_at (hok 0 46 _ (by decide) rfl rfl) | 47, _ => RgX.val_at (hok 1 47 _ (by decide) rfl rfl) | 48, _ => RgX.val_at (hok 2 48 _ (by decide) rfl rfl) | 49, _ => RgX.val_at (hok 3 49 _ (by decide) rfl rfl) | 50, _ => RgX.val_at (hok 4 50 _ (by decide) rfl rfl) | 51, _ => RgX.val_at (hok 5 51 _ (by decide) rfl rfl) | 52, _ => RgX.val_at (hok 6 52 _ (by decide) rfl rfl) | 53, _ => RgX.val_at (hok 7 53 _ (by decide) rfl rfl) | 54, _ => RgX.val_at (hok 8 54 _ (by decide) rfl rfl) | 55, _ => RgX.val_at (hok 9 55 _ (by decide) rfl rfl) | 56, _ => RgX.val_at (hok 10 56 _ (by decide) rfl rfl) | 57, _ => RgX.val_at (hok 11 57 _ (by decide) rfl rfl) | 58, _ => RgX.val_at (hok 12 58 _ (by decide) rfl rfl) | 59, _ => RgX.val_at (hok 13 59 _ (by decide) rfl rfl) | 60, _ => RgX.val_at (hok 14 60 _ (by decide) rfl rfl) | 61, _ => (hlow 61 (by decide)).trans rfl | 62, _ => (hlow 62 (by decide)).trans rfl | 63, _ => (hlow 63 (by decide)).trans rfl | 64, _ => (hlow 64 (by decide)).trans rfl | 65, _ => (hlow 65 (by decide)).trans rfl | 66, _ => (hlow 66 (by decide)).trans rfl | 67, _ => (hlow 67 (by decide)).trans rfl | n + 68, h => absurd h (by show ¬ n + 68 < 68; omega))
            clear hs hd hlow hok 
            obtain ⟨vv, hvv⟩ : ∃ V, V = w3 := ⟨_, rfl⟩
            rw [← hvv] at hS ⊢
            have hb := hS
            replace HE := Lib.hid (HE.out.keep hb)
            replace HM := Lib.hid (HM.out.keep hb)
            replace HB := Lib.hid (HB.out.trans (hb.mono HB.out.size))
            clear hb hS hvv
            go_wp2_with fail
            go_roundw
            case rel => exact ⟨i + 1 + 1, by omega, by go_num, HE, HM, HB⟩
            case measure => simp [intOf]; omega
        · have dk : decide (k < T.length) = false := decide_eq_false hin
          go_wp2_with fail
          go_roundw
          case rel => exact ⟨v + 1, by omega, by omega, by go_num, by rw [HC13.out], HE, HB⟩
          case measure => simp [intOf]; omega
    · have dv : decide (v ≤ 4) = false := decide_eq_false hv
      obtain rfl : v = 5 := by omega
      rw [HC1.out]
      have e1 : (((s.length : Nat) : Int) == ((s.length : Nat) : Int)) = true := by simp
      go_wp2_with ((go_at_call 24; (with_reducible refine (lives_any _).mono ?_); rintro e v9 ⟨rfl, hb⟩; replace HB := Lib.hid (HB.out.trans (hb.mono HB.out.size)); clear hb))
      go_ret
      exact ⟨rfl, HB.out⟩
end Go.Proofs.Ytepbppckhfiplaa.LawNetworkReceivers
