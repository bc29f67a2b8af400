/-
  The reference's Decode. Conditions: the bytes' number.
-/
import Derived.Test.YtiokiecnglmbnaaK52
import Derived.Test.YtiokiecnglmbnaaK47
import Derived.Test.YtiokiecnglmbnaaK24
import Derived.Test.YtiokiecnglmbnaaK21
import Derived.Test.YtiokiecnglmbnaaK4
import Derived.Test.YtiokiecnglmbnaaK43
import Derived.Test.YtiokiecnglmbnaaK15
import Derived.Deep.Cut
import Derived.Deep.CutRange
import Derived.Deep.CutBlock
import Derived.IntWalk

namespace Go.Proofs.Ytiokiecnglmbnaa
open Go Go.RowKit Go.Proofs
attribute [local go_sem] Oper.semAt_some

theorem refN_cases {most : Int} {s : St} (hw : W64 (rdU s).1) (hm : 0 ≤ most) : ∃ (m : Nat), refN most s = (m : Int) ∧ (m : Int) ≤ most ∧ (∀ acc, rdEs m acc (rdC most s).2 = rdEs (rdC most s).1.toNat acc (rdC most s).2) ∧ (∀ acc, rdAs m acc (rdC most s).2 = rdAs (rdC most s).1.toNat acc (rdC most s).2) := by
  obtain ⟨h1, h2⟩ := hw
  unfold refN rdC
  by_cases h : most < (rdU s).1
  · simp only [if_pos h]
    refine ⟨0, rfl, by omega, fun acc => ?_, fun acc => ?_⟩
    · cases (rdU s).2 <;> exact (rdEs_bad _ _ _).symm
    · cases (rdU s).2 <;> exact (rdAs_bad _ _ _).symm
  · simp only [if_neg h]
    exact ⟨(rdU s).1.toNat, by omega, by omega, fun _ => rfl, fun _ => rfl⟩
theorem list8 {l : List Int} (h : l.length = 8) : ∃ a b c d e f g i, l = [a, b, c, d, e, f, g, i] := by
  match l, h with
  | [a, b, c, d, e, f, g, i], _ => exact ⟨a, b, c, d, e, f, g, i, rfl⟩
theorem list6 {l : List Int} (h : l.length = 6) : ∃ a b c d e f, l = [a, b, c, d, e, f] := by
  match l, h with
  | [a, b, c, d, e, f], _ => exact ⟨a, b, c, d, e, f, rfl⟩
theorem own_cellsI {w : World} {base n c : Nat} {A : Option Addr} {l : List Int} (h : w.ownsRow base 3 1 (.slice A n c) n (l.map (Value.int .i64))) (hn : 0 < n) : ∃ g, A = some ⟨g, 0, none⟩ ∧ base ≤ g ∧ g < w.heap.size ∧ ∀ V : World, V.heap[g]? = w.heap[g]? → ∀ j x, l[j]? = some x → V.cell? ⟨g, j, none⟩ = some (.int .i64 x) := by
  obtain ⟨g, cap, hv, hb, hlt⟩ := h.form hn
  injection hv with hB
  subst hB
  refine ⟨g, rfl, hb, hlt, fun V hV j x hj => ?_⟩
  have := h.cells (g := g) rfl j (.int .i64 x) (by rw [List.getElem?_map, hj]; rfl)
  rw [Addr.add_lit, Nat.zero_add] at this
  exact (World.cell?_of_block (w := w) hV).trans this
theorem size_evT : (Try.prog.info? 47).map (·.size) = some 8 := by kernel_rfl
theorem size_anT : (Try.prog.info? 71).map (·.size) = some 6 := by kernel_rfl
set_option maxHeartbeats 16000000 in
set_option maxRecDepth 100000 in
theorem refDecode_any {B0 : Nat} {AD : Option Addr} {nD cD : Nat} {zs : List Int} (w : World) (hz : Lst 5 .u8 B0 w AD nD cD zs) (hB0 : B0 ≤ w.heap.size) (hn : nD ≤ 1000000) (h8 : ∀ x ∈ zs, B8 x) :
    Calls Try.prog 38 #[.slice AD nD cD] w fun e w' => (∃ E ne ce A na ca, e = .returned (.tuple #[.agg #[.slice E ne ce, .slice A na ca], .int .i64 (decP zs).2]) ∧ TapeIs w.heap.size w' E ne ce A na ca (decP zs).1.1 (decP zs).1.2) ∧ Below w.heap.size w w' := by
  obtain ⟨iE, hiE, hzE, hsE, hbE⟩ := info_splitE info_event
  obtain ⟨iA, hiA, hzA, hsA, hbA⟩ := info_split' info_answer
  obtain ⟨U, hU, hb, k0, k1, k2, hlt⟩ := three_boxes w (.cells #[.slice none 0 0, .slice none 0 0] 26) (.cells #[.slice AD nD cD, .int .i64 0] 104) (.cells #[.slice none 0 0, .slice none 0 0] 26)
  have hsU : U.heap.size = w.heap.size + 1 + 1 + 1 := by rw [← hU]; simp
  have hz' : Lst 5 .u8 B0 U AD nD cD zs := hz.keep fun b C _ hC => hb.block b (heap_lt hC)
  obtain ⟨g, hg⟩ : ∃ g, g = w.heap.size + 1 := ⟨_, rfl⟩
  obtain ⟨t5, ht5⟩ : ∃ t, t = g + 1 := ⟨_, rfl⟩
  obtain ⟨lo, hlo⟩ : ∃ lo, lo = U.heap.size := ⟨_, rfl⟩
  rw [← hg] at k1
  rw [← hg, ← ht5] at k2
  have hwg : w.heap.size < g := by omega
  have hgt5 : g < t5 := by omega
  have hlt5 : lo = t5 + 1 := by omega
  have H2 := Lib.hid (show RcAt lo B0 g t5 w.heap.size U (.ok zs) none 0 0 none 0 0 [] [] ∧ Below w.heap.size w U from ⟨⟨⟨AD, nD, cD, k1, hz', h8, hn⟩, k2, k0, ⟨⟨rfl, rfl⟩, World.ownsRow_nil _ _ _ _, World.ownsRow_nil _ _ _ _⟩, by omega, hwg, hgt5, by omega⟩, hb⟩)
  obtain ⟨m0, hN0, hm0, hE0, _⟩ := refN_cases (most := 5000) H2.out.1.rd.w64 (by decide)
  have HL0 := Lib.hid (count_any g 5000 (.ok zs) U H2.out.1.rd (by decide) (by decide))
  rw [hN0] at HL0
  obtain ⟨s0, hs0⟩ : ∃ s, (rdC 5000 (.ok zs)).2 = s := ⟨_, rfl⟩
  rw [hs0] at HL0 hE0
  have HE0 := Lib.hid (And.intro hE0 hs0)
  clear hz hz' h8 hb k0 k1 k2 hN0 hE0 hs0 hn hlt hsU hlo
  go_enter Try.func38, Try.ntmps38
  go_upto_region 3 with (fail)
  try rw [hU]
  try rw [← hg]
  try rw [← ht5]
  clear hU hg ht5
  go_upto_block 0 with (go_at_call 58; refine HL0.out.mono ?_; clear HL0; rintro e w3 ⟨rfl, h3, b3⟩; have HB3 := Lib.hid (And.intro h3 b3); clear h3 b3)
  have HD3 := Lib.hid (And.intro (H2.out.1.but HB3.out.2 HB3.out.1) (H2.out.2.grown HB3.out.2 (by have := H2.out.2.size; omega) (fun b e => by injection e with e; omega)))
  clear HB3 H2
  obtain ⟨⟨es1, s1⟩, hE1⟩ : ∃ y, rdEs m0 [] s0 = y := ⟨_, rfl⟩
  have HE1 := Lib.hid hE1
  clear hE1
  go_cut [] from 19 (fun V => ∃ ne ce E, Hid (RcAt lo B0 g t5 w.heap.size V s1 E ne ce none 0 0 es1 []) ∧ Hid (Below w.heap.size w V))
  case first =>
    go_wp2_with fail
    go_loopw [7, 8, 9] (fun i _ _ V => ∃ (k ne ce : Nat) (E : Option Addr) (es : List NM.Ev) (s : St), i = .int .i64 (k : Int) ∧ k ≤ m0 ∧ ne ≤ k ∧ Hid (RcAt lo B0 g t5 w.heap.size V s E ne ce none 0 0 es []) ∧ Hid (Below w.heap.size w V) ∧ Hid (rdEs (m0 - k) es s = (es1, s1))) (fun i _ _ _ => m0 - (intOf i).toNat)
    case atStart => exact ⟨0, 0, 0, none, [], s0, rfl, Nat.zero_le _, Nat.le_refl _, HD3.out.1, HD3.out.2, HE1.out⟩
    case round =>
      obtain ⟨k, ne, ce, E, es, s, rfl, hkm, hnk, HD, HV, HQ⟩ := hrel
      by_cases hm : k < m0
      · have dm : decide (k < m0) = true := decide_eq_true hm
        have dm2 : decide ((k : Int) < (m0 : Int)) = true := decide_eq_true (by omega)
        cases s with
        | bad ee =>
          obtain ⟨he1, he2⟩ : es = es1 ∧ s1 = .bad ee := by
            have := HQ.out
            rw [rdEs_bad] at this
            injection this with p q
            exact ⟨p, q.symm⟩
          subst he1
          subst he2
          obtain ⟨_, _, _, hgc, hee, _⟩ := HD.out.rd
          obtain ⟨⟨q0, q1⟩, _, _⟩ := row2 hgc
          clear hgc
          go_wp2_with fail
          go_meet
          case rel => exact ⟨ne, ce, E, HD, HV⟩
        | ok rr =>
          obtain ⟨_, _, _, hgc, _⟩ := HD.out.rd
          obtain ⟨⟨q0, q1⟩, _, _⟩ := row2 hgc
          have hwz := HV.out.size
          have hrd := read_any g 8 (.ok rr) wr HD.out.rd (by omega) (by decide)
          have HRD := Lib.hid hrd
          have HQ5 := Lib.hid (show rdEs (m0 - (k + 1)) (es ++ [evZ (rdZ 8 (.ok rr)).1]) (rdZ 8 (.ok rr)).2 = (es1, s1) from by
            rw [← HQ.out, show m0 - k = (m0 - (k + 1)) + 1 by omega, rdEs]
            rfl)
          have HZL := Lib.hid (rdZ_len 8 (.ok rr))
          obtain ⟨⟨zl, s5⟩, hz8⟩ : ∃ y, rdZ 8 (.ok rr) = y := ⟨_, rfl⟩
          rw [hz8] at HRD HQ5 HZL
          clear hgc hrd hz8
          obtain ⟨xk, xn, xa, xc, xh, xt, xi, xp, rfl⟩ := list8 HZL.out
          go_upto_region 8 with (go_at_call 59; refine HRD.out.mono ?_; clear HRD; rintro e w5 ⟨⟨A5, c5, rfl, ho5⟩, h5, b5⟩; have H5 := Lib.hid (And.intro ho5 (And.intro h5 b5)); clear ho5 h5 b5)
          obtain ⟨gr, rfl, hgr1, hgr2, hgr3⟩ := own_cellsI H5.out.1 (by decide)
          have D5 := Lib.hid (HD.out.but H5.out.2.2 H5.out.2.1)
          have V5 := Lib.hid (HV.out.grown H5.out.2.2 (by omega) (fun b e => by injection e with e; omega))
          have HC := Lib.hid (fun (V : World) (hV : Below w5.heap.size w5 V) => show ((V.cell? ⟨gr, 0, none⟩ = some (.int .i64 xk) ∧ V.cell? ⟨gr, 1, none⟩ = some (.int .i64 xn)) ∧ V.cell? ⟨gr, 2, none⟩ = some (.int .i64 xa) ∧ V.cell? ⟨gr, 3, none⟩ = some (.int .i64 xc)) ∧ (V.cell? ⟨gr, 4, none⟩ = some (.int .i64 xh) ∧ V.cell? ⟨gr, 5, none⟩ = some (.int .i64 xt)) ∧ V.cell? ⟨gr, 6, none⟩ = some (.int .i64 xi) ∧ V.cell? ⟨gr, 7, none⟩ = some (.int .i64 xp) from by
            have h := hgr3 V (hV.block gr hgr2)
            exact ⟨⟨⟨h 0 _ rfl, h 1 _ rfl⟩, h 2 _ rfl, h 3 _ rfl⟩, ⟨h 4 _ rfl, h 5 _ rfl⟩, h 6 _ rfl, h 7 _ rfl⟩)
          have hsz5 := H5.out.2.2.size
          clear hgr3 H5 q0 q1 HD HV
          refine RgX.tail 28 (fun i => (if i = 27 then 9 else 33 + i)) (fun ix_ => match ix_ with | 0 => .v (.slice (some ⟨gr, 0, none⟩) 8 c5) | 1 => .v (.pointer (some ⟨gr, 0, none⟩)) | 2 => .v (.int .i64 xk) | 3 => .v (.slice (some ⟨gr, 0, none⟩) 8 c5) | 4 => .v (.pointer (some ⟨gr, 1, none⟩)) | 5 => .v (.int .i64 xn) | 6 => .v (.slice (some ⟨gr, 0, none⟩) 8 c5) | 7 => .v (.pointer (some ⟨gr, 2, none⟩)) | 8 => .v (.int .i64 xa) | 9 => .v (.slice (some ⟨gr, 0, none⟩) 8 c5) | 10 => .v (.pointer (some ⟨gr, 3, none⟩)) | 11 => .v (.int .i64 xc) | 12 => .v (.slice (some ⟨gr, 0, none⟩) 8 c5) | 13 => .v (.pointer (some ⟨gr, 4, none⟩)) | 14 => .v (.int .i64 xh) | 15 => .v (.slice (some ⟨gr, 0, none⟩) 8 c5) | 16 => .v (.pointer (some ⟨gr, 5, none⟩)) | 17 => .v (.int .i64 xt) | 18 => .v (.agg #[.int .i64 xc, .int .i64 xh, .int .i64 xt]) | 19 => .v (.slice (some ⟨gr, 0, none⟩) 8 c5) | 20 => .v (.pointer (some ⟨gr, 6, none⟩)) | 21 => .v (.int .i64 xi) | 22 => .v (.slice (some ⟨gr, 0, none⟩) 8 c5) | 23 => .v (.pointer (some ⟨gr, 7, none⟩)) | 24 => .v (.int .i64 xp) | 25 => .v (.agg #[.int .i64 xc, .int .i64 xh, .int .i64 xt, .int .i64 xi, .int .i64 xp]) | 26 => .v (.agg #[.int .i64 xk, .int .i64 xn, .int .i64 xa, .int .i64 xc, .int .i64 xh, .int .i64 xt, .int .i64 xi, .int .i64 xp]) | 27 => .boxn (w5.heap.size) #[.int .i64 0, .int .i64 0, .int .i64 0, .int .i64 0, .int .i64 0, .int .i64 0, .int .i64 0, .int .i64 0] 47 | _ => .any) _ (by kernel_rfl) rfl rfl (by kernel_rfl) (by kernel_rfl) (fun i hi => by show (if i = 27 then 9 else 33 + i) < 136; (repeat' split) <;> omega) (fun i j hi hj => by show (if i = 27 then 9 else 33 + i) = (if j = 27 then 9 else 33 + j) → i = j; (repeat' split) <;> omega) ?step ?fin
          case step =>
            intro L_ A_ w3 ix op_ hi hI ho hdep
            have hcase : ix = 0 ∨ ix = 1 ∨ ix = 2 ∨ ix = 3 ∨ ix = 4 ∨ ix = 5 ∨ ix = 6 ∨ ix = 7 ∨ ix = 8 ∨ ix = 9 ∨ ix = 10 ∨ ix = 11 ∨ ix = 12 ∨ ix = 13 ∨ ix = 14 ∨ ix = 15 ∨ ix = 16 ∨ ix = 17 ∨ ix = 18 ∨ ix = 19 ∨ ix = 20 ∨ ix = 21 ∨ ix = 22 ∨ ix = 23 ∨ ix = 24 ∨ ix = 25 ∨ ix = 26 ∨ ix = 27 := by omega
            have hh := hI.held
            clear hi
            rcases hcase with rfl | rfl | rfl | rfl | rfl | rfl | rfl | rfl | rfl | rfl | rfl | rfl | rfl | rfl | rfl | rfl | rfl | rfl | rfl | rfl | rfl | rfl | rfl | rfl | rfl | rfl | rfl | rfl
            · simp only [List.getElem?_toArray, List.getElem?_cons_zero, Option.some.injEq] at ho
              subst ho
              refine ⟨rfl, ?_⟩
              have e8 : A_.tmps[8]?.getD undef = .slice (some ⟨gr, 0, none⟩) 8 c5 := by rw [hI.low 8 (by decide)]; rfl
              clear hI hdep
              exact .run rfl (.slice (some ⟨gr, 0, none⟩) 8 c5) w3 (by simp [execOp, go_sem, Act.eval, e8]) (Below.refl _ _) rfl
            · simp only [List.getElem?_toArray, List.getElem?_cons_succ, List.getElem?_cons_zero, Option.some.injEq] at ho
              subst ho
              refine ⟨rfl, ?_⟩
              have e33 : A_.tmps[33]?.getD undef = .slice (some ⟨gr, 0, none⟩) 8 c5 := getD_of (hI.val_ (i := 0) rfl rfl (by decide) (hdep ⟨0, .data⟩ (by simp) rfl))
              clear hI hdep
              exact .run rfl (.pointer (some ⟨gr, 0, none⟩)) w3 (by simp [execOp, go_sem, Act.eval, e33]) (Below.refl _ _) rfl
            · simp only [List.getElem?_toArray, List.getElem?_cons_succ, List.getElem?_cons_zero, Option.some.injEq] at ho
              subst ho
              refine ⟨rfl, ?_⟩
              have e34 : A_.tmps[34]?.getD undef = .pointer (some ⟨gr, 0, none⟩) := getD_of (hI.val_ (i := 1) rfl rfl (by decide) (hdep ⟨1, .data⟩ (by simp) rfl))
              clear hI hdep
              obtain ⟨⟨⟨y0, y1⟩, y2, y3⟩, ⟨y4, y5⟩, y6, y7⟩ := HC.out w3 hh
              exact .run rfl (.int .i64 xk) w3 (by simp [execOp, go_sem, Act.eval, *]) (Below.refl _ _) rfl
            · simp only [List.getElem?_toArray, List.getElem?_cons_succ, List.getElem?_cons_zero, Option.some.injEq] at ho
              subst ho
              refine ⟨rfl, ?_⟩
              have e8 : A_.tmps[8]?.getD undef = .slice (some ⟨gr, 0, none⟩) 8 c5 := by rw [hI.low 8 (by decide)]; rfl
              clear hI hdep
              exact .run rfl (.slice (some ⟨gr, 0, none⟩) 8 c5) w3 (by simp [execOp, go_sem, Act.eval, e8]) (Below.refl _ _) rfl
            · simp only [List.getElem?_toArray, List.getElem?_cons_succ, List.getElem?_cons_zero, Option.some.injEq] at ho
              subst ho
              refine ⟨rfl, ?_⟩
              have e36 : A_.tmps[36]?.getD undef = .slice (some ⟨gr, 0, none⟩) 8 c5 := getD_of (hI.val_ (i := 3) rfl rfl (by decide) (hdep ⟨3, .data⟩ (by simp) rfl))
              clear hI hdep
              exact .run rfl (.pointer (some ⟨gr, 1, none⟩)) w3 (by simp [execOp, go_sem, Act.eval, e36]) (Below.refl _ _) rfl
            · simp only [List.getElem?_toArray, List.getElem?_cons_succ, List.getElem?_cons_zero, Option.some.injEq] at ho
              subst ho
              refine ⟨rfl, ?_⟩
              have e37 : A_.tmps[37]?.getD undef = .pointer (some ⟨gr, 1, none⟩) := getD_of (hI.val_ (i := 4) rfl rfl (by decide) (hdep ⟨4, .data⟩ (by simp) rfl))
              clear hI hdep
              obtain ⟨⟨⟨y0, y1⟩, y2, y3⟩, ⟨y4, y5⟩, y6, y7⟩ := HC.out w3 hh
              exact .run rfl (.int .i64 xn) w3 (by simp [execOp, go_sem, Act.eval, *]) (Below.refl _ _) rfl
            · simp only [List.getElem?_toArray, List.getElem?_cons_succ, List.getElem?_cons_zero, Option.some.injEq] at ho
              subst ho
              refine ⟨rfl, ?_⟩
              have e8 : A_.tmps[8]?.getD undef = .slice (some ⟨gr, 0, none⟩) 8 c5 := by rw [hI.low 8 (by decide)]; rfl
              clear hI hdep
              exact .run rfl (.slice (some ⟨gr, 0, none⟩) 8 c5) w3 (by simp [execOp, go_sem, Act.eval, e8]) (Below.refl _ _) rfl
            · simp only [List.getElem?_toArray, List.getElem?_cons_succ, List.getElem?_cons_zero, Option.some.injEq] at ho
              subst ho
              refine ⟨rfl, ?_⟩
              have e39 : A_.tmps[39]?.getD undef = .slice (some ⟨gr, 0, none⟩) 8 c5 := getD_of (hI.val_ (i := 6) rfl rfl (by decide) (hdep ⟨6, .data⟩ (by simp) rfl))
              clear hI hdep
              exact .run rfl (.pointer (some ⟨gr, 2, none⟩)) w3 (by simp [execOp, go_sem, Act.eval, e39]) (Below.refl _ _) rfl
            · simp only [List.getElem?_toArray, List.getElem?_cons_succ, List.getElem?_cons_zero, Option.some.injEq] at ho
              subst ho
              refine ⟨rfl, ?_⟩
              have e40 : A_.tmps[40]?.getD undef = .pointer (some ⟨gr, 2, none⟩) := getD_of (hI.val_ (i := 7) rfl rfl (by decide) (hdep ⟨7, .data⟩ (by simp) rfl))
              clear hI hdep
              obtain ⟨⟨⟨y0, y1⟩, y2, y3⟩, ⟨y4, y5⟩, y6, y7⟩ := HC.out w3 hh
              exact .run rfl (.int .i64 xa) w3 (by simp [execOp, go_sem, Act.eval, *]) (Below.refl _ _) rfl
            · simp only [List.getElem?_toArray, List.getElem?_cons_succ, List.getElem?_cons_zero, Option.some.injEq] at ho
              subst ho
              refine ⟨rfl, ?_⟩
              have e8 : A_.tmps[8]?.getD undef = .slice (some ⟨gr, 0, none⟩) 8 c5 := by rw [hI.low 8 (by decide)]; rfl
              clear hI hdep
              exact .run rfl (.slice (some ⟨gr, 0, none⟩) 8 c5) w3 (by simp [execOp, go_sem, Act.eval, e8]) (Below.refl _ _) rfl
            · simp only [List.getElem?_toArray, List.getElem?_cons_succ, List.getElem?_cons_zero, Option.some.injEq] at ho
              subst ho
              refine ⟨rfl, ?_⟩
              have e42 : A_.tmps[42]?.getD undef = .slice (some ⟨gr, 0, none⟩) 8 c5 := getD_of (hI.val_ (i := 9) rfl rfl (by decide) (hdep ⟨9, .data⟩ (by simp) rfl))
              clear hI hdep
              exact .run rfl (.pointer (some ⟨gr, 3, none⟩)) w3 (by simp [execOp, go_sem, Act.eval, e42]) (Below.refl _ _) rfl
            · simp only [List.getElem?_toArray, List.getElem?_cons_succ, List.getElem?_cons_zero, Option.some.injEq] at ho
              subst ho
              refine ⟨rfl, ?_⟩
              have e43 : A_.tmps[43]?.getD undef = .pointer (some ⟨gr, 3, none⟩) := getD_of (hI.val_ (i := 10) rfl rfl (by decide) (hdep ⟨10, .data⟩ (by simp) rfl))
              clear hI hdep
              obtain ⟨⟨⟨y0, y1⟩, y2, y3⟩, ⟨y4, y5⟩, y6, y7⟩ := HC.out w3 hh
              exact .run rfl (.int .i64 xc) w3 (by simp [execOp, go_sem, Act.eval, *]) (Below.refl _ _) rfl
            · simp only [List.getElem?_toArray, List.getElem?_cons_succ, List.getElem?_cons_zero, Option.some.injEq] at ho
              subst ho
              refine ⟨rfl, ?_⟩
              have e8 : A_.tmps[8]?.getD undef = .slice (some ⟨gr, 0, none⟩) 8 c5 := by rw [hI.low 8 (by decide)]; rfl
              clear hI hdep
              exact .run rfl (.slice (some ⟨gr, 0, none⟩) 8 c5) w3 (by simp [execOp, go_sem, Act.eval, e8]) (Below.refl _ _) rfl
            · simp only [List.getElem?_toArray, List.getElem?_cons_succ, List.getElem?_cons_zero, Option.some.injEq] at ho
              subst ho
              refine ⟨rfl, ?_⟩
              have e45 : A_.tmps[45]?.getD undef = .slice (some ⟨gr, 0, none⟩) 8 c5 := getD_of (hI.val_ (i := 12) rfl rfl (by decide) (hdep ⟨12, .data⟩ (by simp) rfl))
              clear hI hdep
              exact .run rfl (.pointer (some ⟨gr, 4, none⟩)) w3 (by simp [execOp, go_sem, Act.eval, e45]) (Below.refl _ _) rfl
            · simp only [List.getElem?_toArray, List.getElem?_cons_succ, List.getElem?_cons_zero, Option.some.injEq] at ho
              subst ho
              refine ⟨rfl, ?_⟩
              have e46 : A_.tmps[46]?.getD undef = .pointer (some ⟨gr, 4, none⟩) := getD_of (hI.val_ (i := 13) rfl rfl (by decide) (hdep ⟨13, .data⟩ (by simp) rfl))
              clear hI hdep
              obtain ⟨⟨⟨y0, y1⟩, y2, y3⟩, ⟨y4, y5⟩, y6, y7⟩ := HC.out w3 hh
              exact .run rfl (.int .i64 xh) w3 (by simp [execOp, go_sem, Act.eval, *]) (Below.refl _ _) rfl
            · simp only [List.getElem?_toArray, List.getElem?_cons_succ, List.getElem?_cons_zero, Option.some.injEq] at ho
              subst ho
              refine ⟨rfl, ?_⟩
              have e8 : A_.tmps[8]?.getD undef = .slice (some ⟨gr, 0, none⟩) 8 c5 := by rw [hI.low 8 (by decide)]; rfl
              clear hI hdep
              exact .run rfl (.slice (some ⟨gr, 0, none⟩) 8 c5) w3 (by simp [execOp, go_sem, Act.eval, e8]) (Below.refl _ _) rfl
            · simp only [List.getElem?_toArray, List.getElem?_cons_succ, List.getElem?_cons_zero, Option.some.injEq] at ho
              subst ho
              refine ⟨rfl, ?_⟩
              have e48 : A_.tmps[48]?.getD undef = .slice (some ⟨gr, 0, none⟩) 8 c5 := getD_of (hI.val_ (i := 15) rfl rfl (by decide) (hdep ⟨15, .data⟩ (by simp) rfl))
              clear hI hdep
              exact .run rfl (.pointer (some ⟨gr, 5, none⟩)) w3 (by simp [execOp, go_sem, Act.eval, e48]) (Below.refl _ _) rfl
            · simp only [List.getElem?_toArray, List.getElem?_cons_succ, List.getElem?_cons_zero, Option.some.injEq] at ho
              subst ho
              refine ⟨rfl, ?_⟩
              have e49 : A_.tmps[49]?.getD undef = .pointer (some ⟨gr, 5, none⟩) := getD_of (hI.val_ (i := 16) rfl rfl (by decide) (hdep ⟨16, .data⟩ (by simp) rfl))
              clear hI hdep
              obtain ⟨⟨⟨y0, y1⟩, y2, y3⟩, ⟨y4, y5⟩, y6, y7⟩ := HC.out w3 hh
              exact .run rfl (.int .i64 xt) w3 (by simp [execOp, go_sem, Act.eval, *]) (Below.refl _ _) rfl
            · simp only [List.getElem?_toArray, List.getElem?_cons_succ, List.getElem?_cons_zero, Option.some.injEq] at ho
              subst ho
              refine ⟨rfl, ?_⟩
              have e44 : A_.tmps[44]?.getD undef = .int .i64 xc := getD_of (hI.val_ (i := 11) rfl rfl (by decide) (hdep ⟨11, .data⟩ (by simp) rfl))
              have e47 : A_.tmps[47]?.getD undef = .int .i64 xh := getD_of (hI.val_ (i := 14) rfl rfl (by decide) (hdep ⟨14, .data⟩ (by simp) rfl))
              have e50 : A_.tmps[50]?.getD undef = .int .i64 xt := getD_of (hI.val_ (i := 17) rfl rfl (by decide) (hdep ⟨17, .data⟩ (by simp) rfl))
              clear hI hdep
              exact .run rfl (.agg #[.int .i64 xc, .int .i64 xh, .int .i64 xt]) w3 (by simp [execOp, go_sem, Act.eval, e44, e47, e50]) (Below.refl _ _) rfl
            · simp only [List.getElem?_toArray, List.getElem?_cons_succ, List.getElem?_cons_zero, Option.some.injEq] at ho
              subst ho
              refine ⟨rfl, ?_⟩
              have e8 : A_.tmps[8]?.getD undef = .slice (some ⟨gr, 0, none⟩) 8 c5 := by rw [hI.low 8 (by decide)]; rfl
              clear hI hdep
              exact .run rfl (.slice (some ⟨gr, 0, none⟩) 8 c5) w3 (by simp [execOp, go_sem, Act.eval, e8]) (Below.refl _ _) rfl
            · simp only [List.getElem?_toArray, List.getElem?_cons_succ, List.getElem?_cons_zero, Option.some.injEq] at ho
              subst ho
              refine ⟨rfl, ?_⟩
              have e52 : A_.tmps[52]?.getD undef = .slice (some ⟨gr, 0, none⟩) 8 c5 := getD_of (hI.val_ (i := 19) rfl rfl (by decide) (hdep ⟨19, .data⟩ (by simp) rfl))
              clear hI hdep
              exact .run rfl (.pointer (some ⟨gr, 6, none⟩)) w3 (by simp [execOp, go_sem, Act.eval, e52]) (Below.refl _ _) rfl
            · simp only [List.getElem?_toArray, List.getElem?_cons_succ, List.getElem?_cons_zero, Option.some.injEq] at ho
              subst ho
              refine ⟨rfl, ?_⟩
              have e53 : A_.tmps[53]?.getD undef = .pointer (some ⟨gr, 6, none⟩) := getD_of (hI.val_ (i := 20) rfl rfl (by decide) (hdep ⟨20, .data⟩ (by simp) rfl))
              clear hI hdep
              obtain ⟨⟨⟨y0, y1⟩, y2, y3⟩, ⟨y4, y5⟩, y6, y7⟩ := HC.out w3 hh
              exact .run rfl (.int .i64 xi) w3 (by simp [execOp, go_sem, Act.eval, *]) (Below.refl _ _) rfl
            · simp only [List.getElem?_toArray, List.getElem?_cons_succ, List.getElem?_cons_zero, Option.some.injEq] at ho
              subst ho
              refine ⟨rfl, ?_⟩
              have e8 : A_.tmps[8]?.getD undef = .slice (some ⟨gr, 0, none⟩) 8 c5 := by rw [hI.low 8 (by decide)]; rfl
              clear hI hdep
              exact .run rfl (.slice (some ⟨gr, 0, none⟩) 8 c5) w3 (by simp [execOp, go_sem, Act.eval, e8]) (Below.refl _ _) rfl
            · simp only [List.getElem?_toArray, List.getElem?_cons_succ, List.getElem?_cons_zero, Option.some.injEq] at ho
              subst ho
              refine ⟨rfl, ?_⟩
              have e55 : A_.tmps[55]?.getD undef = .slice (some ⟨gr, 0, none⟩) 8 c5 := getD_of (hI.val_ (i := 22) rfl rfl (by decide) (hdep ⟨22, .data⟩ (by simp) rfl))
              clear hI hdep
              exact .run rfl (.pointer (some ⟨gr, 7, none⟩)) w3 (by simp [execOp, go_sem, Act.eval, e55]) (Below.refl _ _) rfl
            · simp only [List.getElem?_toArray, List.getElem?_cons_succ, List.getElem?_cons_zero, Option.some.injEq] at ho
              subst ho
              refine ⟨rfl, ?_⟩
              have e56 : A_.tmps[56]?.getD undef = .pointer (some ⟨gr, 7, none⟩) := getD_of (hI.val_ (i := 23) rfl rfl (by decide) (hdep ⟨23, .data⟩ (by simp) rfl))
              clear hI hdep
              obtain ⟨⟨⟨y0, y1⟩, y2, y3⟩, ⟨y4, y5⟩, y6, y7⟩ := HC.out w3 hh
              exact .run rfl (.int .i64 xp) w3 (by simp [execOp, go_sem, Act.eval, *]) (Below.refl _ _) rfl
            · simp only [List.getElem?_toArray, List.getElem?_cons_succ, List.getElem?_cons_zero, Option.some.injEq] at ho
              subst ho
              refine ⟨rfl, ?_⟩
              have e51 : A_.tmps[51]?.getD undef = .agg #[.int .i64 xc, .int .i64 xh, .int .i64 xt] := getD_of (hI.val_ (i := 18) rfl rfl (by decide) (hdep ⟨18, .data⟩ (by simp) rfl))
              have e54 : A_.tmps[54]?.getD undef = .int .i64 xi := getD_of (hI.val_ (i := 21) rfl rfl (by decide) (hdep ⟨21, .data⟩ (by simp) rfl))
              have e57 : A_.tmps[57]?.getD undef = .int .i64 xp := getD_of (hI.val_ (i := 24) rfl rfl (by decide) (hdep ⟨24, .data⟩ (by simp) rfl))
              clear hI hdep
              exact .run rfl (.agg #[.int .i64 xc, .int .i64 xh, .int .i64 xt, .int .i64 xi, .int .i64 xp]) w3 (by simp [execOp, go_sem, Act.eval, e51, e54, e57]) (Below.refl _ _) rfl
            · simp only [List.getElem?_toArray, List.getElem?_cons_succ, List.getElem?_cons_zero, Option.some.injEq] at ho
              subst ho
              refine ⟨rfl, ?_⟩
              have e35 : A_.tmps[35]?.getD undef = .int .i64 xk := getD_of (hI.val_ (i := 2) rfl rfl (by decide) (hdep ⟨2, .data⟩ (by simp) rfl))
              have e38 : A_.tmps[38]?.getD undef = .int .i64 xn := getD_of (hI.val_ (i := 5) rfl rfl (by decide) (hdep ⟨5, .data⟩ (by simp) rfl))
              have e41 : A_.tmps[41]?.getD undef = .int .i64 xa := getD_of (hI.val_ (i := 8) rfl rfl (by decide) (hdep ⟨8, .data⟩ (by simp) rfl))
              have e58 : A_.tmps[58]?.getD undef = .agg #[.int .i64 xc, .int .i64 xh, .int .i64 xt, .int .i64 xi, .int .i64 xp] := getD_of (hI.val_ (i := 25) rfl rfl (by decide) (hdep ⟨25, .data⟩ (by simp) rfl))
              clear hI hdep
              exact .run rfl (.agg #[.int .i64 xk, .int .i64 xn, .int .i64 xa, .int .i64 xc, .int .i64 xh, .int .i64 xt, .int .i64 xi, .int .i64 xp]) w3 (by simp [execOp, go_sem, Act.eval, e35, e38, e41, e58]) (Below.refl _ _) rfl
            · simp only [List.getElem?_toArray, List.getElem?_cons_succ, List.getElem?_cons_zero, Option.some.injEq] at ho
              subst ho
              refine ⟨rfl, ?_⟩
              clear hI hdep
              exact .run rfl (.pointer (some ⟨w3.heap.size, 0, none⟩)) (w3.alloc (.cells #[.int .i64 0, .int .i64 0, .int .i64 0, .int .i64 0, .int .i64 0, .int .i64 0, .int .i64 0, .int .i64 0] 47)) (by simp [execOp, go_sem]) ((Below.refl _ _).alloc (Nat.le_refl _) _) ⟨_, rfl, heap_alloc_new _ _, hh.size⟩
          case fin =>
          intro A_ w3 hs hd hlow hS hok
          obtain ⟨_, hy9, g9, rfl, r9, l9⟩ := hok 27 9 _ (by decide) rfl rfl
          obtain rfl : A_ = ⟨#[.slice AD nD cD, undef, .pointer (some ⟨w.heap.size, 0, none⟩), .int .i64 0, .pointer (some ⟨g, 0, none⟩), .pointer (some ⟨t5, 0, none⟩), .int .i64 (m0 : Int), .int .i64 (k : Int), .slice (some ⟨gr, 0, none⟩) 8 c5, .pointer (some ⟨g9, 0, none⟩), undef, undef, undef, undef, .slice AD nD cD, .agg #[.slice AD nD cD, .int .i64 0], .pointer (some ⟨g, 0, none⟩), .pointer (some ⟨g, 0, none⟩), .int .i64 (m0 : Int), .int .i64 (k : Int), .int .i64 (m0 : Int), .bool true, .bool true, .pointer (some ⟨g, 0, none⟩), .pointer (some ⟨g, 0, none⟩), .pointer (some ⟨g, 1, none⟩), .int .i64 0, .bool true, .bool true, u29, u30, .pointer (some ⟨g, 0, none⟩), .slice (some ⟨gr, 0, none⟩) 8 c5, .slice (some ⟨gr, 0, none⟩) 8 c5, .pointer (some ⟨gr, 0, none⟩), .int .i64 xk, .slice (some ⟨gr, 0, none⟩) 8 c5, .pointer (some ⟨gr, 1, none⟩), .int .i64 xn, .slice (some ⟨gr, 0, none⟩) 8 c5, .pointer (some ⟨gr, 2, none⟩), .int .i64 xa, .slice (some ⟨gr, 0, none⟩) 8 c5, .pointer (some ⟨gr, 3, none⟩), .int .i64 xc, .slice (some ⟨gr, 0, none⟩) 8 c5, .pointer (some ⟨gr, 4, none⟩), .int .i64 xh, .slice (some ⟨gr, 0, none⟩) 8 c5, .pointer (some ⟨gr, 5, none⟩), .int .i64 xt, .agg #[.int .i64 xc, .int .i64 xh, .int .i64 xt], .slice (some ⟨gr, 0, none⟩) 8 c5, .pointer (some ⟨gr, 6, none⟩), .int .i64 xi, .slice (some ⟨gr, 0, none⟩) 8 c5, .pointer (some ⟨gr, 7, none⟩), .int .i64 xp, .agg #[.int .i64 xc, .int .i64 xh, .int .i64 xt, .int .i64 xi, .int .i64 xp], .agg #[.int .i64 xk, .int .i64 xn, .int .i64 xa, .int .i64 xc, .int .i64 xh, .int .i64 xt, .int .i64 xi, .int .i64 xp], u60, u61, u62, u63, u64, u65, undef, undef, undef, undef, undef, undef, undef, undef, undef, undef, undef, undef, undef, undef, undef, undef, undef, undef, undef, undef, undef, undef, undef, undef, undef, undef, undef, undef, undef, undef, undef, undef, undef, undef, undef, undef, undef, undef, undef, undef, undef, undef, undef, undef, undef, undef, undef, undef, undef, undef, undef, undef, undef, undef, undef, undef, undef, undef, undef, undef, undef, undef, undef, undef, undef, undef, undef, undef, undef, undef], []⟩ := act_ext hd hs (fun j hj => match j, hj with | 0, _ => (hlow 0 (by decide)).trans rfl | 1, _ => (hlow 1 (by decide)).trans rfl | 2, _ => (hlow 2 (by decide)).trans rfl | 3, _ => (hlow 3 (by decide)).trans rfl | 4, _ => (hlow 4 (by decide)).trans rfl | 5, _ => (hlow 5 (by decide)).trans rfl | 6, _ => (hlow 6 (by decide)).trans rfl | 7, _ => (hlow 7 (by decide)).trans rfl | 8, _ => (hlow 8 (by decide)).trans rfl | 9, _ => hy9 | 10, _ => (hlow 10 (by decide)).trans rfl | 11, _ => (hlow 11 (by decide)).trans rfl | 12, _ => (hlow 12 (by decide)).trans rfl | 13, _ => (hlow 13 (by decide)).trans rfl | 14, _ => (hlow 14 (by decide)).trans rfl | 15, _ => (hlow 15 (by decide)).trans rfl | 16, _ => (hlow 16 (by decide)).trans rfl | 17, _ => (hlow 17 (by decide)).trans rfl | 18, _ => (hlow 18 (by decide)).trans rfl | 19, _ => (hlow 19 (by decide)).trans rfl | 20, _ => (hlow 20 (by decide)).trans rfl | 21, _ => (hlow 21 (by decide)).trans rfl | 22, _ => (hlow 22 (by decide)).trans rfl | 23, _ => (hlow 23 (by decide)).trans rfl | 24, _ => (hlow 24 (by decide)).trans rfl | 25, _ => (hlow 25 (by decide)).trans rfl | 26, _ => (hlow 26 (by decide)).trans rfl | 27, _ => (hlow 27 (by decide)).trans rfl | 28, _ => (hlow 28 (by decide)).trans rfl | 29, _ => (hlow 29 (by decide)).trans rfl | 30, _ => (hlow 30 (by decide)).trans rfl | 31, _ => (hlow 31 (by decide)).trans rfl | 32, _ => (hlow 32 (by decide)).trans rfl | 33, _ => RgX.val_at (hok 0 33 _ (by decide) rfl rfl) | 34, _ => RgX.val_at (hok 1 34 _ (by decide) rfl rfl) | 35, _ => RgX.val_at (hok 2 35 _ (by decide) rfl rfl) | 36, _ => RgX.val_at (hok 3 36 _ (by decide) rfl rfl) | 37, _ => RgX.val_at (hok 4 37 _ (by decide) rfl rfl) | 38, _ => RgX.val_at (hok 5 38 _ (by decide) rfl rfl) | 39, _ => RgX.val_at (hok 6 39 _ (by decide) rfl rfl) | 40, _ => RgX.val_at (hok 7 40 _ (by decide) rfl rfl) | 41, _ => RgX.val_at (hok 8 41 _ (by decide) rfl rfl) | 42, _ => RgX.val_at (hok 9 42 _ (by decide) rfl rfl) | 43, _ => RgX.val_at (hok 10 43 _ (by decide) rfl rfl) | 44, _ => RgX.val_at (hok 11 44 _ (by decide) rfl rfl) | 45, _ => RgX.val_at (hok 12 45 _ (by decide) rfl rfl) | 46, _ => RgX.val_at (hok 13 46 _ (by decide) rfl rfl) | 47, _ => RgX.val_at (hok 14 47 _ (by decide) rfl rfl) | 48, _ => RgX.val_at (hok 15 48 _ (by decide) rfl rfl) | 49, _ => RgX.val_at (hok 16 49 _ (by decide) rfl rfl) | 50, _ => RgX.val_at (hok 17 50 _ (by decide) rfl rfl) | 51, _ => RgX.val_at (hok 18 51 _ (by decide) rfl rfl) | 52, _ => RgX.val_at (hok 19 52 _ (by decide) rfl rfl) | 53, _ => RgX.val_at (hok 20 53 _ (by decide) rfl rfl) | 54, _ => RgX.val_at (hok 21 54 _ (by decide) rfl rfl) | 55, _ => RgX.val_at (hok 22 55 _ (by decide) rfl rfl) | 56, _ => RgX.val_at (hok 23 56 _ (by decide) rfl rfl) | 57, _ => RgX.val_at (hok 24 57 _ (by decide) rfl rfl) | 58, _ => RgX.val_at (hok 25 58 _ (by decide) rfl rfl) | 59, _ => RgX.val_at (hok 26 59 _ (by decide) rfl rfl) | 60, _ => (hlow 60 (by decide)).trans rfl | 61, _ => (hlow 61 (by decide)).trans rfl | 62, _ => (hlow 62 (by decide)).trans rfl | 63, _ => (hlow 63 (by decide)).trans rfl | 64, _ => (hlow 64 (by decide)).trans rfl | 65, _ => (hlow 65 (by decide)).trans rfl | 66, _ => (hlow 66 (by decide)).trans rfl | 67, _ => (hlow 67 (by decide)).trans rfl | 68, _ => (hlow 68 (by decide)).trans rfl | 69, _ => (hlow 69 (by decide)).trans rfl | 70, _ => (hlow 70 (by decide)).trans rfl | 71, _ => (hlow 71 (by decide)).trans rfl | 72, _ => (hlow 72 (by decide)).trans rfl | 73, _ => (hlow 73 (by decide)).trans rfl | 74, _ => (hlow 74 (by decide)).trans rfl | 75, _ => (hlow 75 (by decide)).trans rfl | 76, _ => (hlow 76 (by decide)).trans rfl | 77, _ => (hlow 77 (by decide)).trans rfl | 78, _ => (hlow 78 (by decide)).trans rfl | 79, _ => (hlow 79 (by decide)).trans rfl | 80, _ => (hlow 80 (by decide)).trans rfl | 81, _ => (hlow 81 (by decide)).trans rfl | 82, _ => (hlow 82 (by decide)).trans rfl | 83, _ => (hlow 83 (by decide)).trans rfl | 84, _ => (hlow 84 (by decide)).trans rfl | 85, _ => (hlow 85 (by decide)).trans rfl | 86, _ => (hlow 86 (by decide)).trans rfl | 87, _ => (hlow 87 (by decide)).trans rfl | 88, _ => (hlow 88 (by decide)).trans rfl | 89, _ => (hlow 89 (by decide)).trans rfl | 90, _ => (hlow 90 (by decide)).trans rfl | 91, _ => (hlow 91 (by decide)).trans rfl | 92, _ => (hlow 92 (by decide)).trans rfl | 93, _ => (hlow 93 (by decide)).trans rfl | 94, _ => (hlow 94 (by decide)).trans rfl | 95, _ => (hlow 95 (by decide)).trans rfl | 96, _ => (hlow 96 (by decide)).trans rfl | 97, _ => (hlow 97 (by decide)).trans rfl | 98, _ => (hlow 98 (by decide)).trans rfl | 99, _ => (hlow 99 (by decide)).trans rfl | 100, _ => (hlow 100 (by decide)).trans rfl | 101, _ => (hlow 101 (by decide)).trans rfl | 102, _ => (hlow 102 (by decide)).trans rfl | 103, _ => (hlow 103 (by decide)).trans rfl | 104, _ => (hlow 104 (by decide)).trans rfl | 105, _ => (hlow 105 (by decide)).trans rfl | 106, _ => (hlow 106 (by decide)).trans rfl | 107, _ => (hlow 107 (by decide)).trans rfl | 108, _ => (hlow 108 (by decide)).trans rfl | 109, _ => (hlow 109 (by decide)).trans rfl | 110, _ => (hlow 110 (by decide)).trans rfl | 111, _ => (hlow 111 (by decide)).trans rfl | 112, _ => (hlow 112 (by decide)).trans rfl | 113, _ => (hlow 113 (by decide)).trans rfl | 114, _ => (hlow 114 (by decide)).trans rfl | 115, _ => (hlow 115 (by decide)).trans rfl | 116, _ => (hlow 116 (by decide)).trans rfl | 117, _ => (hlow 117 (by decide)).trans rfl | 118, _ => (hlow 118 (by decide)).trans rfl | 119, _ => (hlow 119 (by decide)).trans rfl | 120, _ => (hlow 120 (by decide)).trans rfl | 121, _ => (hlow 121 (by decide)).trans rfl | 122, _ => (hlow 122 (by decide)).trans rfl | 123, _ => (hlow 123 (by decide)).trans rfl | 124, _ => (hlow 124 (by decide)).trans rfl | 125, _ => (hlow 125 (by decide)).trans rfl | 126, _ => (hlow 126 (by decide)).trans rfl | 127, _ => (hlow 127 (by decide)).trans rfl | 128, _ => (hlow 128 (by decide)).trans rfl | 129, _ => (hlow 129 (by decide)).trans rfl | 130, _ => (hlow 130 (by decide)).trans rfl | 131, _ => (hlow 131 (by decide)).trans rfl | 132, _ => (hlow 132 (by decide)).trans rfl | 133, _ => (hlow 133 (by decide)).trans rfl | 134, _ => (hlow 134 (by decide)).trans rfl | 135, _ => (hlow 135 (by decide)).trans rfl | n + 136, h => absurd h (by show ¬ n + 136 < 136; omega))
          clear hs hd hlow hok hy9
          have hs9 := hS.size
          refine RgX.wpList_store_seg rfl 47 _ _ rfl g9 0 (.agg #[.int .i64 xk, .int .i64 xn, .int .i64 xa, .int .i64 xc, .int .i64 xh, .int .i64 xt, .int .i64 xi, .int .i64 xp]) rfl rfl 47 _ r9 (by rw [size_evT]; rfl) (by show 0 + 8 ≤ 8; omega) (by simp [Value.cells, Value.oneCell']) #[.int .i64 xk, .int .i64 xn, .int .i64 xa, .int .i64 xc, .int .i64 xh, .int .i64 xt, .int .i64 xi, .int .i64 xp] rfl ?_
          intro v9 k9 ho9 hz9 hb9
          have h59 : Below w5.heap.size w5 v9 := hS.trans (hb9.mono l9)
          have H9 := Lib.hid (And.intro (D5.out.below h59) (V5.out.trans (h59.mono V5.out.size)))
          obtain ⟨e0, e1, e2, e3, e4, e5, e6, e7⟩ := row8W k9
          obtain ⟨⟨b0, b1⟩, bf0, bf1⟩ := row2 H9.out.1.box
          have lT := heap_lt H9.out.1.box
          have HQ6 := Lib.hid (show rdEs (m0 - (k + 1)) (es ++ [⟨xk, xn, xa, ⟨xc, xh, xt, xi, xp⟩⟩]) s5 = (es1, s1) from HQ5.out)
          clear h59 k9 ho9 hz9 hb9 hS hs9 r9 l9 HC HQ5 HZL
          go_wp2_with (at_builtin; refine wpList_append_lies _ rfl (.tmp 61) (.tmp 63) 23 rfl lo 47 iE _ 8 64 Try.underlying23 hiE hzE hsE hbE rfl (by decide) (.slice E ne ce) ne (es.flatMap evC) (by simp [Act.eval]) (own_belowT H9.out.1.row.2.1 (one_box v9 _)) ⟨v9.heap.size, 0, none⟩ 1 1 (evC ⟨xk, xn, xa, ⟨xc, xh, xt, xi, xp⟩⟩) (by simp [Act.eval]) rfl (World.news_of_block (World.alloc_heap_new v9 _)) (by simp [evC, Value.oneCell']) (by decide) (by simp only [maxLen]; omega) (by omega) (by simp; omega) _ rfl ?_
                       intro g10 c10 w10 hown10 hgr10 _ _
                       have D10 := H9.out.1.below (one_box v9 (.cells #[.int .i64 xk, .int .i64 xn, .int .i64 xa, .int .i64 xc, .int .i64 xh, .int .i64 xt, .int .i64 xi, .int .i64 xp] 47))
                       have hob : ∀ b, (Value.slice E ne ce).ownBlock = some b → lo ≤ b := fun b hb => (evRow_ne D10.row.2.1 hb).1
                       obtain ⟨⟨p0, p1⟩, pf0, pf1⟩ := row2 ((hgr10.block t5 (heap_lt D10.box) (fun e => by have := hob _ e.symm; omega)).trans D10.box)
                       have V10 := (H9.out.2.trans ((one_box v9 (.cells #[.int .i64 xk, .int .i64 xn, .int .i64 xa, .int .i64 xc, .int .i64 xh, .int .i64 xt, .int .i64 xi, .int .i64 xp] 47)).mono H9.out.2.size)).grown hgr10 (by have := H9.out.2.size; simp; omega) (fun b e => by have := hob _ e; omega)
                       have D11 := Lib.hid (D10.event hown10 hgr10)
                       have V11 := Lib.hid (V10.setCell (p := ⟨t5, 0, none⟩) (by show w.heap.size ≤ t5; omega) (.slice (some ⟨g10, 0, none⟩) (ne + 1) c10))
                       clear D10 hown10 hgr10 hob V10)
          go_roundw
          case rel => exact ⟨k + 1, ne + 1, c10, _, _, s5, by go_num, by omega, by omega, D11, V11, HQ6⟩
          case measure => simp [intOf]; omega
      · have dm : decide (k < m0) = false := decide_eq_false hm
        have dm2 : decide ((k : Int) < (m0 : Int)) = false := decide_eq_false (by omega)
        obtain ⟨he1, he2⟩ : es = es1 ∧ s = s1 := by
          have := HQ.out
          rw [show m0 - k = 0 by omega, rdEs] at this
          injection this with p q
          exact ⟨p, q⟩
        subst he1
        subst he2
        go_wp2_with fail
        go_meet
        case rel => exact ⟨ne, ce, E, HD, HV⟩
  case rest =>
    obtain ⟨ne, ce, E, HD1, HV1⟩ := hcut
    clear HD3
    obtain ⟨m1, hN1, hm1, _, hA1⟩ := refN_cases (most := 10000) HD1.out.rd.w64 (by decide)
    have HL1 := Lib.hid (count_any g 10000 s1 wc HD1.out.rd (by decide) (by decide))
    rw [hN1] at HL1
    obtain ⟨s2, hs2⟩ : ∃ s, (rdC 10000 s1).2 = s := ⟨_, rfl⟩
    rw [hs2] at HL1 hA1
    have HA0 := Lib.hid (And.intro hA1 hs2)
    clear hN1 hA1 hs2
    go_upto_block 2 with (go_at_call 58; refine HL1.out.mono ?_; clear HL1; rintro e w4 ⟨rfl, h4, b4⟩; have HB4 := Lib.hid (And.intro h4 b4); clear h4 b4)
    have HD4 := Lib.hid (And.intro (HD1.out.but HB4.out.2 HB4.out.1) (HV1.out.grown HB4.out.2 (by have := HV1.out.size; omega) (fun b e => by injection e with e; omega)))
    clear HB4 HD1 HV1
    obtain ⟨⟨l1, s3⟩, hAs⟩ : ∃ y, rdAs m1 [] s2 = y := ⟨_, rfl⟩
    have HAS := Lib.hid hAs
    clear hAs
    go_cut [] from 68 (fun V => ∃ na ca A, Hid (RcAt lo B0 g t5 w.heap.size V s3 E ne ce A na ca es1 l1) ∧ Hid (Below w.heap.size w V))
    case first =>
      go_wp2_with fail
      go_loopw [11, 12, 13] (fun i _ _ V => ∃ (k ca : Nat) (A : Option Addr) (l : List TP.An) (s : St), i = .int .i64 (k : Int) ∧ k ≤ m1 ∧ Hid (RcAt lo B0 g t5 w.heap.size V s E ne ce A k ca es1 l) ∧ Hid (Below w.heap.size w V) ∧ Hid (rdAs (m1 - k) l s = (l1, s3))) (fun i _ _ _ => m1 - (intOf i).toNat)
      case atStart => exact ⟨0, 0, none, [], s2, rfl, Nat.zero_le _, HD4.out.1, HD4.out.2, HAS.out⟩
      case round =>
        obtain ⟨k, ca, A, l, s, rfl, hkm, HD, HV, HQ⟩ := hrel
        by_cases hm : k < m1
        · have dm : decide (k < m1) = true := decide_eq_true hm
          have dm2 : decide ((k : Int) < (m1 : Int)) = true := decide_eq_true (by omega)
          cases s with
          | bad ee =>
            obtain ⟨he1, he2⟩ : l = l1 ∧ s3 = .bad ee := by
              have := HQ.out
              rw [rdAs_bad] at this
              injection this with p q
              exact ⟨p, q.symm⟩
            subst he1
            subst he2
            obtain ⟨_, _, _, hgc, hee, _⟩ := HD.out.rd
            obtain ⟨⟨q0, q1⟩, _, _⟩ := row2 hgc
            clear hgc
            go_wp2_with fail
            go_meet
            case rel => exact ⟨k, ca, A, HD, HV⟩
          | ok rr =>
            obtain ⟨_, _, _, hgc, _⟩ := HD.out.rd
            obtain ⟨⟨q0, q1⟩, _, _⟩ := row2 hgc
            have hwz := HV.out.size
            have hrd := read_any g 6 (.ok rr) wr HD.out.rd (by omega) (by decide)
            have HRD := Lib.hid hrd
            have HQ5 := Lib.hid (show rdAs (m1 - (k + 1)) (l ++ [anZ (rdZ 6 (.ok rr)).1]) (chkA l (anZ (rdZ 6 (.ok rr)).1) (rdZ 6 (.ok rr)).2) = (l1, s3) from by
              rw [← HQ.out, show m1 - k = (m1 - (k + 1)) + 1 by omega, rdAs]
              rfl)
            have HZL := Lib.hid (rdZ_len 6 (.ok rr))
            obtain ⟨⟨zl, s5⟩, hz8⟩ : ∃ y, rdZ 6 (.ok rr) = y := ⟨_, rfl⟩
            rw [hz8] at HRD HQ5 HZL
            clear hgc hrd hz8
            obtain ⟨xc, xh, xt, xk, xi, y, rfl⟩ := list6 HZL.out
            go_upto_region 15 with (go_at_call 59; refine HRD.out.mono ?_; clear HRD; rintro e w5 ⟨⟨A5, c5, rfl, ho5⟩, h5, b5⟩; have H5 := Lib.hid (And.intro ho5 (And.intro h5 b5)); clear ho5 h5 b5)
            obtain ⟨gr, rfl, hgr1, hgr2, hgr3⟩ := own_cellsI H5.out.1 (by decide)
            have D5 := Lib.hid (HD.out.but H5.out.2.2 H5.out.2.1)
            have V5 := Lib.hid (HV.out.grown H5.out.2.2 (by omega) (fun b e => by injection e with e; omega))
            have HC := Lib.hid (fun (V : World) (hV : Below w5.heap.size w5 V) => show ((V.cell? ⟨gr, 0, none⟩ = some (.int .i64 xc) ∧ V.cell? ⟨gr, 1, none⟩ = some (.int .i64 xh)) ∧ V.cell? ⟨gr, 2, none⟩ = some (.int .i64 xt) ∧ V.cell? ⟨gr, 3, none⟩ = some (.int .i64 xk)) ∧ V.cell? ⟨gr, 4, none⟩ = some (.int .i64 xi) ∧ V.cell? ⟨gr, 5, none⟩ = some (.int .i64 y) from by
              have h := hgr3 V (hV.block gr hgr2)
              exact ⟨⟨⟨h 0 _ rfl, h 1 _ rfl⟩, h 2 _ rfl, h 3 _ rfl⟩, h 4 _ rfl, h 5 _ rfl⟩)
            have hsz5 := H5.out.2.2.size
            have HQ6 := Lib.hid (show rdAs (m1 - (k + 1)) (l ++ [((⟨xc, xh, xt, xk, xi⟩ : NM.Qu), y)]) (chkA l (⟨xc, xh, xt, xk, xi⟩, y) s5) = (l1, s3) from HQ5.out)
            clear hgr3 H5 q0 q1 HD HV HQ5 HZL
            refine RgX.tail 22 (fun i => (if i = 21 then 13 else 82 + i)) (fun ix_ => match ix_ with | 0 => .v (.slice (some ⟨gr, 0, none⟩) 6 c5) | 1 => .v (.pointer (some ⟨gr, 0, none⟩)) | 2 => .v (.int .i64 xc) | 3 => .v (.slice (some ⟨gr, 0, none⟩) 6 c5) | 4 => .v (.pointer (some ⟨gr, 1, none⟩)) | 5 => .v (.int .i64 xh) | 6 => .v (.slice (some ⟨gr, 0, none⟩) 6 c5) | 7 => .v (.pointer (some ⟨gr, 2, none⟩)) | 8 => .v (.int .i64 xt) | 9 => .v (.agg #[.int .i64 xc, .int .i64 xh, .int .i64 xt]) | 10 => .v (.slice (some ⟨gr, 0, none⟩) 6 c5) | 11 => .v (.pointer (some ⟨gr, 3, none⟩)) | 12 => .v (.int .i64 xk) | 13 => .v (.slice (some ⟨gr, 0, none⟩) 6 c5) | 14 => .v (.pointer (some ⟨gr, 4, none⟩)) | 15 => .v (.int .i64 xi) | 16 => .v (.agg #[.int .i64 xc, .int .i64 xh, .int .i64 xt, .int .i64 xk, .int .i64 xi]) | 17 => .v (.slice (some ⟨gr, 0, none⟩) 6 c5) | 18 => .v (.pointer (some ⟨gr, 5, none⟩)) | 19 => .v (.int .i64 y) | 20 => .v (.agg #[.int .i64 xc, .int .i64 xh, .int .i64 xt, .int .i64 xk, .int .i64 xi, .int .i64 y]) | 21 => .boxn (w5.heap.size) #[.int .i64 0, .int .i64 0, .int .i64 0, .int .i64 0, .int .i64 0, .int .i64 0] 71 | _ => .any) _ (by kernel_rfl) rfl rfl (by kernel_rfl) (by kernel_rfl) (fun i hi => by show (if i = 21 then 13 else 82 + i) < 136; (repeat' split) <;> omega) (fun i j hi hj => by show (if i = 21 then 13 else 82 + i) = (if j = 21 then 13 else 82 + j) → i = j; (repeat' split) <;> omega) ?step ?fin
            case step =>
              intro L_ A_ w3 ix op_ hi hI ho hdep
              have hcase : ix = 0 ∨ ix = 1 ∨ ix = 2 ∨ ix = 3 ∨ ix = 4 ∨ ix = 5 ∨ ix = 6 ∨ ix = 7 ∨ ix = 8 ∨ ix = 9 ∨ ix = 10 ∨ ix = 11 ∨ ix = 12 ∨ ix = 13 ∨ ix = 14 ∨ ix = 15 ∨ ix = 16 ∨ ix = 17 ∨ ix = 18 ∨ ix = 19 ∨ ix = 20 ∨ ix = 21 := by omega
              have hh := hI.held
              clear hi
              rcases hcase with rfl | rfl | rfl | rfl | rfl | rfl | rfl | rfl | rfl | rfl | rfl | rfl | rfl | rfl | rfl | rfl | rfl | rfl | rfl | rfl | rfl | rfl
              · simp only [List.getElem?_toArray, List.getElem?_cons_zero, Option.some.injEq] at ho
                subst ho
                refine ⟨rfl, ?_⟩
                have e12 : A_.tmps[12]?.getD undef = .slice (some ⟨gr, 0, none⟩) 6 c5 := by rw [hI.low 12 (by decide)]; rfl
                clear hI hdep
                exact .run rfl (.slice (some ⟨gr, 0, none⟩) 6 c5) w3 (by simp [execOp, go_sem, Act.eval, e12]) (Below.refl _ _) rfl
              · simp only [List.getElem?_toArray, List.getElem?_cons_succ, List.getElem?_cons_zero, Option.some.injEq] at ho
                subst ho
                refine ⟨rfl, ?_⟩
                have e82 : A_.tmps[82]?.getD undef = .slice (some ⟨gr, 0, none⟩) 6 c5 := getD_of (hI.val_ (i := 0) rfl rfl (by decide) (hdep ⟨0, .data⟩ (by simp) rfl))
                clear hI hdep
                exact .run rfl (.pointer (some ⟨gr, 0, none⟩)) w3 (by simp [execOp, go_sem, Act.eval, e82]) (Below.refl _ _) rfl
              · simp only [List.getElem?_toArray, List.getElem?_cons_succ, List.getElem?_cons_zero, Option.some.injEq] at ho
                subst ho
                refine ⟨rfl, ?_⟩
                have e83 : A_.tmps[83]?.getD undef = .pointer (some ⟨gr, 0, none⟩) := getD_of (hI.val_ (i := 1) rfl rfl (by decide) (hdep ⟨1, .data⟩ (by simp) rfl))
                clear hI hdep
                obtain ⟨⟨⟨y0, y1⟩, y2, y3⟩, y4, y5⟩ := HC.out w3 hh
                exact .run rfl (.int .i64 xc) w3 (by simp [execOp, go_sem, Act.eval, *]) (Below.refl _ _) rfl
              · simp only [List.getElem?_toArray, List.getElem?_cons_succ, List.getElem?_cons_zero, Option.some.injEq] at ho
                subst ho
                refine ⟨rfl, ?_⟩
                have e12 : A_.tmps[12]?.getD undef = .slice (some ⟨gr, 0, none⟩) 6 c5 := by rw [hI.low 12 (by decide)]; rfl
                clear hI hdep
                exact .run rfl (.slice (some ⟨gr, 0, none⟩) 6 c5) w3 (by simp [execOp, go_sem, Act.eval, e12]) (Below.refl _ _) rfl
              · simp only [List.getElem?_toArray, List.getElem?_cons_succ, List.getElem?_cons_zero, Option.some.injEq] at ho
                subst ho
                refine ⟨rfl, ?_⟩
                have e85 : A_.tmps[85]?.getD undef = .slice (some ⟨gr, 0, none⟩) 6 c5 := getD_of (hI.val_ (i := 3) rfl rfl (by decide) (hdep ⟨3, .data⟩ (by simp) rfl))
                clear hI hdep
                exact .run rfl (.pointer (some ⟨gr, 1, none⟩)) w3 (by simp [execOp, go_sem, Act.eval, e85]) (Below.refl _ _) rfl
              · simp only [List.getElem?_toArray, List.getElem?_cons_succ, List.getElem?_cons_zero, Option.some.injEq] at ho
                subst ho
                refine ⟨rfl, ?_⟩
                have e86 : A_.tmps[86]?.getD undef = .pointer (some ⟨gr, 1, none⟩) := getD_of (hI.val_ (i := 4) rfl rfl (by decide) (hdep ⟨4, .data⟩ (by simp) rfl))
                clear hI hdep
                obtain ⟨⟨⟨y0, y1⟩, y2, y3⟩, y4, y5⟩ := HC.out w3 hh
                exact .run rfl (.int .i64 xh) w3 (by simp [execOp, go_sem, Act.eval, *]) (Below.refl _ _) rfl
              · simp only [List.getElem?_toArray, List.getElem?_cons_succ, List.getElem?_cons_zero, Option.some.injEq] at ho
                subst ho
                refine ⟨rfl, ?_⟩
                have e12 : A_.tmps[12]?.getD undef = .slice (some ⟨gr, 0, none⟩) 6 c5 := by rw [hI.low 12 (by decide)]; rfl
                clear hI hdep
                exact .run rfl (.slice (some ⟨gr, 0, none⟩) 6 c5) w3 (by simp [execOp, go_sem, Act.eval, e12]) (Below.refl _ _) rfl
              · simp only [List.getElem?_toArray, List.getElem?_cons_succ, List.getElem?_cons_zero, Option.some.injEq] at ho
                subst ho
                refine ⟨rfl, ?_⟩
                have e88 : A_.tmps[88]?.getD undef = .slice (some ⟨gr, 0, none⟩) 6 c5 := getD_of (hI.val_ (i := 6) rfl rfl (by decide) (hdep ⟨6, .data⟩ (by simp) rfl))
                clear hI hdep
                exact .run rfl (.pointer (some ⟨gr, 2, none⟩)) w3 (by simp [execOp, go_sem, Act.eval, e88]) (Below.refl _ _) rfl
              · simp only [List.getElem?_toArray, List.getElem?_cons_succ, List.getElem?_cons_zero, Option.some.injEq] at ho
                subst ho
                refine ⟨rfl, ?_⟩
                have e89 : A_.tmps[89]?.getD undef = .pointer (some ⟨gr, 2, none⟩) := getD_of (hI.val_ (i := 7) rfl rfl (by decide) (hdep ⟨7, .data⟩ (by simp) rfl))
                clear hI hdep
                obtain ⟨⟨⟨y0, y1⟩, y2, y3⟩, y4, y5⟩ := HC.out w3 hh
                exact .run rfl (.int .i64 xt) w3 (by simp [execOp, go_sem, Act.eval, *]) (Below.refl _ _) rfl
              · simp only [List.getElem?_toArray, List.getElem?_cons_succ, List.getElem?_cons_zero, Option.some.injEq] at ho
                subst ho
                refine ⟨rfl, ?_⟩
                have e84 : A_.tmps[84]?.getD undef = .int .i64 xc := getD_of (hI.val_ (i := 2) rfl rfl (by decide) (hdep ⟨2, .data⟩ (by simp) rfl))
                have e87 : A_.tmps[87]?.getD undef = .int .i64 xh := getD_of (hI.val_ (i := 5) rfl rfl (by decide) (hdep ⟨5, .data⟩ (by simp) rfl))
                have e90 : A_.tmps[90]?.getD undef = .int .i64 xt := getD_of (hI.val_ (i := 8) rfl rfl (by decide) (hdep ⟨8, .data⟩ (by simp) rfl))
                clear hI hdep
                exact .run rfl (.agg #[.int .i64 xc, .int .i64 xh, .int .i64 xt]) w3 (by simp [execOp, go_sem, Act.eval, e84, e87, e90]) (Below.refl _ _) rfl
              · simp only [List.getElem?_toArray, List.getElem?_cons_succ, List.getElem?_cons_zero, Option.some.injEq] at ho
                subst ho
                refine ⟨rfl, ?_⟩
                have e12 : A_.tmps[12]?.getD undef = .slice (some ⟨gr, 0, none⟩) 6 c5 := by rw [hI.low 12 (by decide)]; rfl
                clear hI hdep
                exact .run rfl (.slice (some ⟨gr, 0, none⟩) 6 c5) w3 (by simp [execOp, go_sem, Act.eval, e12]) (Below.refl _ _) rfl
              · simp only [List.getElem?_toArray, List.getElem?_cons_succ, List.getElem?_cons_zero, Option.some.injEq] at ho
                subst ho
                refine ⟨rfl, ?_⟩
                have e92 : A_.tmps[92]?.getD undef = .slice (some ⟨gr, 0, none⟩) 6 c5 := getD_of (hI.val_ (i := 10) rfl rfl (by decide) (hdep ⟨10, .data⟩ (by simp) rfl))
                clear hI hdep
                exact .run rfl (.pointer (some ⟨gr, 3, none⟩)) w3 (by simp [execOp, go_sem, Act.eval, e92]) (Below.refl _ _) rfl
              · simp only [List.getElem?_toArray, List.getElem?_cons_succ, List.getElem?_cons_zero, Option.some.injEq] at ho
                subst ho
                refine ⟨rfl, ?_⟩
                have e93 : A_.tmps[93]?.getD undef = .pointer (some ⟨gr, 3, none⟩) := getD_of (hI.val_ (i := 11) rfl rfl (by decide) (hdep ⟨11, .data⟩ (by simp) rfl))
                clear hI hdep
                obtain ⟨⟨⟨y0, y1⟩, y2, y3⟩, y4, y5⟩ := HC.out w3 hh
                exact .run rfl (.int .i64 xk) w3 (by simp [execOp, go_sem, Act.eval, *]) (Below.refl _ _) rfl
              · simp only [List.getElem?_toArray, List.getElem?_cons_succ, List.getElem?_cons_zero, Option.some.injEq] at ho
                subst ho
                refine ⟨rfl, ?_⟩
                have e12 : A_.tmps[12]?.getD undef = .slice (some ⟨gr, 0, none⟩) 6 c5 := by rw [hI.low 12 (by decide)]; rfl
                clear hI hdep
                exact .run rfl (.slice (some ⟨gr, 0, none⟩) 6 c5) w3 (by simp [execOp, go_sem, Act.eval, e12]) (Below.refl _ _) rfl
              · simp only [List.getElem?_toArray, List.getElem?_cons_succ, List.getElem?_cons_zero, Option.some.injEq] at ho
                subst ho
                refine ⟨rfl, ?_⟩
                have e95 : A_.tmps[95]?.getD undef = .slice (some ⟨gr, 0, none⟩) 6 c5 := getD_of (hI.val_ (i := 13) rfl rfl (by decide) (hdep ⟨13, .data⟩ (by simp) rfl))
                clear hI hdep
                exact .run rfl (.pointer (some ⟨gr, 4, none⟩)) w3 (by simp [execOp, go_sem, Act.eval, e95]) (Below.refl _ _) rfl
              · simp only [List.getElem?_toArray, List.getElem?_cons_succ, List.getElem?_cons_zero, Option.some.injEq] at ho
                subst ho
                refine ⟨rfl, ?_⟩
                have e96 : A_.tmps[96]?.getD undef = .pointer (some ⟨gr, 4, none⟩) := getD_of (hI.val_ (i := 14) rfl rfl (by decide) (hdep ⟨14, .data⟩ (by simp) rfl))
                clear hI hdep
                obtain ⟨⟨⟨y0, y1⟩, y2, y3⟩, y4, y5⟩ := HC.out w3 hh
                exact .run rfl (.int .i64 xi) w3 (by simp [execOp, go_sem, Act.eval, *]) (Below.refl _ _) rfl
              · simp only [List.getElem?_toArray, List.getElem?_cons_succ, List.getElem?_cons_zero, Option.some.injEq] at ho
                subst ho
                refine ⟨rfl, ?_⟩
                have e91 : A_.tmps[91]?.getD undef = .agg #[.int .i64 xc, .int .i64 xh, .int .i64 xt] := getD_of (hI.val_ (i := 9) rfl rfl (by decide) (hdep ⟨9, .data⟩ (by simp) rfl))
                have e94 : A_.tmps[94]?.getD undef = .int .i64 xk := getD_of (hI.val_ (i := 12) rfl rfl (by decide) (hdep ⟨12, .data⟩ (by simp) rfl))
                have e97 : A_.tmps[97]?.getD undef = .int .i64 xi := getD_of (hI.val_ (i := 15) rfl rfl (by decide) (hdep ⟨15, .data⟩ (by simp) rfl))
                clear hI hdep
                exact .run rfl (.agg #[.int .i64 xc, .int .i64 xh, .int .i64 xt, .int .i64 xk, .int .i64 xi]) w3 (by simp [execOp, go_sem, Act.eval, e91, e94, e97]) (Below.refl _ _) rfl
              · simp only [List.getElem?_toArray, List.getElem?_cons_succ, List.getElem?_cons_zero, Option.some.injEq] at ho
                subst ho
                refine ⟨rfl, ?_⟩
                have e12 : A_.tmps[12]?.getD undef = .slice (some ⟨gr, 0, none⟩) 6 c5 := by rw [hI.low 12 (by decide)]; rfl
                clear hI hdep
                exact .run rfl (.slice (some ⟨gr, 0, none⟩) 6 c5) w3 (by simp [execOp, go_sem, Act.eval, e12]) (Below.refl _ _) rfl
              · simp only [List.getElem?_toArray, List.getElem?_cons_succ, List.getElem?_cons_zero, Option.some.injEq] at ho
                subst ho
                refine ⟨rfl, ?_⟩
                have e99 : A_.tmps[99]?.getD undef = .slice (some ⟨gr, 0, none⟩) 6 c5 := getD_of (hI.val_ (i := 17) rfl rfl (by decide) (hdep ⟨17, .data⟩ (by simp) rfl))
                clear hI hdep
                exact .run rfl (.pointer (some ⟨gr, 5, none⟩)) w3 (by simp [execOp, go_sem, Act.eval, e99]) (Below.refl _ _) rfl
              · simp only [List.getElem?_toArray, List.getElem?_cons_succ, List.getElem?_cons_zero, Option.some.injEq] at ho
                subst ho
                refine ⟨rfl, ?_⟩
                have e100 : A_.tmps[100]?.getD undef = .pointer (some ⟨gr, 5, none⟩) := getD_of (hI.val_ (i := 18) rfl rfl (by decide) (hdep ⟨18, .data⟩ (by simp) rfl))
                clear hI hdep
                obtain ⟨⟨⟨y0, y1⟩, y2, y3⟩, y4, y5⟩ := HC.out w3 hh
                exact .run rfl (.int .i64 y) w3 (by simp [execOp, go_sem, Act.eval, *]) (Below.refl _ _) rfl
              · simp only [List.getElem?_toArray, List.getElem?_cons_succ, List.getElem?_cons_zero, Option.some.injEq] at ho
                subst ho
                refine ⟨rfl, ?_⟩
                have e98 : A_.tmps[98]?.getD undef = .agg #[.int .i64 xc, .int .i64 xh, .int .i64 xt, .int .i64 xk, .int .i64 xi] := getD_of (hI.val_ (i := 16) rfl rfl (by decide) (hdep ⟨16, .data⟩ (by simp) rfl))
                have e101 : A_.tmps[101]?.getD undef = .int .i64 y := getD_of (hI.val_ (i := 19) rfl rfl (by decide) (hdep ⟨19, .data⟩ (by simp) rfl))
                clear hI hdep
                exact .run rfl (.agg #[.int .i64 xc, .int .i64 xh, .int .i64 xt, .int .i64 xk, .int .i64 xi, .int .i64 y]) w3 (by simp [execOp, go_sem, Act.eval, e98, e101]) (Below.refl _ _) rfl
              · simp only [List.getElem?_toArray, List.getElem?_cons_succ, List.getElem?_cons_zero, Option.some.injEq] at ho
                subst ho
                refine ⟨rfl, ?_⟩
                clear hI hdep
                exact .run rfl (.pointer (some ⟨w3.heap.size, 0, none⟩)) (w3.alloc (.cells #[.int .i64 0, .int .i64 0, .int .i64 0, .int .i64 0, .int .i64 0, .int .i64 0] 71)) (by simp [execOp, go_sem]) ((Below.refl _ _).alloc (Nat.le_refl _) _) ⟨_, rfl, heap_alloc_new _ _, hh.size⟩
            case fin =>
            intro A_ w3 hs hd hlow hS hok
            obtain ⟨_, hy13, g13, rfl, r13, l13⟩ := hok 21 13 _ (by decide) rfl rfl
            obtain rfl : A_ = ⟨#[.slice AD nD cD, undef, .pointer (some ⟨w.heap.size, 0, none⟩), .int .i64 0, .pointer (some ⟨g, 0, none⟩), .pointer (some ⟨t5, 0, none⟩), .int .i64 (m0 : Int), u7, u8, u9, .int .i64 (m1 : Int), .int .i64 (k : Int), .slice (some ⟨gr, 0, none⟩) 6 c5, .pointer (some ⟨g13, 0, none⟩), .slice AD nD cD, .agg #[.slice AD nD cD, .int .i64 0], .pointer (some ⟨g, 0, none⟩), .pointer (some ⟨g, 0, none⟩), .int .i64 (m0 : Int), u19, u20, u21, u22, u23, u24, u25, u26, u27, u28, u29, u30, u31, u32, u33, u34, u35, u36, u37, u38, u39, u40, u41, u42, u43, u44, u45, u46, u47, u48, u49, u50, u51, u52, u53, u54, u55, u56, u57, u58, u59, u60, u61, u62, u63, u64, u65, .pointer (some ⟨g, 0, none⟩), .int .i64 (m1 : Int), .int .i64 (k : Int), .int .i64 (m1 : Int), .bool true, .bool true, .pointer (some ⟨g, 0, none⟩), .pointer (some ⟨g, 0, none⟩), .pointer (some ⟨g, 1, none⟩), .int .i64 0, .bool true, .bool true, u78, u79, .pointer (some ⟨g, 0, none⟩), .slice (some ⟨gr, 0, none⟩) 6 c5, .slice (some ⟨gr, 0, none⟩) 6 c5, .pointer (some ⟨gr, 0, none⟩), .int .i64 xc, .slice (some ⟨gr, 0, none⟩) 6 c5, .pointer (some ⟨gr, 1, none⟩), .int .i64 xh, .slice (some ⟨gr, 0, none⟩) 6 c5, .pointer (some ⟨gr, 2, none⟩), .int .i64 xt, .agg #[.int .i64 xc, .int .i64 xh, .int .i64 xt], .slice (some ⟨gr, 0, none⟩) 6 c5, .pointer (some ⟨gr, 3, none⟩), .int .i64 xk, .slice (some ⟨gr, 0, none⟩) 6 c5, .pointer (some ⟨gr, 4, none⟩), .int .i64 xi, .agg #[.int .i64 xc, .int .i64 xh, .int .i64 xt, .int .i64 xk, .int .i64 xi], .slice (some ⟨gr, 0, none⟩) 6 c5, .pointer (some ⟨gr, 5, none⟩), .int .i64 y, .agg #[.int .i64 xc, .int .i64 xh, .int .i64 xt, .int .i64 xk, .int .i64 xi, .int .i64 y], u103, u104, u105, u106, u107, u108, u109, u110, u111, u112, u113, u114, u115, u116, u117, u118, u119, u120, u121, u122, u123, u124, u125, u126, u127, u128, u129, u130, u131, u132, u133, u134, u135], []⟩ := act_ext hd hs (fun j hj => match j, hj with | 0, _ => (hlow 0 (by decide)).trans rfl | 1, _ => (hlow 1 (by decide)).trans rfl | 2, _ => (hlow 2 (by decide)).trans rfl | 3, _ => (hlow 3 (by decide)).trans rfl | 4, _ => (hlow 4 (by decide)).trans rfl | 5, _ => (hlow 5 (by decide)).trans rfl | 6, _ => (hlow 6 (by decide)).trans rfl | 7, _ => (hlow 7 (by decide)).trans rfl | 8, _ => (hlow 8 (by decide)).trans rfl | 9, _ => (hlow 9 (by decide)).trans rfl | 10, _ => (hlow 10 (by decide)).trans rfl | 11, _ => (hlow 11 (by decide)).trans rfl | 12, _ => (hlow 12 (by decide)).trans rfl | 13, _ => hy13 | 14, _ => (hlow 14 (by decide)).trans rfl | 15, _ => (hlow 15 (by decide)).trans rfl | 16, _ => (hlow 16 (by decide)).trans rfl | 17, _ => (hlow 17 (by decide)).trans rfl | 18, _ => (hlow 18 (by decide)).trans rfl | 19, _ => (hlow 19 (by decide)).trans rfl | 20, _ => (hlow 20 (by decide)).trans rfl | 21, _ => (hlow 21 (by decide)).trans rfl | 22, _ => (hlow 22 (by decide)).trans rfl | 23, _ => (hlow 23 (by decide)).trans rfl | 24, _ => (hlow 24 (by decide)).trans rfl | 25, _ => (hlow 25 (by decide)).trans rfl | 26, _ => (hlow 26 (by decide)).trans rfl | 27, _ => (hlow 27 (by decide)).trans rfl | 28, _ => (hlow 28 (by decide)).trans rfl | 29, _ => (hlow 29 (by decide)).trans rfl | 30, _ => (hlow 30 (by decide)).trans rfl | 31, _ => (hlow 31 (by decide)).trans rfl | 32, _ => (hlow 32 (by decide)).trans rfl | 33, _ => (hlow 33 (by decide)).trans rfl | 34, _ => (hlow 34 (by decide)).trans rfl | 35, _ => (hlow 35 (by decide)).trans rfl | 36, _ => (hlow 36 (by decide)).trans rfl | 37, _ => (hlow 37 (by decide)).trans rfl | 38, _ => (hlow 38 (by decide)).trans rfl | 39, _ => (hlow 39 (by decide)).trans rfl | 40, _ => (hlow 40 (by decide)).trans rfl | 41, _ => (hlow 41 (by decide)).trans rfl | 42, _ => (hlow 42 (by decide)).trans rfl | 43, _ => (hlow 43 (by decide)).trans rfl | 44, _ => (hlow 44 (by decide)).trans rfl | 45, _ => (hlow 45 (by decide)).trans rfl | 46, _ => (hlow 46 (by decide)).trans rfl | 47, _ => (hlow 47 (by decide)).trans rfl | 48, _ => (hlow 48 (by decide)).trans rfl | 49, _ => (hlow 49 (by decide)).trans rfl | 50, _ => (hlow 50 (by decide)).trans rfl | 51, _ => (hlow 51 (by decide)).trans rfl | 52, _ => (hlow 52 (by decide)).trans rfl | 53, _ => (hlow 53 (by decide)).trans rfl | 54, _ => (hlow 54 (by decide)).trans rfl | 55, _ => (hlow 55 (by decide)).trans rfl | 56, _ => (hlow 56 (by decide)).trans rfl | 57, _ => (hlow 57 (by decide)).trans rfl | 58, _ => (hlow 58 (by decide)).trans rfl | 59, _ => (hlow 59 (by decide)).trans rfl | 60, _ => (hlow 60 (by decide)).trans rfl | 61, _ => (hlow 61 (by decide)).trans rfl | 62, _ => (hlow 62 (by decide)).trans rfl | 63, _ => (hlow 63 (by decide)).trans rfl | 64, _ => (hlow 64 (by decide)).trans rfl | 65, _ => (hlow 65 (by decide)).trans rfl | 66, _ => (hlow 66 (by decide)).trans rfl | 67, _ => (hlow 67 (by decide)).trans rfl | 68, _ => (hlow 68 (by decide)).trans rfl | 69, _ => (hlow 69 (by decide)).trans rfl | 70, _ => (hlow 70 (by decide)).trans rfl | 71, _ => (hlow 71 (by decide)).trans rfl | 72, _ => (hlow 72 (by decide)).trans rfl | 73, _ => (hlow 73 (by decide)).trans rfl | 74, _ => (hlow 74 (by decide)).trans rfl | 75, _ => (hlow 75 (by decide)).trans rfl | 76, _ => (hlow 76 (by decide)).trans rfl | 77, _ => (hlow 77 (by decide)).trans rfl | 78, _ => (hlow 78 (by decide)).trans rfl | 79, _ => (hlow 79 (by decide)).trans rfl | 80, _ => (hlow 80 (by decide)).trans rfl | 81, _ => (hlow 81 (by decide)).trans rfl | 82, _ => RgX.val_at (hok 0 82 _ (by decide) rfl rfl) | 83, _ => RgX.val_at (hok 1 83 _ (by decide) rfl rfl) | 84, _ => RgX.val_at (hok 2 84 _ (by decide) rfl rfl) | 85, _ => RgX.val_at (hok 3 85 _ (by decide) rfl rfl) | 86, _ => RgX.val_at (hok 4 86 _ (by decide) rfl rfl) | 87, _ => RgX.val_at (hok 5 87 _ (by decide) rfl rfl) | 88, _ => RgX.val_at (hok 6 88 _ (by decide) rfl rfl) | 89, _ => RgX.val_at (hok 7 89 _ (by decide) rfl rfl) | 90, _ => RgX.val_at (hok 8 90 _ (by decide) rfl rfl) | 91, _ => RgX.val_at (hok 9 91 _ (by decide) rfl rfl) | 92, _ => RgX.val_at (hok 10 92 _ (by decide) rfl rfl) | 93, _ => RgX.val_at (hok 11 93 _ (by decide) rfl rfl) | 94, _ => RgX.val_at (hok 12 94 _ (by decide) rfl rfl) | 95, _ => RgX.val_at (hok 13 95 _ (by decide) rfl rfl) | 96, _ => RgX.val_at (hok 14 96 _ (by decide) rfl rfl) | 97, _ => RgX.val_at (hok 15 97 _ (by decide) rfl rfl) | 98, _ => RgX.val_at (hok 16 98 _ (by decide) rfl rfl) | 99, _ => RgX.val_at (hok 17 99 _ (by decide) rfl rfl) | 100, _ => RgX.val_at (hok 18 100 _ (by decide) rfl rfl) | 101, _ => RgX.val_at (hok 19 101 _ (by decide) rfl rfl) | 102, _ => RgX.val_at (hok 20 102 _ (by decide) rfl rfl) | 103, _ => (hlow 103 (by decide)).trans rfl | 104, _ => (hlow 104 (by decide)).trans rfl | 105, _ => (hlow 105 (by decide)).trans rfl | 106, _ => (hlow 106 (by decide)).trans rfl | 107, _ => (hlow 107 (by decide)).trans rfl | 108, _ => (hlow 108 (by decide)).trans rfl | 109, _ => (hlow 109 (by decide)).trans rfl | 110, _ => (hlow 110 (by decide)).trans rfl | 111, _ => (hlow 111 (by decide)).trans rfl | 112, _ => (hlow 112 (by decide)).trans rfl | 113, _ => (hlow 113 (by decide)).trans rfl | 114, _ => (hlow 114 (by decide)).trans rfl | 115, _ => (hlow 115 (by decide)).trans rfl | 116, _ => (hlow 116 (by decide)).trans rfl | 117, _ => (hlow 117 (by decide)).trans rfl | 118, _ => (hlow 118 (by decide)).trans rfl | 119, _ => (hlow 119 (by decide)).trans rfl | 120, _ => (hlow 120 (by decide)).trans rfl | 121, _ => (hlow 121 (by decide)).trans rfl | 122, _ => (hlow 122 (by decide)).trans rfl | 123, _ => (hlow 123 (by decide)).trans rfl | 124, _ => (hlow 124 (by decide)).trans rfl | 125, _ => (hlow 125 (by decide)).trans rfl | 126, _ => (hlow 126 (by decide)).trans rfl | 127, _ => (hlow 127 (by decide)).trans rfl | 128, _ => (hlow 128 (by decide)).trans rfl | 129, _ => (hlow 129 (by decide)).trans rfl | 130, _ => (hlow 130 (by decide)).trans rfl | 131, _ => (hlow 131 (by decide)).trans rfl | 132, _ => (hlow 132 (by decide)).trans rfl | 133, _ => (hlow 133 (by decide)).trans rfl | 134, _ => (hlow 134 (by decide)).trans rfl | 135, _ => (hlow 135 (by decide)).trans rfl | n + 136, h => absurd h (by show ¬ n + 136 < 136; omega))
            clear hs hd hlow hok hy13
            have hs9 := hS.size
            refine RgX.wpList_store_seg rfl 71 _ _ rfl g13 0 (.agg #[.int .i64 xc, .int .i64 xh, .int .i64 xt, .int .i64 xk, .int .i64 xi, .int .i64 y]) rfl rfl 71 _ r13 (by rw [size_anT]; rfl) (by show 0 + 6 ≤ 6; omega) (by simp [Value.cells, Value.oneCell']) #[.int .i64 xc, .int .i64 xh, .int .i64 xt, .int .i64 xk, .int .i64 xi, .int .i64 y] rfl ?_
            intro v9 k9 ho9 hz9 hb9
            have h59 : Below w5.heap.size w5 v9 := hS.trans (hb9.mono l13)
            have H9 := Lib.hid (And.intro (D5.out.below h59) (And.intro (V5.out.trans (h59.mono V5.out.size)) k9))
            have lT := heap_lt H9.out.1.box
            have lG : lo ≤ g13 := by have := heap_lt D5.out.box; omega
            obtain ⟨v6, hv6⟩ : ∃ V, V = v9 := ⟨_, rfl⟩
            subst hv6
            clear h59 k9 ho9 hz9 hb9 hS hs9 r13 l13 HC D5 V5
            go_upto_if 104 with (fail)
            go_cut [] from 105 to 117 (fun V => Hid (RcAt lo B0 g t5 w.heap.size V (chkO l (⟨xc, xh, xt, xk, xi⟩, y) s5) E ne ce A k ca es1 l ∧ Below w.heap.size w V ∧ V.heap[g13]? = some (.cells #[.int .i64 xc, .int .i64 xh, .int .i64 xt, .int .i64 xk, .int .i64 xi, .int .i64 y] 71 (0, 0))))
            case first =>
              obtain ⟨⟨b0, b1⟩, bf0, bf1⟩ := row2 H9.out.1.box
              obtain ⟨q0, q1, q2, q3, q4, q5⟩ := row6W H9.out.2.2
              cases k with
              | zero =>
                have hl0 : l = [] := List.length_eq_zero_iff.1 H9.out.1.row.1.2
                subst hl0
                go_wp2_with fail
                go_meet
                case rel => exact H9.out
              | succ k =>
                have dn : decide ((0 : Int) < ((k + 1 : Nat) : Int)) = true := decide_eq_true (by omega)
                have dn2 : decide ((0 : Int) < (k : Int) + 1) = true := decide_eq_true (by omega)
                obtain ⟨⟨⟨uc, uh, ut, uk, ui⟩, z⟩, hu⟩ : ∃ x, l.getLast? = some x := by
                  cases hl : l.getLast? with
                  | none => rw [List.getLast?_eq_none_iff] at hl; have := H9.out.1.row.1.2; rw [hl] at this; cases this
                  | some x => exact ⟨x, rfl⟩
                have huk : l[k]? = some (⟨uc, uh, ut, uk, ui⟩, z) := by rw [← hu, List.getLast?_eq_getElem?, H9.out.1.row.1.2]; rfl
                obtain ⟨gA, hgA, hgl, hxa⟩ := (ans_of_own H9.out.1.row.2.2 H9.out.1.row.1.2).1.2 (by omega)
                obtain ⟨r0, r1, r2, r3, r4, r5⟩ := hxa k _ huk
                subst hgA
                have hwk : IntKind.i64.wrap (k : Int) = (k : Int) := IntWalk.i64_in _ (by omega)
                have hk1 : (k : Int) < (k : Int) + 1 := by omega
                have HCM := Lib.hid (fun V => show Calls Try.prog 60 #[quV ⟨uc, uh, ut, uk, ui⟩, quV ⟨xc, xh, xt, xk, xi⟩] V fun e w' => e = .returned (.int .i64 (NM.lexL (NM.quL ⟨uc, uh, ut, uk, ui⟩) (NM.quL ⟨xc, xh, xt, xk, xi⟩))) ∧ Below V.heap.size V w' from cmpQueR_any uc uh ut uk ui xc xh xt xk xi V)
                obtain ⟨cv, hcv⟩ : ∃ c, NM.lexL (NM.quL ⟨uc, uh, ut, uk, ui⟩) (NM.quL ⟨xc, xh, xt, xk, xi⟩) = c := ⟨_, rfl⟩
                rw [hcv] at HCM
                have HCK := Lib.hid (show chkO l (⟨xc, xh, xt, xk, xi⟩, y) s5 = if cv < 0 then s5 else s5.fail 5 from by
                  unfold chkO
                  rw [hu]
                  simp only [TP.ltQ, hcv])
                clear hxa huk hu hcv
                by_cases hc0 : cv < 0
                · have dc : decide (0 ≤ cv) = false := decide_eq_false (by omega)
                  have HK2 := Lib.hid (HCK.out.trans (if_pos hc0))
                  clear hc0
                  go_upto_region 17 with (fail)
                  go_region_law (go_simp; go_at_call 60; refine (HCM.out _).mono ?_; clear HCM; rintro e w7 ⟨rfl, b7⟩
                                 have hb7 := (Below.refl v6.heap.size v6).drew.trans b7
                                 have H7 := Lib.hid (And.intro (H9.out.1.below hb7) (And.intro (H9.out.2.1.trans (hb7.mono H9.out.2.1.size)) ((hb7.block g13 (heap_lt H9.out.2.2)).trans H9.out.2.2)))
                                 clear b7 hb7)
                  all_goals
                    go_wp2_with fail
                    go_meet
                    case rel =>
                      rw [HK2.out]
                      exact H7.out
                · have dc : decide (0 ≤ cv) = true := decide_eq_true (by omega)
                  have HK2 := Lib.hid (HCK.out.trans (if_neg hc0))
                  clear hc0
                  go_upto_region 17 with (fail)
                  go_region_law (go_simp; go_at_call 60; refine (HCM.out _).mono ?_; clear HCM; rintro e w7 ⟨rfl, b7⟩
                                 have hb7 := (Below.refl v6.heap.size v6).drew.trans b7
                                 have H7 := Lib.hid (And.intro (H9.out.1.below hb7) (And.intro (H9.out.2.1.trans (hb7.mono H9.out.2.1.size)) ((hb7.block g13 (heap_lt H9.out.2.2)).trans H9.out.2.2)))
                                 clear b7 hb7)
                  all_goals
                    have HFL := Lib.hid (r_fail g s5 5 w7 H7.out.1.rd rfl ⟨by decide, by decide⟩)
                    go_wp2_with (go_at_call 61; refine HFL.out.mono ?_; clear HFL; rintro e w8 ⟨rfl, h8, b8⟩)
                    go_meet
                    case rel =>
                      rw [HK2.out]
                      exact ⟨H7.out.1.but b8 h8, H7.out.2.1.grown b8 (by have := H7.out.2.1.size; omega) (fun b e => by injection e with e; omega), (b8.block g13 (heap_lt H7.out.2.2) (fun e => by injection e with e; omega)).trans H7.out.2.2⟩
            case rest =>
            clear H9
            have H8 := hcut
            clear hcut
            obtain ⟨q0, q1, q2, q3, q4, q5⟩ := row6W H8.out.2.2
            go_upto_if 120 with (fail)
            obtain ⟨bz, hbz⟩ : ∃ bz : Bool, decide (y < 1) = bz := ⟨_, rfl⟩
            rw [hbz]
            go_cut [] from 121 to 122 (fun V => Hid (RcAt lo B0 g t5 w.heap.size V (chkA l (⟨xc, xh, xt, xk, xi⟩, y) s5) E ne ce A k ca es1 l ∧ Below w.heap.size w V ∧ V.heap[g13]? = some (.cells #[.int .i64 xc, .int .i64 xh, .int .i64 xt, .int .i64 xk, .int .i64 xi, .int .i64 y] 71 (0, 0))))
            case first =>
              cases bz with
              | true =>
                have hy : y < 1 := of_decide_eq_true hbz
                have hck := Lib.hid (show chkA l (⟨xc, xh, xt, xk, xi⟩, y) s5 = (chkO l (⟨xc, xh, xt, xk, xi⟩, y) s5).fail 6 from if_pos (show y ≤ 0 by omega))
                clear hbz hy
                have HFL := Lib.hid (r_fail g _ 6 wc H8.out.1.rd rfl ⟨by decide, by decide⟩)
                go_wp2_with (go_at_call 61; refine HFL.out.mono ?_; clear HFL; rintro e w8 ⟨rfl, h8, b8⟩)
                go_meet
                case rel =>
                  rw [hck.out]
                  exact ⟨H8.out.1.but b8 h8, H8.out.2.1.grown b8 (by have := H8.out.2.1.size; omega) (fun b e => by injection e with e; omega), (b8.block g13 (heap_lt H8.out.2.2) (fun e => by injection e with e; omega)).trans H8.out.2.2⟩
              | false =>
                have hy : ¬ y < 1 := of_decide_eq_false hbz
                have hck := Lib.hid (show chkA l (⟨xc, xh, xt, xk, xi⟩, y) s5 = chkO l (⟨xc, xh, xt, xk, xi⟩, y) s5 from if_neg (show ¬ y ≤ 0 by omega))
                clear hbz hy
                go_wp2_with fail
                go_meet
                case rel =>
                  rw [hck.out]
                  exact H8.out
            case rest =>
            have H10 := hcut
            clear hbz hcut H8 q0 q1 q2 q3 q4 q5
            obtain ⟨⟨b0, b1⟩, bf0, bf1⟩ := row2 H10.out.1.box
            obtain ⟨q0, q1, q2, q3, q4, q5⟩ := row6W H10.out.2.2
            have lU := heap_lt H10.out.1.box
            go_wp2_with (at_builtin; refine wpList_append_lies _ rfl (.tmp 124) (.tmp 126) 24 rfl lo 71 iA _ 6 48 Try.underlying24 hiA hzA hsA hbA rfl (by decide) (.slice A k ca) k (TP.ansC l) (by simp [Act.eval]) (own_belowT H10.out.1.row.2.2 (one_box wc _)) ⟨wc.heap.size, 0, none⟩ 1 1 (TP.anC ((⟨xc, xh, xt, xk, xi⟩ : NM.Qu), y)) (by simp [Act.eval]) rfl (World.news_of_block (World.alloc_heap_new wc _)) (by simp [TP.anC, Value.oneCell']) (by decide) (by simp only [maxLen]; omega) (by omega) (by simp; omega) _ rfl ?_
                         intro gb cb wb hownb hgrb _ _
                         have Db := H10.out.1.below (one_box wc (.cells #[.int .i64 xc, .int .i64 xh, .int .i64 xt, .int .i64 xk, .int .i64 xi, .int .i64 y] 71))
                         have hob : ∀ b, (Value.slice A k ca).ownBlock = some b → lo ≤ b := fun b hb => (anRow_ne Db.row.2.2 hb).1
                         obtain ⟨⟨p0, p1⟩, pf0, pf1⟩ := row2 ((hgrb.block t5 (heap_lt Db.box) (fun e => by have := hob _ e.symm; omega)).trans Db.box)
                         have Vb := (H10.out.2.1.trans ((one_box wc (.cells #[.int .i64 xc, .int .i64 xh, .int .i64 xt, .int .i64 xk, .int .i64 xi, .int .i64 y] 71)).mono H10.out.2.1.size)).grown hgrb (by have := H10.out.2.1.size; simp; omega) (fun b e => by have := hob _ e; omega)
                         have Dc := Lib.hid (Db.answer hownb hgrb)
                         have Vc := Lib.hid (Vb.setCell (p := ⟨t5, 1, none⟩) (by show w.heap.size ≤ t5; omega) (.slice (some ⟨gb, 0, none⟩) (k + 1) cb))
                         clear Db hownb hgrb hob Vb)
            go_roundw
            case rel => exact ⟨k + 1, cb, _, _, _, by go_num, by omega, Dc, Vc, HQ6⟩
            case measure => simp [intOf]; omega
        · have dm : decide (k < m1) = false := decide_eq_false hm
          have dm2 : decide ((k : Int) < (m1 : Int)) = false := decide_eq_false (by omega)
          obtain ⟨he1, he2⟩ : l = l1 ∧ s = s3 := by
            have := HQ.out
            rw [show m1 - k = 0 by omega, rdAs] at this
            injection this with p q
            exact ⟨p, q⟩
          subst he1
          subst he2
          go_wp2_with fail
          go_meet
          case rel => exact ⟨k, ca, A, HD, HV⟩
    case rest =>
      obtain ⟨na, ca, A, HD, HV⟩ := hcut
      have hdec := show decT zs = ((es1, l1), s3) from by
        unfold decT
        simp only [HE0.out.2, ← HE0.out.1, HE1.out, HA0.out.2, ← HA0.out.1, HAS.out]
      obtain ⟨x, hx⟩ : ∃ x, s3.endE = x := ⟨_, rfl⟩
      have hr := r_end g s3 wc HD.out.rd
      rw [hx] at hr
      have HR := Lib.hid hr
      obtain ⟨⟨b0, b1⟩, bf0, bf1⟩ := row2 HD.out.box
      obtain ⟨⟨r0, r1⟩, rf0, rf1⟩ := row2 HD.out.res
      clear HD4 hr
      by_cases h0 : x = 0
      · have d0 : (x != 0) = false := by rw [h0]; rfl
        have HP := Lib.hid (show decP zs = ((es1, l1), 0) from by unfold decP; rw [hdec, if_pos (hx.trans h0)])
        clear hx h0 hdec HE0 HE1 HA0 HAS
        go_wp2_with (go_at_call 62; refine HR.out.mono ?_; clear HR; rintro e w8 ⟨rfl, hw8⟩; obtain rfl : wc = w8 := hw8)
        obtain ⟨W8, e8, k8, o8, z8, p8, q8, t8⟩ := set1D (V := wc) HD.out.res (i := 0) (.slice E ne ce)
        rw [e8]
        clear e8
        obtain ⟨W9, e9, k9, o9, z9, p9, q9, t9⟩ := set1D k8 (i := 1) (.slice A na ca)
        rw [e9]
        clear e9
        obtain ⟨⟨y0, y1⟩, _, _⟩ := row2 k9
        have hgr : wc.grownBy W9 (some w.heap.size) := ⟨p9.trans p8, q9.trans q8, t9.trans t8, by rw [z9, z8]; exact Nat.le_refl _, fun b _ hne => (o9 b (fun e => hne (by rw [e]))).trans (o8 b (fun e => hne (by rw [e])))⟩
        have hT := (HD.out.row.grown hgr HD.out.res (by decide) (by decide)).low (show w.heap.size ≤ lo by omega)
        have hV := HV.out.grown hgr HV.out.size (fun b e => by injection e with e; omega)
        refine bodyPost_ret (v := .tuple #[.agg #[.slice E ne ce, .slice A na ca], .int .i64 0]) (by simp [results, Try.results38, go_sem, y0, y1]) rfl ?_
        rw [HP.out]
        exact ⟨⟨E, ne, ce, A, na, ca, rfl, hT⟩, hV⟩
      · have d0 : (x != 0) = true := by rw [bne_iff_ne]; exact h0
        have HP := Lib.hid (show decP zs = (([], []), x) from by unfold decP; rw [hdec, if_neg (by rw [hx]; exact h0), hx])
        clear hx h0 hdec HE0 HE1 HA0 HAS
        go_wp2_with (go_at_call 62; refine HR.out.mono ?_; rintro e w8 ⟨rfl, hw8⟩; obtain rfl : wc = w8 := hw8)
        obtain ⟨W8, e8, k8, o8, z8, p8, q8, t8⟩ := set1D (V := wc) HD.out.res (i := 0) (.slice none 0 0)
        rw [e8]
        clear e8
        obtain ⟨W9, e9, k9, o9, z9, p9, q9, t9⟩ := set1D k8 (i := 1) (.slice none 0 0)
        rw [e9]
        clear e9
        obtain ⟨⟨y0, y1⟩, _, _⟩ := row2 k9
        have hgr : wc.grownBy W9 (some w.heap.size) := ⟨p9.trans p8, q9.trans q8, t9.trans t8, by rw [z9, z8]; exact Nat.le_refl _, fun b _ hne => (o9 b (fun e => hne (by rw [e]))).trans (o8 b (fun e => hne (by rw [e])))⟩
        have hV := HV.out.grown hgr HV.out.size (fun b e => by injection e with e; omega)
        refine bodyPost_ret (v := .tuple #[.agg #[.slice none 0 0, .slice none 0 0], .int .i64 x]) (by simp [results, Try.results38, go_sem, y0, y1]) rfl ?_
        rw [HP.out]
        exact ⟨⟨none, 0, 0, none, 0, 0, rfl, tape_nil _ _⟩, hV⟩
end Go.Proofs.Ytiokiecnglmbnaa
