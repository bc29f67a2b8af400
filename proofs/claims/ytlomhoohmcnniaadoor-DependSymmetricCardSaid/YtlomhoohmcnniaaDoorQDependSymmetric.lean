/-
  The walk of DependSymmetric: Dependent is symmetric, and holds for steps of one node, for observable steps, and for a step that delivers a copy of a message and the step that sent it.
  The tied card of the statement DependSymmetric: for every input the law answers true and leaves its arguments as they were; the condition is the listed table of math/bits, which the card ties to the program's text. The frame of this proof was written by the guide's program, the walk is the text LawDependSymmetric's.
-/
import Derived.Test.YtlomhoohmcnniaaDoorK14
import Derived.Test.YtlomhoohmcnniaaDoorK21
import Derived.Test.YtlomhoohmcnniaaDoorK22
import Derived.Test.YtlomhoohmcnniaaDoorK24
import Derived.Test.YtlomhoohmcnniaaDoorK25
import Derived.Deep.Cut
import Derived.Test.YtlomhoohmcnniaaDoorRows
import Derived.Test.YtlomhoohmcnniaaDoorCards
import Derived.Test.YtlomhoohmcnniaaDoorTie
import Derived.Test.YtlomhoohmcnniaaDoorK4
import Derived.SevenTiedPlain
import Derived.SevenTiedAt
import Derived.WalkKit
import Derived.ProofKit
import Derived.OpenShut
import Derived.ShutString
import Derived.ChangeOld
import Derived.Below

namespace Go.Proofs.YtlomhoohmcnniaaDoor.LawDependSymmetric
open Go Go.RowKit Go.Proofs Go.Proofs.YtlomhoohmcnniaaDoor
attribute [local go_sem] Oper.semAt_some

theorem wrap_small {x : Int} (h0 : 0 ≤ x) (h1 : x < 1000000) : IntKind.i64.wrap x = x := by
  obtain ⟨n, rfl⟩ := Int.eq_ofNat_of_zero_le h0
  simp [IntKind.wrap, IntKind.bits, IntKind.signed]
  omega
theorem lex_copy (m : NM.Ms) (x : Int) (h : m.p < x) : NM.lexL (NM.msL ⟨m.c, m.h, m.t, m.i, x⟩) (NM.msL m) = 1 := by
  have h2 : ¬ x < m.p := by omega
  simp [NM.lexL, NM.msL, NM.orI, NM.cmpI, h, h2]
theorem dep_copy (s : DP.St) (m : NM.Ms) (hm : m ∈ s.ms) (h0 : m.p = 0) (x y : Int) : DP.dep s ⟨⟨3, y, 0, ⟨m.c, m.h, m.t, m.i, x⟩⟩, none, 0, [], false, none, 0, []⟩ = true := by
  have hf : DP.feeds s ⟨⟨3, y, 0, ⟨m.c, m.h, m.t, m.i, x⟩⟩, none, 0, [], false, none, 0, []⟩ = true := by
    show (DP.consK 3 && s.ms.any fun k => decide (k = DP.orig ⟨m.c, m.h, m.t, m.i, x⟩)) = true
    rw [Bool.and_eq_true]
    refine ⟨rfl, List.any_eq_true.2 ⟨m, hm, decide_eq_true ?_⟩⟩
    obtain ⟨c, h, t, i, p⟩ := m
    simp only at h0
    subst h0
    rfl
  unfold DP.dep
  rw [hf]
  simp
set_option maxRecDepth 100000 in
set_option maxHeartbeats 8000000 in
theorem walk (a0 : Option Addr) (len0 cap0 : Nat) (z0 : List Int) (a1 : Int) (w : World) (w0 : Row .i64 w a0 len0 cap0 z0) (w1 : (Lit.int .i64 a1).wf = true) (hT : Tab w) :
    Calls Tryd.prog 6 #[.slice a0 len0 cap0, .int .i64 a1] w fun e w' => e = .returned (.bool true) ∧ Below w.heap.size w w' := by
  have htl := hT.lt
  have hc64 : I64 a1 := by have := bounds_i64 w1; unfold I64; omega
  have HRUN := Lib.hid (run_row w0)
  have HT := Lib.hid hT
  have HAR := Lib.hid (fun V => around_any a1 5 hc64 (by omega) (by omega) V)
  obtain ⟨cp, hcp⟩ : ∃ m : Nat, around a1 5 = (m : Int) := ⟨(around a1 5).toNat, by have := (around_in a1 5 (by omega)).1; omega⟩
  have hcp5 : cp < 5 := by have := (around_in a1 5 (by omega)).2; omega
  rw [hcp] at HAR
  clear w0 hT w1 hcp hc64
  go_enter Tryd.func6, Tryd.ntmps6
  go_wp2_with (first
    | (go_at_call 10
       refine HRUN.out.mono ?_
       clear HRUN
       rintro e w2 ⟨A, m, c, R, rfl, hr2, hm, hgd, hb2⟩
       have HR2 := Lib.hid hr2
       have HB2 := Lib.hid hb2
       have HGD := Lib.hid hgd
       clear hr2 hb2 hgd))
  have HLEN := Lib.hid HR2.out.sl.len
  have HLV : Hid (∀ V, Below w2.heap.size w2 V → Calls Tryd.prog 15 #[] V fun e w' => e = .returned (.bool true) ∧ Below V.heap.size V w') := fun V hV => lives_any V ((HT.out.below htl HB2.out).below (Nat.lt_of_lt_of_le htl HB2.out.size) hV)
  clear HT
  go_loopw [6] (fun i V => ∃ k : Nat, i = .int .i64 (k : Int) ∧ k ≤ m ∧ Hid (Below w2.heap.size w2 V)) (fun i _ => m - (intOf i).toNat)
  case atStart => exact ⟨0, rfl, Nat.zero_le _, Below.refl _ _⟩
  case round =>
    obtain ⟨i, rfl, him, hbl⟩ := hrel
    obtain ⟨wo, hwo⟩ : ∃ W, W = wr := ⟨_, rfl⟩
    subst hwo
    by_cases hi : i < m
    · obtain ⟨sa, hsa⟩ : ∃ s, R[i]? = some s := ⟨_, List.getElem?_eq_getElem (by rw [HLEN.out]; exact hi)⟩
      have HSA := Lib.hid hsa
      clear hsa
      go_wp2_with fail
      go_loopw [7] (fun k V => ∃ j : Nat, k = .int .i64 (j : Int) ∧ j ≤ m ∧ Hid (Below w2.heap.size w2 V)) (fun k _ => m - (intOf k).toNat)
      case atStart => exact ⟨0, rfl, Nat.zero_le _, hbl.out⟩
      case round =>
        obtain ⟨k, rfl, hkm, hbk⟩ := hrel
        obtain ⟨wp, hwp⟩ : ∃ W, W = wr := ⟨_, rfl⟩
        subst hwp
        by_cases hk : k < m
        · obtain ⟨sb, hsb⟩ : ∃ s, R[k]? = some s := ⟨_, List.getElem?_eq_getElem (by rw [HLEN.out]; exact hk)⟩
          obtain ⟨g, hg, hgl, ⟨c0, c1, c2, c3, c4, c5, c6, c7, c8, c9, c10⟩, hia⟩ := (HR2.out.keep hbk.out).at_ HSA.out
          obtain ⟨g', hg', _, ⟨d0, d1, d2, d3, d4, d5, d6, d7, d8, d9, d10⟩, hib⟩ := (HR2.out.keep hbk.out).at_ hsb
          rw [hg] at hg'
          injection hg' with hg'
          injection hg' with hg'
          subst hg'
          subst hg
          obtain ⟨V1, hV1⟩ : ∃ U, wp.alloc (stO sa) = U := ⟨_, rfl⟩
          have hb1 : Below wp.heap.size wp V1 := by rw [← hV1]; exact (Below.refl _ _).alloc (Nat.le_refl _) _
          have hz1 : V1.heap.size = wp.heap.size + 1 := by rw [← hV1]; simp
          have hx1 : StBx V1 wp.heap.size sa := by rw [← hV1]; exact StBx.new wp sa
          go_upto_region 9 with (fail)
          try rw [hV1]
          clear hV1 c0 c1 c2 c3 c4 c5 c6 c7 c8 c9 c10 d0 d1 d2 d3 d4 d5 d6 d7 d8 d9 d10
          obtain ⟨g', hg', _, ⟨d0, d1, d2, d3, d4, d5, d6, d7, d8, d9, d10⟩, _⟩ := (HR2.out.keep (hbk.out.trans (hb1.mono hbk.out.size))).at_ hsb
          injection hg' with hg'
          injection hg' with hg'
          subst hg'
          obtain ⟨V2, hV2⟩ : ∃ U, V1.alloc (stO sb) = U := ⟨_, rfl⟩
          have hb2' : Below V1.heap.size V1 V2 := by rw [← hV2]; exact (Below.refl _ _).alloc (Nat.le_refl _) _
          have hx2 : StBx V2 (wp.heap.size + 1) sb := by rw [← hV2, ← hz1]; exact StBx.new V1 sb
          have hx1' := hx1.keep hx1.lt hb2'
          have hz2 : V2.heap.size = wp.heap.size + 2 := by rw [← hV2]; simp [hz1]
          go_upto_region 10 with (fail)
          try rw [hV2]
          clear hV2 d0 d1 d2 d3 d4 d5 d6 d7 d8 d9 d10 hz1
          have hbv : Below wp.heap.size wp V2 := hb1.trans (hb2'.mono hb1.size)
          have HK : Hid (∀ V, Below V2.heap.size V2 V → StBx V wp.heap.size sa ∧ StBx V (wp.heap.size + 1) sb) := fun V hV => ⟨hx1'.keep (by omega) hV, hx2.keep (by omega) hV⟩
          have HD1 : Hid (∀ V, Below V2.heap.size V2 V → Calls Tryd.prog 22 #[stV sa, stV sb] V fun e w' => e = .returned (.bool (DP.dep sa sb)) ∧ Below V.heap.size V w') := fun V hV => dependent_any sa sb V ((hia.keep hbv).keep hV) ((hib.keep hbv).keep hV)
          have HD2 : Hid (∀ V, Below V2.heap.size V2 V → Calls Tryd.prog 22 #[stV sb, stV sa] V fun e w' => e = .returned (.bool (DP.dep sa sb)) ∧ Below V.heap.size V w') := fun V hV => by
            rw [DP.dep_comm]
            exact dependent_any sb sa V ((hib.keep hbv).keep hV) ((hia.keep hbv).keep hV)
          have HBV := Lib.hid (hbk.out.trans (hbv.mono hbk.out.size))
          obtain ⟨y, hy⟩ : ∃ y, DP.dep sa sb = y := ⟨_, rfl⟩
          rw [hy] at HD1 HD2
          have hno : y = false → (sa.ev.n == sb.ev.n) = false ∧ ((sa.ob = false) ∨ (sa.ob = true ∧ sb.ob = false)) := fun e => by
            rw [e] at hy
            unfold DP.dep at hy
            simp only [Bool.or_eq_false_iff] at hy
            refine ⟨hy.1.1.1, ?_⟩
            cases h1 : sa.ob
            · exact .inl rfl
            · have := hy.1.1.2
              rw [h1] at this
              exact .inr ⟨rfl, by simpa using this⟩
          have HNO := Lib.hid hno
          clear hx1 hx1' hx2 hb1 hb2' hbv hia hib hsb hy hno hbk
          obtain ⟨e1, e2⟩ := HK.out V2 (Below.refl _ _)
          have x1 := e1.cells
          have x2 := e2.cells
          obtain ⟨c0, c1, c2, c3, c4, c5, c6, c7, c8, c9, c10⟩ := x1
          obtain ⟨d0, d1, d2, d3, d4, d5, d6, d7, d8, d9, d10⟩ := x2
          clear e1 e2 hz2
          go_upto_region 11 with (first
            | (go_at_call 22
               refine (HD1.out _ (Below.refl _ _)).mono ?_
               clear HD1
               rintro e w5 ⟨rfl, hb5⟩))
          clear c0 c1 c2 c3 c4 c5 c6 c7 c8 c9 c10 d0 d1 d2 d3 d4 d5 d6 d7 d8 d9 d10
          obtain ⟨e1, e2⟩ := HK.out w5 hb5
          have x1 := e1.cells
          have x2 := e2.cells
          obtain ⟨c0, c1, c2, c3, c4, c5, c6, c7, c8, c9, c10⟩ := x1
          obtain ⟨d0, d1, d2, d3, d4, d5, d6, d7, d8, d9, d10⟩ := x2
          clear e1 e2
          have HB5 := Lib.hid hb5
          clear hb5
          cases y
          · obtain ⟨hn1, hob⟩ := HNO.out rfl
            clear HNO
            rcases hob with ha | ⟨ha, hb⟩
            · have HA := Lib.hid ha
              clear ha
              go_wp2_with (first
                | (go_at_call 22
                   refine (HD2.out _ HB5.out).mono ?_
                   clear HD2
                   rintro e w6 ⟨rfl, hb6⟩
                   obtain ⟨e1, e2⟩ := HK.out w6 (HB5.out.trans (hb6.mono HB5.out.size))
                   obtain ⟨f0, f1, f2, f3, f4, f5, f6, f7, f8, f9, f10⟩ := e1.cells
                   obtain ⟨g0, g1, g2, g3, g4, g5, g6, g7, g8, g9, g10⟩ := e2.cells
                   rw [HA.out] at f9
                   have HB6 := Lib.hid (HBV.out.trans ((HB5.out.trans (hb6.mono HB5.out.size)).mono HBV.out.size))
                   clear e1 e2 hb6))
              go_roundw
              case rel => exact ⟨k + 1, by go_num, by omega, HB6.out⟩
              case measure => simp [intOf]; omega
            · have HA := Lib.hid ha
              have HB := Lib.hid hb
              clear ha hb
              go_wp2_with (first
                | (go_at_call 22
                   refine (HD2.out _ HB5.out).mono ?_
                   clear HD2
                   rintro e w6 ⟨rfl, hb6⟩
                   obtain ⟨e1, e2⟩ := HK.out w6 (HB5.out.trans (hb6.mono HB5.out.size))
                   obtain ⟨f0, f1, f2, f3, f4, f5, f6, f7, f8, f9, f10⟩ := e1.cells
                   obtain ⟨g0, g1, g2, g3, g4, g5, g6, g7, g8, g9, g10⟩ := e2.cells
                   rw [HA.out] at f9
                   rw [HB.out] at g9
                   have HB6 := Lib.hid (HBV.out.trans ((HB5.out.trans (hb6.mono HB5.out.size)).mono HBV.out.size))
                   clear e1 e2 hb6))
              go_roundw
              case rel => exact ⟨k + 1, by go_num, by omega, HB6.out⟩
              case measure => simp [intOf]; omega
          · clear HNO
            go_wp2_with (first
              | (go_at_call 22
                 refine (HD2.out _ HB5.out).mono ?_
                 clear HD2
                 rintro e w6 ⟨rfl, hb6⟩
                 obtain ⟨e1, e2⟩ := HK.out w6 (HB5.out.trans (hb6.mono HB5.out.size))
                 obtain ⟨f0, f1, f2, f3, f4, f5, f6, f7, f8, f9, f10⟩ := e1.cells
                 obtain ⟨g0, g1, g2, g3, g4, g5, g6, g7, g8, g9, g10⟩ := e2.cells
                 have HB6 := Lib.hid (HBV.out.trans ((HB5.out.trans (hb6.mono HB5.out.size)).mono HBV.out.size))
                 clear e1 e2 hb6))
            go_roundw
            case rel => exact ⟨k + 1, by go_num, by omega, HB6.out⟩
            case measure => simp [intOf]; omega
        · obtain rfl : k = m := by omega
          -- the messages
          obtain ⟨g, hg, hgl, hda, hia⟩ := HR2.out.at_ HSA.out
          subst hg
          have hml : sa.ms.length ≤ 2 := (HGD.out sa (List.mem_of_getElem? HSA.out)).ml
          have HCP := Lib.hid (HGD.out sa (List.mem_of_getElem? HSA.out)).cp
          have hn0 := (HGD.out sa (List.mem_of_getElem? HSA.out)).n0
          have hn4 := (HGD.out sa (List.mem_of_getElem? HSA.out)).n4
          have HKA : Hid (∀ V, Below w2.heap.size w2 V → StAt V g (i * 11) sa ∧ StIn V sa) := fun V hV => ⟨hda.keep hgl hV, hia.keep hV⟩
          clear hda hia
          go_wp2_with fail
          go_loopw [11] (fun q V => ∃ j : Nat, q = .int .i64 (j : Int) ∧ j ≤ sa.ms.length ∧ Hid (Below w2.heap.size w2 V)) (fun q _ => sa.ms.length - (intOf q).toNat)
          case atStart => exact ⟨0, rfl, Nat.zero_le _, hbk.out⟩
          case round =>
            obtain ⟨j, rfl, hjl, hbj⟩ := hrel
            obtain ⟨wq, hwq⟩ : ∃ W, W = wr := ⟨_, rfl⟩
            subst hwq
            obtain ⟨⟨c0, c1, c2, c3, c4, c5, c6, c7, c8, c9, c10⟩, hin⟩ := HKA.out wq hbj.out
            by_cases hj : j < sa.ms.length
            · obtain ⟨⟨m0, m1, m2, m3, m4⟩, hmj⟩ : ∃ x, sa.ms[j]? = some x := ⟨_, List.getElem?_eq_getElem hj⟩
              obtain ⟨q, hq, hql, y0, y1, y2, y3, y4⟩ := ms_at hin.ms hmj
              rw [hq] at c10
              have hmem := List.mem_of_getElem? hmj
              obtain rfl : m4 = 0 := HCP.out _ hmem
              obtain ⟨V1, hV1⟩ : ∃ U, wq.alloc (.cells #[.int .i64 m0, .int .i64 m1, .int .i64 m2, .int .i64 m3, .int .i64 0] 46) = U := ⟨_, rfl⟩
              have hb1 : Below wq.heap.size wq V1 := by rw [← hV1]; exact (Below.refl _ _).alloc (Nat.le_refl _) _
              have hmb : MsBx V1 wq.heap.size ⟨m0, m1, m2, m3, 0⟩ := by unfold MsBx; rw [← hV1]; exact World.alloc_heap_new wq _
              have HV1 := Lib.hid hV1
              clear hV1
              go_upto_region 17 with (fail)
              rw [HV1.out]
              clear y0 y1 y2 y3 y4 c0 c1 c2 c3 c4 c5 c6 c7 c8 c9 c10 HV1
              obtain ⟨x0, x1, x2, x3, x4⟩ := hmb.cells
              have hfr : V1.frozen? ⟨wq.heap.size, 4, none⟩ = false := by
                have h : V1.heap[wq.heap.size]? = _ := hmb
                simp [World.frozen?, h]
              obtain ⟨V2, hV2⟩ : ∃ U, V1.setCell ⟨wq.heap.size, 4, none⟩ (.int .i64 (1 + (cp : Int))) = U := ⟨_, rfl⟩
              have hmb2 : MsBx V2 wq.heap.size ⟨m0, m1, m2, m3, 1 + (cp : Int)⟩ := by
                rw [← hV2]
                exact blk_set (j := 4) (u := .int .i64 (1 + (cp : Int))) (show V1.heap[wq.heap.size]? = _ from hmb)
              have hb12 : Below wq.heap.size wq V2 := by rw [← hV2]; exact hb1.setCell (p := ⟨wq.heap.size, 4, none⟩) (Nat.le_refl _) _
              go_upto_region 18 with (go_at_call 16; refine (HAR.out _).mono ?_; rintro e w' ⟨rfl, rfl⟩)
              try rw [hV2]
              clear hV2 x0 x1 x2 x3 x4 hfr
              have HMB := Lib.hid hmb2
              have HB2' := Lib.hid (hbj.out.trans (hb12.mono hbj.out.size))
              have HMJ := Lib.hid hmj
              have HMM := Lib.hid hmem
              have HQ := Lib.hid hq
              have hwn : IntKind.i64.wrap (sa.ev.n + 1) = sa.ev.n + 1 := wrap_small (by omega) (by omega)
              clear hmb hmb2 hb1 hb12 hmj hmem hq hin hql
              refine RgX.tail 11 (fun i => (if i = 10 then 13 else 87 + i)) (fun ix_ => match ix_ with | 0 => .v (.slice (some ⟨g, 0, none⟩) k c) | 1 => .v (.int .i64 (i : Int)) | 2 => .v (.pointer (some ⟨g, i * 11, none⟩)) | 3 => .v (.pointer (some ⟨g, i * 11, none⟩)) | 4 => .v (.pointer (some ⟨g, i * 11 + 1, none⟩)) | 5 => .v (.int .i64 sa.ev.n) | 6 => .v (.int .i64 (sa.ev.n + 1)) | 7 => .v (.agg #[.int .i64 m0, .int .i64 m1, .int .i64 m2, .int .i64 m3, .int .i64 (1 + (cp : Int))]) | 8 => .v (.agg #[.int .i64 3, .int .i64 (sa.ev.n + 1), .int .i64 0, .int .i64 m0, .int .i64 m1, .int .i64 m2, .int .i64 m3, .int .i64 (1 + (cp : Int))]) | 9 => .v (.agg #[.int .i64 3, .int .i64 (sa.ev.n + 1), .int .i64 0, .int .i64 m0, .int .i64 m1, .int .i64 m2, .int .i64 m3, .int .i64 (1 + (cp : Int)), .slice none 0 0, .bool false, .slice none 0 0]) | 10 => .boxn (V2.heap.size) #[.int .i64 0, .int .i64 0, .int .i64 0, .int .i64 0, .int .i64 0, .int .i64 0, .int .i64 0, .int .i64 0, .slice none 0 0, .bool false, .slice none 0 0] 52 | _ => .any) _ (by kernel_rfl) rfl rfl (by kernel_rfl) (by kernel_rfl) (fun i hi => by show (if i = 10 then 13 else 87 + i) < 118; (repeat' split) <;> omega) (fun i j hi hj => by show (if i = 10 then 13 else 87 + i) = (if j = 10 then 13 else 87 + j) → i = j; (repeat' split) <;> omega) ?step ?fin
              case step =>
                intro L_ A_ w3 ix op_ hi hI ho hdep
                have hcase : ix = 0 ∨ ix = 1 ∨ ix = 2 ∨ ix = 3 ∨ ix = 4 ∨ ix = 5 ∨ ix = 6 ∨ ix = 7 ∨ ix = 8 ∨ ix = 9 ∨ ix = 10 := by omega
                have hh := hI.held
                clear hi
                rcases hcase with rfl | rfl | rfl | rfl | rfl | rfl | rfl | rfl | rfl | rfl | rfl
                · simp only [List.getElem?_toArray, List.getElem?_cons_zero, Option.some.injEq] at ho
                  subst ho
                  refine ⟨rfl, ?_⟩
                  have e5 : A_.tmps[5]?.getD undef = .slice (some ⟨g, 0, none⟩) k c := by rw [hI.low 5 (by decide)]; rfl
                  clear hI hdep
                  exact .run rfl (.slice (some ⟨g, 0, none⟩) k c) w3 (by simp [execOp, go_sem, Act.eval, e5]) (Below.refl _ _) rfl
                · simp only [List.getElem?_toArray, List.getElem?_cons_succ, List.getElem?_cons_zero, Option.some.injEq] at ho
                  subst ho
                  refine ⟨rfl, ?_⟩
                  have e6 : A_.tmps[6]?.getD undef = .int .i64 (i : Int) := by rw [hI.low 6 (by decide)]; rfl
                  clear hI hdep
                  exact .run rfl (.int .i64 (i : Int)) w3 (by simp [execOp, go_sem, Act.eval, e6]) (Below.refl _ _) rfl
                · simp only [List.getElem?_toArray, List.getElem?_cons_succ, List.getElem?_cons_zero, Option.some.injEq] at ho
                  subst ho
                  refine ⟨rfl, ?_⟩
                  have e87 : A_.tmps[87]?.getD undef = .slice (some ⟨g, 0, none⟩) k c := getD_of (hI.val_ (i := 0) rfl rfl (by decide) (hdep ⟨0, .data⟩ (by simp) rfl))
                  have e88 : A_.tmps[88]?.getD undef = .int .i64 (i : Int) := getD_of (hI.val_ (i := 1) rfl rfl (by decide) (hdep ⟨1, .data⟩ (by simp) rfl))
                  clear hI hdep
                  exact .run rfl (.pointer (some ⟨g, i * 11, none⟩)) w3 (by simp [execOp, go_sem, Act.eval, e87, e88]; omega) (Below.refl _ _) rfl
                · simp only [List.getElem?_toArray, List.getElem?_cons_succ, List.getElem?_cons_zero, Option.some.injEq] at ho
                  subst ho
                  refine ⟨rfl, ?_⟩
                  have e89 : A_.tmps[89]?.getD undef = .pointer (some ⟨g, i * 11, none⟩) := getD_of (hI.val_ (i := 2) rfl rfl (by decide) (hdep ⟨2, .data⟩ (by simp) rfl))
                  clear hI hdep
                  exact .run rfl (.pointer (some ⟨g, i * 11, none⟩)) w3 (by simp [execOp, go_sem, Act.eval, e89]) (Below.refl _ _) rfl
                · simp only [List.getElem?_toArray, List.getElem?_cons_succ, List.getElem?_cons_zero, Option.some.injEq] at ho
                  subst ho
                  refine ⟨rfl, ?_⟩
                  have e90 : A_.tmps[90]?.getD undef = .pointer (some ⟨g, i * 11, none⟩) := getD_of (hI.val_ (i := 3) rfl rfl (by decide) (hdep ⟨3, .data⟩ (by simp) rfl))
                  clear hI hdep
                  exact .run rfl (.pointer (some ⟨g, i * 11 + 1, none⟩)) w3 (by simp [execOp, go_sem, Act.eval, e90]) (Below.refl _ _) rfl
                · simp only [List.getElem?_toArray, List.getElem?_cons_succ, List.getElem?_cons_zero, Option.some.injEq] at ho
                  subst ho
                  refine ⟨rfl, ?_⟩
                  have e91 : A_.tmps[91]?.getD undef = .pointer (some ⟨g, i * 11 + 1, none⟩) := getD_of (hI.val_ (i := 4) rfl rfl (by decide) (hdep ⟨4, .data⟩ (by simp) rfl))
                  clear hI hdep
                  obtain ⟨d0, d1, d2, d3, d4, d5, d6, d7, d8, d9, d10⟩ := (HKA.out w3 (HB2'.out.trans (hh.mono HB2'.out.size))).1
                  exact .run rfl (.int .i64 sa.ev.n) w3 (by simp [execOp, go_sem, Act.eval, e91, d1]) (Below.refl _ _) rfl
                · simp only [List.getElem?_toArray, List.getElem?_cons_succ, List.getElem?_cons_zero, Option.some.injEq] at ho
                  subst ho
                  refine ⟨rfl, ?_⟩
                  have e92 : A_.tmps[92]?.getD undef = .int .i64 sa.ev.n := getD_of (hI.val_ (i := 5) rfl rfl (by decide) (hdep ⟨5, .data⟩ (by simp) rfl))
                  clear hI hdep
                  exact .run rfl (.int .i64 (sa.ev.n + 1)) w3 (by simp [execOp, go_sem, Act.eval, e92]; exact hwn) (Below.refl _ _) rfl
                · simp only [List.getElem?_toArray, List.getElem?_cons_succ, List.getElem?_cons_zero, Option.some.injEq] at ho
                  subst ho
                  refine ⟨rfl, ?_⟩
                  have e12 : A_.tmps[12]?.getD undef = .pointer (some ⟨wq.heap.size, 0, none⟩) := by rw [hI.low 12 (by decide)]; rfl
                  clear hI hdep
                  obtain ⟨x0, x1, x2, x3, x4⟩ := (HMB.out.keep HMB.out.lt hh).cells
                  exact .run rfl (.agg #[.int .i64 m0, .int .i64 m1, .int .i64 m2, .int .i64 m3, .int .i64 (1 + (cp : Int))]) w3 (by simp [execOp, go_sem, Act.eval, *]) (Below.refl _ _) rfl
                · simp only [List.getElem?_toArray, List.getElem?_cons_succ, List.getElem?_cons_zero, Option.some.injEq] at ho
                  subst ho
                  refine ⟨rfl, ?_⟩
                  have e93 : A_.tmps[93]?.getD undef = .int .i64 (sa.ev.n + 1) := getD_of (hI.val_ (i := 6) rfl rfl (by decide) (hdep ⟨6, .data⟩ (by simp) rfl))
                  have e94 : A_.tmps[94]?.getD undef = .agg #[.int .i64 m0, .int .i64 m1, .int .i64 m2, .int .i64 m3, .int .i64 (1 + (cp : Int))] := getD_of (hI.val_ (i := 7) rfl rfl (by decide) (hdep ⟨7, .data⟩ (by simp) rfl))
                  clear hI hdep
                  exact .run rfl (.agg #[.int .i64 3, .int .i64 (sa.ev.n + 1), .int .i64 0, .int .i64 m0, .int .i64 m1, .int .i64 m2, .int .i64 m3, .int .i64 (1 + (cp : Int))]) w3 (by simp [execOp, go_sem, Act.eval, e93, e94]) (Below.refl _ _) rfl
                · simp only [List.getElem?_toArray, List.getElem?_cons_succ, List.getElem?_cons_zero, Option.some.injEq] at ho
                  subst ho
                  refine ⟨rfl, ?_⟩
                  have e95 : A_.tmps[95]?.getD undef = .agg #[.int .i64 3, .int .i64 (sa.ev.n + 1), .int .i64 0, .int .i64 m0, .int .i64 m1, .int .i64 m2, .int .i64 m3, .int .i64 (1 + (cp : Int))] := getD_of (hI.val_ (i := 8) rfl rfl (by decide) (hdep ⟨8, .data⟩ (by simp) rfl))
                  clear hI hdep
                  exact .run rfl (.agg #[.int .i64 3, .int .i64 (sa.ev.n + 1), .int .i64 0, .int .i64 m0, .int .i64 m1, .int .i64 m2, .int .i64 m3, .int .i64 (1 + (cp : Int)), .slice none 0 0, .bool false, .slice none 0 0]) w3 (by simp [execOp, go_sem, Act.eval, e95]) (Below.refl _ _) rfl
                · simp only [List.getElem?_toArray, List.getElem?_cons_succ, List.getElem?_cons_zero, Option.some.injEq] at ho
                  subst ho
                  refine ⟨rfl, ?_⟩
                  clear hI hdep
                  exact .run rfl (.pointer (some ⟨w3.heap.size, 0, none⟩)) (w3.alloc (.cells #[.int .i64 0, .int .i64 0, .int .i64 0, .int .i64 0, .int .i64 0, .int .i64 0, .int .i64 0, .int .i64 0, .slice none 0 0, .bool false, .slice none 0 0] 52)) (by simp [execOp, go_sem]) ((Below.refl _ _).alloc (Nat.le_refl _) _) ⟨_, rfl, heap_alloc_new _ _, hh.size⟩
              case fin =>
              intro A_ w3 hs hd hlow hS hok
              obtain ⟨_, hy13, g13, rfl, r13, l13⟩ := hok 10 13 _ (by decide) rfl rfl
              obtain rfl : A_ = ⟨#[.slice a0 len0 cap0, .int .i64 a1, undef, undef, u4, .slice (some ⟨g, 0, none⟩) k c, .int .i64 (i : Int), .int .i64 (k : Int), u8, u9, u10, .int .i64 (j : Int), .pointer (some ⟨wq.heap.size, 0, none⟩), .pointer (some ⟨g13, 0, none⟩), .slice a0 len0 cap0, .slice (some ⟨g, 0, none⟩) k c, .int .i64 (i : Int), .slice (some ⟨g, 0, none⟩) k c, .int .i64 (k : Int), .bool true, u20, u21, .int .i64 (k : Int), .slice (some ⟨g, 0, none⟩) k c, .int .i64 (k : Int), .bool false, u26, u27, u28, u29, u30, u31, u32, u33, u34, u35, u36, u37, u38, u39, u40, u41, u42, u43, u44, u45, u46, u47, u48, u49, u50, u51, u52, u53, u54, u55, u56, u57, u58, u59, u60, u61, u62, u63, u64, .int .i64 (j : Int), .slice (some ⟨g, 0, none⟩) k c, .int .i64 (i : Int), .pointer (some { block := g, off := i * 11 }), .pointer (some { block := g, off := i * 11 + 10 }), .slice (some ⟨q, 0, none⟩) sa.ms.length sa.sc, .int .i64 (sa.ms.length : Int), .bool true, u73, u74, .slice (some ⟨g, 0, none⟩) k c, .int .i64 (i : Int), .pointer (some { block := g, off := i * 11 }), .pointer (some { block := g, off := i * 11 + 10 }), .slice (some ⟨q, 0, none⟩) sa.ms.length sa.sc, .int .i64 (j : Int), .pointer (some { block := q, off := j * 5 }), .agg #[.int .i64 m0, .int .i64 m1, .int .i64 m2, .int .i64 m3, .int .i64 0], .int .i64 a1, .int .i64 (cp : Int), .int .i64 (1 + (cp : Int)), .pointer (some ⟨wq.heap.size, 4, none⟩), .slice (some ⟨g, 0, none⟩) k c, .int .i64 (i : Int), .pointer (some ⟨g, i * 11, none⟩), .pointer (some ⟨g, i * 11, none⟩), .pointer (some ⟨g, i * 11 + 1, none⟩), .int .i64 sa.ev.n, .int .i64 (sa.ev.n + 1), .agg #[.int .i64 m0, .int .i64 m1, .int .i64 m2, .int .i64 m3, .int .i64 (1 + (cp : Int))], .agg #[.int .i64 3, .int .i64 (sa.ev.n + 1), .int .i64 0, .int .i64 m0, .int .i64 m1, .int .i64 m2, .int .i64 m3, .int .i64 (1 + (cp : Int))], .agg #[.int .i64 3, .int .i64 (sa.ev.n + 1), .int .i64 0, .int .i64 m0, .int .i64 m1, .int .i64 m2, .int .i64 m3, .int .i64 (1 + (cp : Int)), .slice none 0 0, .bool false, .slice none 0 0], u97, u98, u99, u100, u101, u102, u103, u104, u105, u106, u107, u108, u109, u110, u111, u112, u113, u114, u115, u116, undef], []⟩ := act_ext hd hs (fun j hj => match j, hj with | 0, _ => (hlow 0 (by decide)).trans rfl | 1, _ => (hlow 1 (by decide)).trans rfl | 2, _ => (hlow 2 (by decide)).trans rfl | 3, _ => (hlow 3 (by decide)).trans rfl | 4, _ => (hlow 4 (by decide)).trans rfl | 5, _ => (hlow 5 (by decide)).trans rfl | 6, _ => (hlow 6 (by decide)).trans rfl | 7, _ => (hlow 7 (by decide)).trans rfl | 8, _ => (hlow 8 (by decide)).trans rfl | 9, _ => (hlow 9 (by decide)).trans rfl | 10, _ => (hlow 10 (by decide)).trans rfl | 11, _ => (hlow 11 (by decide)).trans rfl | 12, _ => (hlow 12 (by decide)).trans rfl | 13, _ => hy13 | 14, _ => (hlow 14 (by decide)).trans rfl | 15, _ => (hlow 15 (by decide)).trans rfl | 16, _ => (hlow 16 (by decide)).trans rfl | 17, _ => (hlow 17 (by decide)).trans rfl | 18, _ => (hlow 18 (by decide)).trans rfl | 19, _ => (hlow 19 (by decide)).trans rfl | 20, _ => (hlow 20 (by decide)).trans rfl | 21, _ => (hlow 21 (by decide)).trans rfl | 22, _ => (hlow 22 (by decide)).trans rfl | 23, _ => (hlow 23 (by decide)).trans rfl | 24, _ => (hlow 24 (by decide)).trans rfl | 25, _ => (hlow 25 (by decide)).trans rfl | 26, _ => (hlow 26 (by decide)).trans rfl | 27, _ => (hlow 27 (by decide)).trans rfl | 28, _ => (hlow 28 (by decide)).trans rfl | 29, _ => (hlow 29 (by decide)).trans rfl | 30, _ => (hlow 30 (by decide)).trans rfl | 31, _ => (hlow 31 (by decide)).trans rfl | 32, _ => (hlow 32 (by decide)).trans rfl | 33, _ => (hlow 33 (by decide)).trans rfl | 34, _ => (hlow 34 (by decide)).trans rfl | 35, _ => (hlow 35 (by decide)).trans rfl | 36, _ => (hlow 36 (by decide)).trans rfl | 37, _ => (hlow 37 (by decide)).trans rfl | 38, _ => (hlow 38 (by decide)).trans rfl | 39, _ => (hlow 39 (by decide)).trans rfl | 40, _ => (hlow 40 (by decide)).trans rfl | 41, _ => (hlow 41 (by decide)).trans rfl | 42, _ => (hlow 42 (by decide)).trans rfl | 43, _ => (hlow 43 (by decide)).trans rfl | 44, _ => (hlow 44 (by decide)).trans rfl | 45, _ => (hlow 45 (by decide)).trans rfl | 46, _ => (hlow 46 (by decide)).trans rfl | 47, _ => (hlow 47 (by decide)).trans rfl | 48, _ => (hlow 48 (by decide)).trans rfl | 49, _ => (hlow 49 (by decide)).trans rfl | 50, _ => (hlow 50 (by decide)).trans rfl | 51, _ => (hlow 51 (by decide)).trans rfl | 52, _ => (hlow 52 (by decide)).trans rfl | 53, _ => (hlow 53 (by decide)).trans rfl | 54, _ => (hlow 54 (by decide)).trans rfl | 55, _ => (hlow 55 (by decide)).trans rfl | 56, _ => (hlow 56 (by decide)).trans rfl | 57, _ => (hlow 57 (by decide)).trans rfl | 58, _ => (hlow 58 (by decide)).trans rfl | 59, _ => (hlow 59 (by decide)).trans rfl | 60, _ => (hlow 60 (by decide)).trans rfl | 61, _ => (hlow 61 (by decide)).trans rfl | 62, _ => (hlow 62 (by decide)).trans rfl | 63, _ => (hlow 63 (by decide)).trans rfl | 64, _ => (hlow 64 (by decide)).trans rfl | 65, _ => (hlow 65 (by decide)).trans rfl | 66, _ => (hlow 66 (by decide)).trans rfl | 67, _ => (hlow 67 (by decide)).trans rfl | 68, _ => (hlow 68 (by decide)).trans rfl | 69, _ => (hlow 69 (by decide)).trans rfl | 70, _ => (hlow 70 (by decide)).trans rfl | 71, _ => (hlow 71 (by decide)).trans rfl | 72, _ => (hlow 72 (by decide)).trans rfl | 73, _ => (hlow 73 (by decide)).trans rfl | 74, _ => (hlow 74 (by decide)).trans rfl | 75, _ => (hlow 75 (by decide)).trans rfl | 76, _ => (hlow 76 (by decide)).trans rfl | 77, _ => (hlow 77 (by decide)).trans rfl | 78, _ => (hlow 78 (by decide)).trans rfl | 79, _ => (hlow 79 (by decide)).trans rfl | 80, _ => (hlow 80 (by decide)).trans rfl | 81, _ => (hlow 81 (by decide)).trans rfl | 82, _ => (hlow 82 (by decide)).trans rfl | 83, _ => (hlow 83 (by decide)).trans rfl | 84, _ => (hlow 84 (by decide)).trans rfl | 85, _ => (hlow 85 (by decide)).trans rfl | 86, _ => (hlow 86 (by decide)).trans rfl | 87, _ => RgX.val_at (hok 0 87 _ (by decide) rfl rfl) | 88, _ => RgX.val_at (hok 1 88 _ (by decide) rfl rfl) | 89, _ => RgX.val_at (hok 2 89 _ (by decide) rfl rfl) | 90, _ => RgX.val_at (hok 3 90 _ (by decide) rfl rfl) | 91, _ => RgX.val_at (hok 4 91 _ (by decide) rfl rfl) | 92, _ => RgX.val_at (hok 5 92 _ (by decide) rfl rfl) | 93, _ => RgX.val_at (hok 6 93 _ (by decide) rfl rfl) | 94, _ => RgX.val_at (hok 7 94 _ (by decide) rfl rfl) | 95, _ => RgX.val_at (hok 8 95 _ (by decide) rfl rfl) | 96, _ => RgX.val_at (hok 9 96 _ (by decide) rfl rfl) | 97, _ => (hlow 97 (by decide)).trans rfl | 98, _ => (hlow 98 (by decide)).trans rfl | 99, _ => (hlow 99 (by decide)).trans rfl | 100, _ => (hlow 100 (by decide)).trans rfl | 101, _ => (hlow 101 (by decide)).trans rfl | 102, _ => (hlow 102 (by decide)).trans rfl | 103, _ => (hlow 103 (by decide)).trans rfl | 104, _ => (hlow 104 (by decide)).trans rfl | 105, _ => (hlow 105 (by decide)).trans rfl | 106, _ => (hlow 106 (by decide)).trans rfl | 107, _ => (hlow 107 (by decide)).trans rfl | 108, _ => (hlow 108 (by decide)).trans rfl | 109, _ => (hlow 109 (by decide)).trans rfl | 110, _ => (hlow 110 (by decide)).trans rfl | 111, _ => (hlow 111 (by decide)).trans rfl | 112, _ => (hlow 112 (by decide)).trans rfl | 113, _ => (hlow 113 (by decide)).trans rfl | 114, _ => (hlow 114 (by decide)).trans rfl | 115, _ => (hlow 115 (by decide)).trans rfl | 116, _ => (hlow 116 (by decide)).trans rfl | 117, _ => (hlow 117 (by decide)).trans rfl | n + 118, h => absurd h (by show ¬ n + 118 < 118; omega))
              clear hs hd hlow hok hy13
              refine RgX.wpList_store_seg rfl 52 _ _ rfl g13 0 (.agg #[.int .i64 3, .int .i64 (sa.ev.n + 1), .int .i64 0, .int .i64 m0, .int .i64 m1, .int .i64 m2, .int .i64 m3, .int .i64 (1 + (cp : Int)), .slice none 0 0, .bool false, .slice none 0 0]) rfl rfl 52 _ r13 (by kernel_rfl) (by simp [Value.cells]) (by simp [Value.cells, Value.oneCell']) #[.int .i64 3, .int .i64 (sa.ev.n + 1), .int .i64 0, .int .i64 m0, .int .i64 m1, .int .i64 m2, .int .i64 m3, .int .i64 (1 + (cp : Int)), .slice none 0 0, .bool false, .slice none 0 0] rfl ?_
              intro V3 k3 ho3 hz3 hb3
              have hV23 : Below V2.heap.size V2 V3 := hS.trans (hb3.mono l13)
              have hx3 : StBx V3 g13 ⟨⟨3, sa.ev.n + 1, 0, ⟨m0, m1, m2, m3, 1 + (cp : Int)⟩⟩, none, 0, [], false, none, 0, []⟩ := k3
              have HX3 := Lib.hid hx3
              have HB3 := Lib.hid (HB2'.out.trans (hV23.mono HB2'.out.size))
              have HM3 := Lib.hid (HMB.out.keep HMB.out.lt hV23)
              have HDEP : Hid (∀ V, Below V3.heap.size V3 V → Calls Tryd.prog 22 #[stV sa, stV ⟨⟨3, sa.ev.n + 1, 0, ⟨m0, m1, m2, m3, 1 + (cp : Int)⟩⟩, none, 0, [], false, none, 0, []⟩] V fun e w' => e = .returned (.bool true) ∧ Below V.heap.size V w') := fun V hV => by
                have h := dependent_any sa ⟨⟨3, sa.ev.n + 1, 0, ⟨m0, m1, m2, m3, 1 + (cp : Int)⟩⟩, none, 0, [], false, none, 0, []⟩ V (HKA.out V (HB3.out.trans (hV.mono HB3.out.size))).2 ⟨RS.Sl.nil qaE V, RS.Sl.nil msE V, (show (0 : Nat) ≤ 1000 by decide), (show (0 : Nat) ≤ 1000 by decide)⟩
                rwa [dep_copy sa ⟨m0, m1, m2, m3, 0⟩ HMM.out rfl] at h
              have HCM : Hid (∀ V, Calls Tryd.prog 23 #[msV ⟨m0, m1, m2, m3, 1 + (cp : Int)⟩, msV ⟨m0, m1, m2, m3, 0⟩] V fun e w' => e = .returned (.int .i64 1) ∧ Below V.heap.size V w') := fun V => by
                have h := cmpMsg_any ⟨m0, m1, m2, m3, 1 + (cp : Int)⟩ ⟨m0, m1, m2, m3, 0⟩ V
                rwa [lex_copy ⟨m0, m1, m2, m3, 0⟩ (1 + (cp : Int)) (by show (0 : Int) < _; omega)] at h
              clear k3 ho3 hz3 hb3 hV23 hx3 r13 l13 hS HMB HB2' hwn
              go_upto_region 19 with (fail)
              refine RgX.region 20 (fun i => ( 97 + i)) (fun ix_ => match ix_ with | 0 => .v (.slice (some ⟨g, 0, none⟩) k c) | 1 => .v (.int .i64 (i : Int)) | 2 => .v (.pointer (some ⟨g, i * 11, none⟩)) | 3 => .v (.agg #[.int .i64 sa.ev.k, .int .i64 sa.ev.n, .int .i64 sa.ev.a, .int .i64 sa.ev.m.c, .int .i64 sa.ev.m.h, .int .i64 sa.ev.m.t, .int .i64 sa.ev.m.i, .int .i64 sa.ev.m.p, .slice sa.qB sa.qs.length sa.qc, .bool sa.ob, .slice sa.sB sa.ms.length sa.sc]) | 4 => .v (.agg #[.int .i64 3, .int .i64 (sa.ev.n + 1), .int .i64 0, .int .i64 m0, .int .i64 m1, .int .i64 m2, .int .i64 m3, .int .i64 (1 + (cp : Int)), .slice none 0 0, .bool false, .slice none 0 0]) | 5 => .v (.bool true) | 6 => .v (.bool false) | 7 => .v (.bool false) | 8 => .v (.agg #[.int .i64 m0, .int .i64 m1, .int .i64 m2, .int .i64 m3, .int .i64 (1 + (cp : Int))]) | 9 => .v (.slice (some ⟨g, 0, none⟩) k c) | 10 => .v (.int .i64 (i : Int)) | 11 => .v (.pointer (some ⟨g, i * 11, none⟩)) | 12 => .v (.pointer (some ⟨g, i * 11 + 10, none⟩)) | 13 => .v (.slice (some ⟨q, 0, none⟩) sa.ms.length sa.sc) | 14 => .v (.int .i64 (j : Int)) | 15 => .v (.pointer (some ⟨q, j * 5, none⟩)) | 16 => .v (.agg #[.int .i64 m0, .int .i64 m1, .int .i64 m2, .int .i64 m3, .int .i64 0]) | 17 => .v (.int .i64 1) | 18 => .v (.bool false) | 19 => .v (.bool false) | _ => .any) (by kernel_rfl) rfl (by kernel_rfl)  (fun i hi => by show ( 97 + i) < 118; (repeat' split) <;> omega) (fun i j hi hj => by show ( 97 + i) = ( 97 + j) → i = j; (repeat' split) <;> omega) ?step ?fin
              case step =>
                intro L_ A_ w3 ix op_ hI ho hdep
                have hi : ix < 20 := (Array.getElem?_eq_some_iff.1 ho).1
                have hcase : ix = 0 ∨ ix = 1 ∨ ix = 2 ∨ ix = 3 ∨ ix = 4 ∨ ix = 5 ∨ ix = 6 ∨ ix = 7 ∨ ix = 8 ∨ ix = 9 ∨ ix = 10 ∨ ix = 11 ∨ ix = 12 ∨ ix = 13 ∨ ix = 14 ∨ ix = 15 ∨ ix = 16 ∨ ix = 17 ∨ ix = 18 ∨ ix = 19 := by omega
                have hh := hI.held
                clear hi
                rcases hcase with rfl | rfl | rfl | rfl | rfl | rfl | rfl | rfl | rfl | rfl | rfl | rfl | rfl | rfl | rfl | rfl | rfl | rfl | rfl | rfl
                · simp only [List.getElem?_toArray, List.getElem?_cons_zero, Option.some.injEq] at ho
                  subst ho
                  refine ⟨rfl, ?_⟩
                  have e5 : A_.tmps[5]?.getD undef = .slice (some ⟨g, 0, none⟩) k c := by rw [hI.low 5 (by decide)]; rfl
                  clear hI hdep
                  exact .run rfl (.slice (some ⟨g, 0, none⟩) k c) w3 (by simp [execOp, go_sem, Act.eval, e5]) (Below.refl _ _) rfl
                · simp only [List.getElem?_toArray, List.getElem?_cons_succ, List.getElem?_cons_zero, Option.some.injEq] at ho
                  subst ho
                  refine ⟨rfl, ?_⟩
                  have e6 : A_.tmps[6]?.getD undef = .int .i64 (i : Int) := by rw [hI.low 6 (by decide)]; rfl
                  clear hI hdep
                  exact .run rfl (.int .i64 (i : Int)) w3 (by simp [execOp, go_sem, Act.eval, e6]) (Below.refl _ _) rfl
                · simp only [List.getElem?_toArray, List.getElem?_cons_succ, List.getElem?_cons_zero, Option.some.injEq] at ho
                  subst ho
                  refine ⟨rfl, ?_⟩
                  have e97 : A_.tmps[97]?.getD undef = .slice (some ⟨g, 0, none⟩) k c := getD_of (hI.val_ (i := 0) rfl rfl (by decide) (hdep ⟨0, .data⟩ (by simp) rfl))
                  have e98 : A_.tmps[98]?.getD undef = .int .i64 (i : Int) := getD_of (hI.val_ (i := 1) rfl rfl (by decide) (hdep ⟨1, .data⟩ (by simp) rfl))
                  clear hI hdep
                  exact .run rfl (.pointer (some ⟨g, i * 11, none⟩)) w3 (by simp [execOp, go_sem, Act.eval, e97, e98]; omega) (Below.refl _ _) rfl
                · simp only [List.getElem?_toArray, List.getElem?_cons_succ, List.getElem?_cons_zero, Option.some.injEq] at ho
                  subst ho
                  refine ⟨rfl, ?_⟩
                  have e99 : A_.tmps[99]?.getD undef = .pointer (some ⟨g, i * 11, none⟩) := getD_of (hI.val_ (i := 2) rfl rfl (by decide) (hdep ⟨2, .data⟩ (by simp) rfl))
                  clear hI hdep
                  obtain ⟨⟨d0, d1, d2, d3, d4, d5, d6, d7, d8, d9, d10⟩, hin3⟩ := HKA.out w3 (HB3.out.trans (hh.mono HB3.out.size))
                  exact .run rfl (.agg #[.int .i64 sa.ev.k, .int .i64 sa.ev.n, .int .i64 sa.ev.a, .int .i64 sa.ev.m.c, .int .i64 sa.ev.m.h, .int .i64 sa.ev.m.t, .int .i64 sa.ev.m.i, .int .i64 sa.ev.m.p, .slice sa.qB sa.qs.length sa.qc, .bool sa.ob, .slice sa.sB sa.ms.length sa.sc]) w3 (by simp [execOp, go_sem, Act.eval, e99, d0, d1, d2, d3, d4, d5, d6, d7, d8, d9, d10]) (Below.refl _ _) rfl
                · simp only [List.getElem?_toArray, List.getElem?_cons_succ, List.getElem?_cons_zero, Option.some.injEq] at ho
                  subst ho
                  refine ⟨rfl, ?_⟩
                  have e13 : A_.tmps[13]?.getD undef = .pointer (some ⟨g13, 0, none⟩) := by rw [hI.low 13 (by decide)]; rfl
                  clear hI hdep
                  obtain ⟨x0, x1, x2, x3, x4⟩ := (HM3.out.keep HM3.out.lt hh).cells; obtain ⟨z0, z1, z2, z3, z4, z5, z6, z7, z8, z9, z10⟩ := (HX3.out.keep HX3.out.lt hh).cells
                  exact .run rfl (.agg #[.int .i64 3, .int .i64 (sa.ev.n + 1), .int .i64 0, .int .i64 m0, .int .i64 m1, .int .i64 m2, .int .i64 m3, .int .i64 (1 + (cp : Int)), .slice none 0 0, .bool false, .slice none 0 0]) w3 (by simp [execOp, go_sem, Act.eval, *]) (Below.refl _ _) rfl
                · simp only [List.getElem?_toArray, List.getElem?_cons_succ, List.getElem?_cons_zero, Option.some.injEq] at ho
                  subst ho
                  refine ⟨rfl, ?_⟩
                  have e100 : A_.tmps[100]?.getD undef = .agg #[.int .i64 sa.ev.k, .int .i64 sa.ev.n, .int .i64 sa.ev.a, .int .i64 sa.ev.m.c, .int .i64 sa.ev.m.h, .int .i64 sa.ev.m.t, .int .i64 sa.ev.m.i, .int .i64 sa.ev.m.p, .slice sa.qB sa.qs.length sa.qc, .bool sa.ob, .slice sa.sB sa.ms.length sa.sc] := getD_of (hI.val_ (i := 3) rfl rfl (by decide) (hdep ⟨3, .data⟩ (by simp) rfl))
                  have e101 : A_.tmps[101]?.getD undef = .agg #[.int .i64 3, .int .i64 (sa.ev.n + 1), .int .i64 0, .int .i64 m0, .int .i64 m1, .int .i64 m2, .int .i64 m3, .int .i64 (1 + (cp : Int)), .slice none 0 0, .bool false, .slice none 0 0] := getD_of (hI.val_ (i := 4) rfl rfl (by decide) (hdep ⟨4, .data⟩ (by simp) rfl))
                  clear hI hdep
                  exact .call rfl 22 #[.agg #[.int .i64 sa.ev.k, .int .i64 sa.ev.n, .int .i64 sa.ev.a, .int .i64 sa.ev.m.c, .int .i64 sa.ev.m.h, .int .i64 sa.ev.m.t, .int .i64 sa.ev.m.i, .int .i64 sa.ev.m.p, .slice sa.qB sa.qs.length sa.qc, .bool sa.ob, .slice sa.sB sa.ms.length sa.sc], .agg #[.int .i64 3, .int .i64 (sa.ev.n + 1), .int .i64 0, .int .i64 m0, .int .i64 m1, .int .i64 m2, .int .i64 m3, .int .i64 (1 + (cp : Int)), .slice none 0 0, .bool false, .slice none 0 0]] (by simp [go_sem, Act.eval, e100, e101]) ((HDEP.out w3 hh).mono fun _ _ ⟨h1_, h2_⟩ => ⟨⟨_, h1_, rfl⟩, h2_⟩)
                · simp only [List.getElem?_toArray, List.getElem?_cons_succ, List.getElem?_cons_zero, Option.some.injEq] at ho
                  subst ho
                  refine ⟨rfl, ?_⟩
                  have e102 : A_.tmps[102]?.getD undef = .bool true := getD_of (hI.val_ (i := 5) rfl rfl (by decide) (hdep ⟨5, .data⟩ (by simp) rfl))
                  clear hI hdep
                  exact .run rfl (.bool false) w3 (by simp [execOp, go_sem, Act.eval, e102]) (Below.refl _ _) rfl
                · simp only [List.getElem?_toArray, List.getElem?_cons_succ, List.getElem?_cons_zero, Option.some.injEq] at ho
                  subst ho
                  refine ⟨rfl, ?_⟩
                  have e103 : A_.tmps[103]?.getD undef = .bool false := getD_of (hI.val_ (i := 6) rfl rfl (by decide) (hdep ⟨6, .data⟩ (by simp) rfl))
                  clear hI hdep
                  exact .run rfl (.bool false) w3 (by simp [execOp, go_sem, Act.eval, e103]) (Below.refl _ _) rfl
                · simp only [List.getElem?_toArray, List.getElem?_cons_succ, List.getElem?_cons_zero, Option.some.injEq] at ho
                  subst ho
                  refine ⟨rfl, ?_⟩
                  have q104 : A_.tmps[104]? = some (.bool false) := hI.val_ (i := 7) rfl rfl (by decide) (hdep ⟨7, .guard⟩ (by simp) rfl)
                  have e12 : A_.tmps[12]?.getD undef = .pointer (some ⟨wq.heap.size, 0, none⟩) := by rw [hI.low 12 (by decide)]; rfl
                  clear hI hdep
                  obtain ⟨x0, x1, x2, x3, x4⟩ := (HM3.out.keep HM3.out.lt hh).cells; obtain ⟨z0, z1, z2, z3, z4, z5, z6, z7, z8, z9, z10⟩ := (HX3.out.keep HX3.out.lt hh).cells
                  exact .run ((wanted_some rfl rfl q104).trans rfl) (.agg #[.int .i64 m0, .int .i64 m1, .int .i64 m2, .int .i64 m3, .int .i64 (1 + (cp : Int))]) w3 (by simp [execOp, go_sem, Act.eval, *]) (Below.refl _ _) rfl
                · simp only [List.getElem?_toArray, List.getElem?_cons_succ, List.getElem?_cons_zero, Option.some.injEq] at ho
                  subst ho
                  refine ⟨rfl, ?_⟩
                  have q104 : A_.tmps[104]? = some (.bool false) := hI.val_ (i := 7) rfl rfl (by decide) (hdep ⟨7, .guard⟩ (by simp) rfl)
                  have e5 : A_.tmps[5]?.getD undef = .slice (some ⟨g, 0, none⟩) k c := by rw [hI.low 5 (by decide)]; rfl
                  clear hI hdep
                  exact .run ((wanted_some rfl rfl q104).trans rfl) (.slice (some ⟨g, 0, none⟩) k c) w3 (by simp [execOp, go_sem, Act.eval, e5]) (Below.refl _ _) rfl
                · simp only [List.getElem?_toArray, List.getElem?_cons_succ, List.getElem?_cons_zero, Option.some.injEq] at ho
                  subst ho
                  refine ⟨rfl, ?_⟩
                  have q104 : A_.tmps[104]? = some (.bool false) := hI.val_ (i := 7) rfl rfl (by decide) (hdep ⟨7, .guard⟩ (by simp) rfl)
                  have e6 : A_.tmps[6]?.getD undef = .int .i64 (i : Int) := by rw [hI.low 6 (by decide)]; rfl
                  clear hI hdep
                  exact .run ((wanted_some rfl rfl q104).trans rfl) (.int .i64 (i : Int)) w3 (by simp [execOp, go_sem, Act.eval, e6]) (Below.refl _ _) rfl
                · simp only [List.getElem?_toArray, List.getElem?_cons_succ, List.getElem?_cons_zero, Option.some.injEq] at ho
                  subst ho
                  refine ⟨rfl, ?_⟩
                  have q104 : A_.tmps[104]? = some (.bool false) := hI.val_ (i := 7) rfl rfl (by decide) (hdep ⟨7, .guard⟩ (by simp) rfl)
                  have e106 : A_.tmps[106]?.getD undef = .slice (some ⟨g, 0, none⟩) k c := getD_of (hI.val_ (i := 9) rfl rfl (by decide) (hdep ⟨9, .data⟩ (by simp) rfl))
                  have e107 : A_.tmps[107]?.getD undef = .int .i64 (i : Int) := getD_of (hI.val_ (i := 10) rfl rfl (by decide) (hdep ⟨10, .data⟩ (by simp) rfl))
                  clear hI hdep
                  exact .run ((wanted_some rfl rfl q104).trans rfl) (.pointer (some ⟨g, i * 11, none⟩)) w3 (by simp [execOp, go_sem, Act.eval, e106, e107]; omega) (Below.refl _ _) rfl
                · simp only [List.getElem?_toArray, List.getElem?_cons_succ, List.getElem?_cons_zero, Option.some.injEq] at ho
                  subst ho
                  refine ⟨rfl, ?_⟩
                  have q104 : A_.tmps[104]? = some (.bool false) := hI.val_ (i := 7) rfl rfl (by decide) (hdep ⟨7, .guard⟩ (by simp) rfl)
                  have e108 : A_.tmps[108]?.getD undef = .pointer (some ⟨g, i * 11, none⟩) := getD_of (hI.val_ (i := 11) rfl rfl (by decide) (hdep ⟨11, .data⟩ (by simp) rfl))
                  clear hI hdep
                  exact .run ((wanted_some rfl rfl q104).trans rfl) (.pointer (some ⟨g, i * 11 + 10, none⟩)) w3 (by simp [execOp, go_sem, Act.eval, e108]) (Below.refl _ _) rfl
                · simp only [List.getElem?_toArray, List.getElem?_cons_succ, List.getElem?_cons_zero, Option.some.injEq] at ho
                  subst ho
                  refine ⟨rfl, ?_⟩
                  have q104 : A_.tmps[104]? = some (.bool false) := hI.val_ (i := 7) rfl rfl (by decide) (hdep ⟨7, .guard⟩ (by simp) rfl)
                  have e109 : A_.tmps[109]?.getD undef = .pointer (some ⟨g, i * 11 + 10, none⟩) := getD_of (hI.val_ (i := 12) rfl rfl (by decide) (hdep ⟨12, .data⟩ (by simp) rfl))
                  clear hI hdep
                  obtain ⟨⟨d0, d1, d2, d3, d4, d5, d6, d7, d8, d9, d10⟩, hin3⟩ := HKA.out w3 (HB3.out.trans (hh.mono HB3.out.size))
                  rw [HQ.out] at d10
                  exact .run ((wanted_some rfl rfl q104).trans rfl) (.slice (some ⟨q, 0, none⟩) sa.ms.length sa.sc) w3 (by simp [execOp, go_sem, Act.eval, e109, d10]) (Below.refl _ _) rfl
                · simp only [List.getElem?_toArray, List.getElem?_cons_succ, List.getElem?_cons_zero, Option.some.injEq] at ho
                  subst ho
                  refine ⟨rfl, ?_⟩
                  have q104 : A_.tmps[104]? = some (.bool false) := hI.val_ (i := 7) rfl rfl (by decide) (hdep ⟨7, .guard⟩ (by simp) rfl)
                  have e11 : A_.tmps[11]?.getD undef = .int .i64 (j : Int) := by rw [hI.low 11 (by decide)]; rfl
                  clear hI hdep
                  exact .run ((wanted_some rfl rfl q104).trans rfl) (.int .i64 (j : Int)) w3 (by simp [execOp, go_sem, Act.eval, e11]) (Below.refl _ _) rfl
                · simp only [List.getElem?_toArray, List.getElem?_cons_succ, List.getElem?_cons_zero, Option.some.injEq] at ho
                  subst ho
                  refine ⟨rfl, ?_⟩
                  have q104 : A_.tmps[104]? = some (.bool false) := hI.val_ (i := 7) rfl rfl (by decide) (hdep ⟨7, .guard⟩ (by simp) rfl)
                  have e110 : A_.tmps[110]?.getD undef = .slice (some ⟨q, 0, none⟩) sa.ms.length sa.sc := getD_of (hI.val_ (i := 13) rfl rfl (by decide) (hdep ⟨13, .data⟩ (by simp) rfl))
                  have e111 : A_.tmps[111]?.getD undef = .int .i64 (j : Int) := getD_of (hI.val_ (i := 14) rfl rfl (by decide) (hdep ⟨14, .data⟩ (by simp) rfl))
                  clear hI hdep
                  exact .run ((wanted_some rfl rfl q104).trans rfl) (.pointer (some ⟨q, j * 5, none⟩)) w3 (by simp [execOp, go_sem, Act.eval, e110, e111]; omega) (Below.refl _ _) rfl
                · simp only [List.getElem?_toArray, List.getElem?_cons_succ, List.getElem?_cons_zero, Option.some.injEq] at ho
                  subst ho
                  refine ⟨rfl, ?_⟩
                  have q104 : A_.tmps[104]? = some (.bool false) := hI.val_ (i := 7) rfl rfl (by decide) (hdep ⟨7, .guard⟩ (by simp) rfl)
                  have e112 : A_.tmps[112]?.getD undef = .pointer (some ⟨q, j * 5, none⟩) := getD_of (hI.val_ (i := 15) rfl rfl (by decide) (hdep ⟨15, .data⟩ (by simp) rfl))
                  clear hI hdep
                  obtain ⟨⟨d0, d1, d2, d3, d4, d5, d6, d7, d8, d9, d10⟩, hin3⟩ := HKA.out w3 (HB3.out.trans (hh.mono HB3.out.size))
                  obtain ⟨q2, hq2, _, y0, y1, y2, y3, y4⟩ := ms_at hin3.ms HMJ.out
                  rw [HQ.out] at hq2
                  injection hq2 with hq2
                  injection hq2 with hq2
                  subst hq2
                  exact .run ((wanted_some rfl rfl q104).trans rfl) (.agg #[.int .i64 m0, .int .i64 m1, .int .i64 m2, .int .i64 m3, .int .i64 0]) w3 (by simp [execOp, go_sem, Act.eval, e112, y0, y1, y2, y3, y4]) (Below.refl _ _) rfl
                · simp only [List.getElem?_toArray, List.getElem?_cons_succ, List.getElem?_cons_zero, Option.some.injEq] at ho
                  subst ho
                  refine ⟨rfl, ?_⟩
                  have q104 : A_.tmps[104]? = some (.bool false) := hI.val_ (i := 7) rfl rfl (by decide) (hdep ⟨7, .guard⟩ (by simp) rfl)
                  have e105 : A_.tmps[105]?.getD undef = .agg #[.int .i64 m0, .int .i64 m1, .int .i64 m2, .int .i64 m3, .int .i64 (1 + (cp : Int))] := getD_of (hI.val_ (i := 8) rfl rfl (by decide) (hdep ⟨8, .data⟩ (by simp) rfl))
                  have e113 : A_.tmps[113]?.getD undef = .agg #[.int .i64 m0, .int .i64 m1, .int .i64 m2, .int .i64 m3, .int .i64 0] := getD_of (hI.val_ (i := 16) rfl rfl (by decide) (hdep ⟨16, .data⟩ (by simp) rfl))
                  clear hI hdep
                  exact .call ((wanted_some rfl rfl q104).trans rfl) 23 #[.agg #[.int .i64 m0, .int .i64 m1, .int .i64 m2, .int .i64 m3, .int .i64 (1 + (cp : Int))], .agg #[.int .i64 m0, .int .i64 m1, .int .i64 m2, .int .i64 m3, .int .i64 0]] (by simp [go_sem, Act.eval, e105, e113]) ((HCM.out w3).mono fun _ _ ⟨h1_, h2_⟩ => ⟨⟨_, h1_, rfl⟩, h2_⟩)
                · simp only [List.getElem?_toArray, List.getElem?_cons_succ, List.getElem?_cons_zero, Option.some.injEq] at ho
                  subst ho
                  refine ⟨rfl, ?_⟩
                  have q104 : A_.tmps[104]? = some (.bool false) := hI.val_ (i := 7) rfl rfl (by decide) (hdep ⟨7, .guard⟩ (by simp) rfl)
                  have e114 : A_.tmps[114]?.getD undef = .int .i64 1 := getD_of (hI.val_ (i := 17) rfl rfl (by decide) (hdep ⟨17, .data⟩ (by simp) rfl))
                  clear hI hdep
                  exact .run ((wanted_some rfl rfl q104).trans rfl) (.bool false) w3 (by simp [execOp, go_sem, Act.eval, e114]) (Below.refl _ _) rfl
                · simp only [List.getElem?_toArray, List.getElem?_cons_succ, List.getElem?_cons_zero, Option.some.injEq] at ho
                  subst ho
                  refine ⟨rfl, ?_⟩
                  have e104 : A_.tmps[104]?.getD undef = .bool false := getD_of (hI.val_ (i := 7) rfl rfl (by decide) (hdep ⟨7, .data⟩ (by simp) rfl))
                  have e115 : A_.tmps[115]?.getD undef = .bool false := getD_of (hI.val_ (i := 18) rfl rfl (by decide) (hdep ⟨18, .data⟩ (by simp) rfl))
                  clear hI hdep
                  exact .run rfl (.bool false) w3 (by simp [execOp, go_sem, Act.eval, e104, e115]) (Below.refl _ _) rfl
              case fin =>
              intro A_ w3 hs hd hlow hS hok
              obtain rfl : A_ = ⟨#[.slice a0 len0 cap0, .int .i64 a1, undef, undef, u4, .slice (some ⟨g, 0, none⟩) k c, .int .i64 (i : Int), .int .i64 (k : Int), u8, u9, u10, .int .i64 (j : Int), .pointer (some ⟨wq.heap.size, 0, none⟩), .pointer (some ⟨g13, 0, none⟩), .slice a0 len0 cap0, .slice (some ⟨g, 0, none⟩) k c, .int .i64 (i : Int), .slice (some ⟨g, 0, none⟩) k c, .int .i64 (k : Int), .bool true, u20, u21, .int .i64 (k : Int), .slice (some ⟨g, 0, none⟩) k c, .int .i64 (k : Int), .bool false, u26, u27, u28, u29, u30, u31, u32, u33, u34, u35, u36, u37, u38, u39, u40, u41, u42, u43, u44, u45, u46, u47, u48, u49, u50, u51, u52, u53, u54, u55, u56, u57, u58, u59, u60, u61, u62, u63, u64, .int .i64 (j : Int), .slice (some ⟨g, 0, none⟩) k c, .int .i64 (i : Int), .pointer (some { block := g, off := i * 11 }), .pointer (some { block := g, off := i * 11 + 10 }), .slice (some ⟨q, 0, none⟩) sa.ms.length sa.sc, .int .i64 (sa.ms.length : Int), .bool true, u73, u74, .slice (some ⟨g, 0, none⟩) k c, .int .i64 (i : Int), .pointer (some { block := g, off := i * 11 }), .pointer (some { block := g, off := i * 11 + 10 }), .slice (some ⟨q, 0, none⟩) sa.ms.length sa.sc, .int .i64 (j : Int), .pointer (some { block := q, off := j * 5 }), .agg #[.int .i64 m0, .int .i64 m1, .int .i64 m2, .int .i64 m3, .int .i64 0], .int .i64 a1, .int .i64 (cp : Int), .int .i64 (1 + (cp : Int)), .pointer (some ⟨wq.heap.size, 4, none⟩), .slice (some ⟨g, 0, none⟩) k c, .int .i64 (i : Int), .pointer (some { block := g, off := i * 11 }), .pointer (some { block := g, off := i * 11 }), .pointer (some { block := g, off := i * 11 + 1 }), .int .i64 sa.ev.n, .int .i64 (sa.ev.n + 1), .agg #[.int .i64 m0, .int .i64 m1, .int .i64 m2, .int .i64 m3, .int .i64 (1 + (cp : Int))], .agg #[.int .i64 3, .int .i64 (sa.ev.n + 1), .int .i64 0, .int .i64 m0, .int .i64 m1, .int .i64 m2, .int .i64 m3, .int .i64 (1 + (cp : Int))], .agg #[.int .i64 3, .int .i64 (sa.ev.n + 1), .int .i64 0, .int .i64 m0, .int .i64 m1, .int .i64 m2, .int .i64 m3, .int .i64 (1 + (cp : Int)), .slice none 0 0, .bool false, .slice none 0 0], .slice (some ⟨g, 0, none⟩) k c, .int .i64 (i : Int), .pointer (some ⟨g, i * 11, none⟩), .agg #[.int .i64 sa.ev.k, .int .i64 sa.ev.n, .int .i64 sa.ev.a, .int .i64 sa.ev.m.c, .int .i64 sa.ev.m.h, .int .i64 sa.ev.m.t, .int .i64 sa.ev.m.i, .int .i64 sa.ev.m.p, .slice sa.qB sa.qs.length sa.qc, .bool sa.ob, .slice sa.sB sa.ms.length sa.sc], .agg #[.int .i64 3, .int .i64 (sa.ev.n + 1), .int .i64 0, .int .i64 m0, .int .i64 m1, .int .i64 m2, .int .i64 m3, .int .i64 (1 + (cp : Int)), .slice none 0 0, .bool false, .slice none 0 0], .bool true, .bool false, .bool false, .agg #[.int .i64 m0, .int .i64 m1, .int .i64 m2, .int .i64 m3, .int .i64 (1 + (cp : Int))], .slice (some ⟨g, 0, none⟩) k c, .int .i64 (i : Int), .pointer (some ⟨g, i * 11, none⟩), .pointer (some ⟨g, i * 11 + 10, none⟩), .slice (some ⟨q, 0, none⟩) sa.ms.length sa.sc, .int .i64 (j : Int), .pointer (some ⟨q, j * 5, none⟩), .agg #[.int .i64 m0, .int .i64 m1, .int .i64 m2, .int .i64 m3, .int .i64 0], .int .i64 1, .bool false, .bool false, undef], []⟩ := act_ext hd hs (fun j hj => match j, hj with | 0, _ => (hlow 0 (by decide)).trans rfl | 1, _ => (hlow 1 (by decide)).trans rfl | 2, _ => (hlow 2 (by decide)).trans rfl | 3, _ => (hlow 3 (by decide)).trans rfl | 4, _ => (hlow 4 (by decide)).trans rfl | 5, _ => (hlow 5 (by decide)).trans rfl | 6, _ => (hlow 6 (by decide)).trans rfl | 7, _ => (hlow 7 (by decide)).trans rfl | 8, _ => (hlow 8 (by decide)).trans rfl | 9, _ => (hlow 9 (by decide)).trans rfl | 10, _ => (hlow 10 (by decide)).trans rfl | 11, _ => (hlow 11 (by decide)).trans rfl | 12, _ => (hlow 12 (by decide)).trans rfl | 13, _ => (hlow 13 (by decide)).trans rfl | 14, _ => (hlow 14 (by decide)).trans rfl | 15, _ => (hlow 15 (by decide)).trans rfl | 16, _ => (hlow 16 (by decide)).trans rfl | 17, _ => (hlow 17 (by decide)).trans rfl | 18, _ => (hlow 18 (by decide)).trans rfl | 19, _ => (hlow 19 (by decide)).trans rfl | 20, _ => (hlow 20 (by decide)).trans rfl | 21, _ => (hlow 21 (by decide)).trans rfl | 22, _ => (hlow 22 (by decide)).trans rfl | 23, _ => (hlow 23 (by decide)).trans rfl | 24, _ => (hlow 24 (by decide)).trans rfl | 25, _ => (hlow 25 (by decide)).trans rfl | 26, _ => (hlow 26 (by decide)).trans rfl | 27, _ => (hlow 27 (by decide)).trans rfl | 28, _ => (hlow 28 (by decide)).trans rfl | 29, _ => (hlow 29 (by decide)).trans rfl | 30, _ => (hlow 30 (by decide)).trans rfl | 31, _ => (hlow 31 (by decide)).trans rfl | 32, _ => (hlow 32 (by decide)).trans rfl | 33, _ => (hlow 33 (by decide)).trans rfl | 34, _ => (hlow 34 (by decide)).trans rfl | 35, _ => (hlow 35 (by decide)).trans rfl | 36, _ => (hlow 36 (by decide)).trans rfl | 37, _ => (hlow 37 (by decide)).trans rfl | 38, _ => (hlow 38 (by decide)).trans rfl | 39, _ => (hlow 39 (by decide)).trans rfl | 40, _ => (hlow 40 (by decide)).trans rfl | 41, _ => (hlow 41 (by decide)).trans rfl | 42, _ => (hlow 42 (by decide)).trans rfl | 43, _ => (hlow 43 (by decide)).trans rfl | 44, _ => (hlow 44 (by decide)).trans rfl | 45, _ => (hlow 45 (by decide)).trans rfl | 46, _ => (hlow 46 (by decide)).trans rfl | 47, _ => (hlow 47 (by decide)).trans rfl | 48, _ => (hlow 48 (by decide)).trans rfl | 49, _ => (hlow 49 (by decide)).trans rfl | 50, _ => (hlow 50 (by decide)).trans rfl | 51, _ => (hlow 51 (by decide)).trans rfl | 52, _ => (hlow 52 (by decide)).trans rfl | 53, _ => (hlow 53 (by decide)).trans rfl | 54, _ => (hlow 54 (by decide)).trans rfl | 55, _ => (hlow 55 (by decide)).trans rfl | 56, _ => (hlow 56 (by decide)).trans rfl | 57, _ => (hlow 57 (by decide)).trans rfl | 58, _ => (hlow 58 (by decide)).trans rfl | 59, _ => (hlow 59 (by decide)).trans rfl | 60, _ => (hlow 60 (by decide)).trans rfl | 61, _ => (hlow 61 (by decide)).trans rfl | 62, _ => (hlow 62 (by decide)).trans rfl | 63, _ => (hlow 63 (by decide)).trans rfl | 64, _ => (hlow 64 (by decide)).trans rfl | 65, _ => (hlow 65 (by decide)).trans rfl | 66, _ => (hlow 66 (by decide)).trans rfl | 67, _ => (hlow 67 (by decide)).trans rfl | 68, _ => (hlow 68 (by decide)).trans rfl | 69, _ => (hlow 69 (by decide)).trans rfl | 70, _ => (hlow 70 (by decide)).trans rfl | 71, _ => (hlow 71 (by decide)).trans rfl | 72, _ => (hlow 72 (by decide)).trans rfl | 73, _ => (hlow 73 (by decide)).trans rfl | 74, _ => (hlow 74 (by decide)).trans rfl | 75, _ => (hlow 75 (by decide)).trans rfl | 76, _ => (hlow 76 (by decide)).trans rfl | 77, _ => (hlow 77 (by decide)).trans rfl | 78, _ => (hlow 78 (by decide)).trans rfl | 79, _ => (hlow 79 (by decide)).trans rfl | 80, _ => (hlow 80 (by decide)).trans rfl | 81, _ => (hlow 81 (by decide)).trans rfl | 82, _ => (hlow 82 (by decide)).trans rfl | 83, _ => (hlow 83 (by decide)).trans rfl | 84, _ => (hlow 84 (by decide)).trans rfl | 85, _ => (hlow 85 (by decide)).trans rfl | 86, _ => (hlow 86 (by decide)).trans rfl | 87, _ => (hlow 87 (by decide)).trans rfl | 88, _ => (hlow 88 (by decide)).trans rfl | 89, _ => (hlow 89 (by decide)).trans rfl | 90, _ => (hlow 90 (by decide)).trans rfl | 91, _ => (hlow 91 (by decide)).trans rfl | 92, _ => (hlow 92 (by decide)).trans rfl | 93, _ => (hlow 93 (by decide)).trans rfl | 94, _ => (hlow 94 (by decide)).trans rfl | 95, _ => (hlow 95 (by decide)).trans rfl | 96, _ => (hlow 96 (by decide)).trans rfl | 97, _ => RgX.val_at (hok 0 97 _ (by decide) rfl rfl) | 98, _ => RgX.val_at (hok 1 98 _ (by decide) rfl rfl) | 99, _ => RgX.val_at (hok 2 99 _ (by decide) rfl rfl) | 100, _ => RgX.val_at (hok 3 100 _ (by decide) rfl rfl) | 101, _ => RgX.val_at (hok 4 101 _ (by decide) rfl rfl) | 102, _ => RgX.val_at (hok 5 102 _ (by decide) rfl rfl) | 103, _ => RgX.val_at (hok 6 103 _ (by decide) rfl rfl) | 104, _ => RgX.val_at (hok 7 104 _ (by decide) rfl rfl) | 105, _ => RgX.val_at (hok 8 105 _ (by decide) rfl rfl) | 106, _ => RgX.val_at (hok 9 106 _ (by decide) rfl rfl) | 107, _ => RgX.val_at (hok 10 107 _ (by decide) rfl rfl) | 108, _ => RgX.val_at (hok 11 108 _ (by decide) rfl rfl) | 109, _ => RgX.val_at (hok 12 109 _ (by decide) rfl rfl) | 110, _ => RgX.val_at (hok 13 110 _ (by decide) rfl rfl) | 111, _ => RgX.val_at (hok 14 111 _ (by decide) rfl rfl) | 112, _ => RgX.val_at (hok 15 112 _ (by decide) rfl rfl) | 113, _ => RgX.val_at (hok 16 113 _ (by decide) rfl rfl) | 114, _ => RgX.val_at (hok 17 114 _ (by decide) rfl rfl) | 115, _ => RgX.val_at (hok 18 115 _ (by decide) rfl rfl) | 116, _ => RgX.val_at (hok 19 116 _ (by decide) rfl rfl) | 117, _ => (hlow 117 (by decide)).trans rfl | n + 118, h => absurd h (by show ¬ n + 118 < 118; omega))
              clear hs hd hlow hok 
              have HS := Lib.hid hS
              clear hS
              go_wp2_with fail
              go_roundw
              case rel => exact ⟨j + 1, by go_num, by omega, HB3.out.trans (HS.out.mono HB3.out.size)⟩
              case measure => simp [intOf]; omega
            · obtain rfl : j = sa.ms.length := by omega
              go_wp2_with fail
              go_roundw
              case rel => exact ⟨i + 1, by go_num, by omega, hbj.out⟩
              case measure => simp [intOf]; omega
    · obtain rfl : i = m := by omega
      have HL := Lib.hid (HLV.out wo hbl.out)
      go_wp2_with (first
        | (go_at_call 15
           refine HL.out.mono ?_
           rintro e w9 ⟨rfl, hb9⟩))
      go_ret
      exact ⟨rfl, HB2.out.trans ((hbl.out.trans (hb9.mono hbl.out.size)).mono HB2.out.size)⟩
end Go.Proofs.YtlomhoohmcnniaaDoor.LawDependSymmetric

namespace Go.Proofs.YtlomhoohmcnniaaDoor.dependSymmetric
open Go.ChangeShapes Go.WideShapes Go.ChangeAt Go.RowKit
open Go.ChangeMaps (open_string shut_string)
set_option linter.unusedVariables false

theorem own : ownKnob Tryd.prog.godebug = none := by kernel_rfl
theorem laidOut : laidOutB Tryd.prog = true := by kernel_rfl

/-- WHAT THE WALK IS TOLD OF A SLICE OF INTEGERS THAT CAME IN: it is nil; or it leads to a row of 'cap' cells, the numbers 'zs' (the first 'len' are its elements, the rest its spare room), each fitting its kind. -/
def IsRow (k : IntKind) (w : World) (a : Option Addr) (len cap : Nat) (zs : List Int) : Prop :=
  (a = none ∧ len = 0 ∧ cap = 0 ∧ zs = []) ∨
  ∃ x, a = some x ∧ len ≤ cap ∧ cap ≤ maxLen ∧ zs.length = cap ∧ (∀ i, i < zs.length → w.cell? (x.add i) = some (.int k (zs.getD i 0))) ∧ ∀ n ∈ zs, (Lit.int k n).wf = true

/-! ### STEP 1: THE WALK: the Go text returns true, AND WRITES NOTHING THAT WAS THERE: 'Below w.heap.size w w'' (Derived/Below.lean: '.refl', '.alloc', '.drew', '.setCell' at a new block, '.trans'). Open each 'IsRow' by 'rcases' AHEAD of 'go_enter'; part every test ahead of the walk. -/
theorem walk (a0 : Option Addr) (len0 cap0 : Nat) (z0 : List Int) (a1 : Int) (w : World) (w0 : IsRow .i64 w a0 len0 cap0 z0) (w1 : (Lit.int .i64 a1).wf = true) (hT : Tab w) :
    Calls Tryd.prog 6 #[.slice a0 len0 cap0, .int .i64 a1] w fun e w' => e = .returned (.bool true) ∧ Below w.heap.size w w' := by
  exact LawDependSymmetric.walk a0 len0 cap0 z0 a1 w w0 w1 hT

/-! ### THE ROW's STEP: WRITTEN OUT: LEAVE IT -/
set_option maxRecDepth 100000 in
theorem lifted (os : Os) (started : os.Started) (H : Type) (enc : TypeId × Value → H) :
    ReturnsInHanded {} Tryd.checked os 6 .any (fun w args => (Rows.dependSymmetricSpec.pre enc Tryd.prog Tryd.f6 [] false w args ∧ laidMetH Tryd.prog laidT w) ∧ sizedMet enc Tryd.prog Tryd.f6 (OpenSpec.ofChange Rows.dependSymmetricSpec) false w args)
      (Rows.dependSymmetricSpec.post enc Tryd.prog Tryd.f6 false true false false) := by
  refine returnsInHanded_of_change_and (C := Tryd.checked) (X := fun w _ => laidMetH Tryd.prog laidT w) (fun _ _ _ hh h => h.of_heap hh) own started (by kernel_rfl) Tryd.func6
    (ChangeSpec.witness_shaped (enc := enc) (C := Tryd.checked) (os := os) (X := fun w _ => laidMetH Tryd.prog laidT w) false (World.doorLaid Tryd.prog 14 os) #[.slice none 0 0, .int .i64 0] 8 rfl (World.shaped_of_RefB (by kernel_rfl) (by kernel_rfl)) (by kernel_rfl) (by kernel_rfl) (by kernel_rfl) (door_met os _)) ?_
  intro W base args ds gs before hval0 hW _ _ hL _
  have hval : ∀ (j : Nat) t v, Tryd.f6.params[j]? = some t → args[j]? = some v → Value.okWide Tryd.prog W .any base t v := hval0
  have hW' := hW
  obtain ⟨p, q, hA0, hV, rfl, hfz, hnd⟩ := hW
  have hA : DataW.TrodAll enc Tryd.prog W 0 (fun _ => true) true Tryd.f6.params.toList args.toList ds p := hA0
  rw [Tryd.params6] at hA hval
  obtain ⟨v0, vs0, d0, ds0, p0, q0, hargs, rfl, rfl, h0, r0⟩ := trodAll_cons hA
  obtain ⟨v1, vs1, d1, ds1, p1, q1, rfl, rfl, rfl, h1, r1⟩ := trodAll_cons r0
  obtain ⟨rfl, rfl, rfl⟩ := trodAll_nil r1
  obtain rfl : args = #[v0, v1] := by cases args; simp_all
  obtain ⟨rfl, rfl⟩ := trodVars_none hV
  obtain ⟨a0, len0, cap0, rfl⟩ := okWide_slice Tryd.underlying22 (hval 0 22 v0 rfl rfl)
  have k0 := h0
  have lt0 : ∀ x ∈ p0, x.block < W.heap.size := by obtain ⟨m, hm⟩ := k0; exact DataW.trod_lt m _ _ _ hm
  obtain ⟨z0, w0⟩ : ∃ zs, IsRow .i64 W a0 len0 cap0 zs := by
    obtain ⟨fuel, hf⟩ := h0
    rcases open_ints Tryd.underlying22 Tryd.underlying3 (by kernel_rfl) hf with ⟨hcs, _⟩ | ⟨x, l, c, zs, hcs, _, hl, hm, hz, _, hcell, hwz⟩
    · simp [Value.cells] at hcs
      obtain ⟨rfl, rfl, rfl⟩ := hcs
      exact ⟨[], .inl ⟨rfl, rfl, rfl, rfl⟩⟩
    · simp [Value.cells] at hcs
      obtain ⟨rfl, rfl, rfl⟩ := hcs
      exact ⟨zs, .inr ⟨_, rfl, hl, hm, by simpa using hz, hcell, hwz⟩⟩
  obtain ⟨a1, rfl, rfl, rfl, w1⟩ := open_int Tryd.underlying3 (hval 1 3 v1 rfl rfl) h1
  clear hA0 hval0
  refine (walk a0 len0 cap0 z0 a1 W w0 w1 (of_laid hL)).mono fun e W' ⟨he, bel⟩ => ?_
  subst he
  exact ⟨_, rfl, _, _, _, [], _, [], hW', trodAll_mk1 (shut_bool Tryd.underlying4 _), (trodAll_cons_mk (Below.trod laidOut (by kernel_rfl) (of_decide_eq_true (by kernel_rfl)) k0 bel lt0) (trodAll_cons_mk (shut_int Tryd.underlying3 w1) trodAll_mk0)), rfl, bel.frame _, fun h => by cases h⟩

theorem over : Rows.dependSymmetricRow.holds Tryd.pinned (OpenSpec.ofChange Rows.dependSymmetricSpec) :=
  OpenClaim.holds_of_wide 6 Tryd.f6 rfl rfl rfl rfl rfl rfl rfl ⟨rfl, rfl, rfl, rfl, rfl⟩ rfl rfl rfl rfl rfl (by kernel_rfl) Tryd.func6 (by kernel_rfl)
    (of_decide_eq_true (by kernel_rfl)) (by unfold Func.isWrapper; first | (rw [if_pos (by decide +kernel)]; kernel_rfl) | (rw [if_neg (by decide +kernel)]; exact ⟨rfl, rfl⟩))
    (fun os started H enc _ => lifted os started H enc)


/-! ### THE CARD -/
theorem cardHolds : Rows.DependSymmetricCardSaid :=
  Claim7.holds_tied_plain_at .later [] [.data] true (true, "90cb75cc7c10c14a10cefb939cee6070c87076b8098582c817745454562e8749") false
    over (fun _ h => by cases h) (by kernel_rfl) (fun _ h => by cases h) dependSymmetric_row_tie rfl ⟨rfl, rfl⟩ (by kernel_rfl) rfl
    (fun f fn hf hfn => by
      obtain rfl : f = 6 := Option.some.inj ((show Tryd.prog.funcNamed "simproof/simprooflaw16.DependSymmetric" = some 6 by kernel_rfl).symm.trans hf) |>.symm
      obtain rfl : fn = Tryd.f6 := (Option.some.inj (Tryd.func6.symm.trans hfn)).symm
      exact ⟨by kernel_rfl, fun j t ht => by
        rw [Tryd.params6] at ht
        have hm : t ∈ [22, 3] := by simpa using Array.mem_of_getElem? ht
        have hall : ([22, 3].all fun u => !Tryd.prog.wantsStandIn u) = true := by kernel_rfl
        exact (show Tryd.prog.wantsStandIn t = false by simpa using List.all_eq_true.1 hall t hm)⟩)
    (by kernel_rfl)
end Go.Proofs.YtlomhoohmcnniaaDoor.dependSymmetric
