/-
  The walk of DependCovers: adjacent steps can be exchanged where the order does not hold between them; each race is a cover.
  The tied card of the statement DependCovers: for every input the law answers true and leaves its arguments as they were; the condition is the listed table of math/bits, which the card ties to the program's text. The frame of this proof was written by the guide's program, the walk is the text LawDependCovers's.
-/
import Derived.Test.YtlomhoohmcnniaaDoorK14
import Derived.Test.YtlomhoohmcnniaaDoorK21
import Derived.Test.YtlomhoohmcnniaaDoorK22
import Derived.Test.YtlomhoohmcnniaaDoorK19
import Derived.Test.YtlomhoohmcnniaaDoorK33
import Derived.Deep.Cut
import Derived.Test.YtlomhoohmcnniaaDoorRows
import Derived.Test.YtlomhoohmcnniaaDoorCards
import Derived.Test.YtlomhoohmcnniaaDoorTie
import Derived.Test.YtlomhoohmcnniaaDoorK4
import Derived.SevenTiedPlain
import Derived.SevenTiedAt
import Derived.WalkKit
import Derived.ProofKit
import Derived.OpenShut
import Derived.ShutString
import Derived.ChangeOld
import Derived.Below

namespace Go.Proofs.YtlomhoohmcnniaaDoor.LawDependCovers
open Go Go.RowKit Go.Proofs Go.Proofs.YtlomhoohmcnniaaDoor
attribute [local go_sem] Oper.semAt_some

theorem hb_next {R : List DP.St} (hR : R.length ≤ 14) {i : Nat} (hi : i + 1 < R.length) : DP.hb R i (i + 1) = DP.depAt R i (i + 1) := by
  cases h : DP.depAt R i (i + 1) with
  | true => exact DP.hb_one hR (by omega) hi h
  | false =>
    cases h2 : DP.hb R i (i + 1) with
    | false => rfl
    | true =>
      obtain ⟨a, h3, _, h5, h6⟩ := (DP.hb_iff hR).1 h2
      rcases h6 with rfl | h6
      · rw [h] at h5
        cases h5
      · have := (DP.hb_lt hR h6).1
        omega
theorem any_take {l : List (Int × Int)} {r q : Int × Int} {j : Nat} (h : l[j]? = some q) : ((l.take (j + 1)).any fun x => x == r) = (((l.take j).any fun x => x == r) || (q == r)) := by
  rw [List.take_add_one, h, List.any_append]
  simp
set_option maxRecDepth 100000 in
set_option maxHeartbeats 8000000 in
theorem walk (a0 : Option Addr) (len0 cap0 : Nat) (z0 : List Int) (w : World) (w0 : Row .i64 w a0 len0 cap0 z0) (hT : Tab w) :
    Calls Tryd.prog 8 #[.slice a0 len0 cap0] w fun e w' => e = .returned (.bool true) ∧ Below w.heap.size w w' := by
  have htl := hT.lt
  have HRUN := Lib.hid (run_row w0)
  have HT := Lib.hid hT
  clear w0 hT
  go_enter Tryd.func8, Tryd.ntmps8
  go_wp2_with (first
    | (go_at_call 10
       refine HRUN.out.mono ?_
       clear HRUN
       rintro e w1 ⟨A, m, c, R, rfl, hr1, hm, hgd, hb1⟩
       have HR1 := Lib.hid hr1
       have HB1 := Lib.hid hb1
       have HORD := Lib.hid (order_any hr1 hm (HT.out.below htl hb1))
       clear hr1 hb1 hgd)
    | (go_at_call 11
       refine HORD.out.mono ?_
       clear HORD
       rintro e w2 ⟨p, rfl, ho2, hb2⟩
       have HO2 := Lib.hid ho2
       have HB2 := Lib.hid (HB1.out.trans (hb2.mono HB1.out.size))
       have HR2 := Lib.hid (HR1.out.keep hb2)
       clear ho2 hb2))
  have hR14 : R.length ≤ 14 := by have := HR2.out.sl.len; omega
  have HLEN := Lib.hid HR2.out.sl.len
  have HLE : Hid (∀ (V : World) (i k : Nat), Below w2.heap.size w2 V → Calls Tryd.prog 13 #[.pointer (some ⟨p, 0, none⟩), .int .i64 (i : Int), .int .i64 (k : Int)] V fun e w' => e = .returned (.bool (DP.hb R i k)) ∧ V = w') := fun V i k hV => less_hb (HO2.out.below hV) hR14 i k
  have HCV : Hid (∀ V, Below w2.heap.size w2 V → Calls Tryd.prog 26 #[.pointer (some ⟨p, 0, none⟩)] V fun e w' => ∃ v, e = .returned v ∧ OwnP w' V.heap.size v (PO.covs (DP.ordD R)) ∧ Below V.heap.size V w') := fun V hV => covers_any (HO2.out.below hV) hR14 ((HT.out.below htl HB2.out).below (Nat.lt_of_lt_of_le htl HB2.out.size) hV) hV.size
  have HRA : Hid (∀ V, Below w2.heap.size w2 V → Calls Tryd.prog 20 #[.slice A m c] V fun e w' => ∃ A' c', e = .returned (.slice A' (DP.races R).length c') ∧ OwnP w' V.heap.size (.slice A' (DP.races R).length c') (DP.races R) ∧ Below V.heap.size V w') := fun V hV => race_any (HR2.out.keep hV) hm ((HT.out.below htl HB2.out).below (Nat.lt_of_lt_of_le htl HB2.out.size) hV)
  have HLV : Hid (∀ V, Below w2.heap.size w2 V → Calls Tryd.prog 15 #[] V fun e w' => e = .returned (.bool true) ∧ Below V.heap.size V w') := fun V hV => lives_any V ((HT.out.below htl HB2.out).below (Nat.lt_of_lt_of_le htl HB2.out.size) hV)
  have hcl : (PO.covs (DP.ordD R)).length ≤ 196 := covs_len_le hR14
  have hrl : (DP.races R).length ≤ 196 := by
    rw [← DP.covs_filter R hR14]
    exact Nat.le_trans (List.length_filter_le _ _) hcl
  have HSUB : Hid (∀ r ∈ iP (DP.races R), r ∈ iP (PO.covs (DP.ordD R))) := fun r hr => by
    unfold iP at hr ⊢
    obtain ⟨q, hq, rfl⟩ := List.mem_map.1 hr
    rw [← DP.covs_filter R hR14] at hq
    exact List.mem_map.2 ⟨q, (List.mem_filter.1 hq).1, rfl⟩
  have HR14 := Lib.hid hR14
  obtain ⟨E, hE⟩ : ∃ E, DP.races R = E := ⟨_, rfl⟩
  obtain ⟨D, hD⟩ : ∃ D, PO.covs (DP.ordD R) = D := ⟨_, rfl⟩
  rw [hE] at HRA HSUB hrl
  rw [hD] at HCV HSUB hcl
  clear HO2 HR1 HB1 HT hR14 hE hD
  go_loopw [5] (fun i V => ∃ k : Nat, i = .int .i64 (k : Int) ∧ k ≤ m ∧ Hid (Below w2.heap.size w2 V)) (fun i _ => m - (intOf i).toNat)
  case atStart => exact ⟨0, rfl, Nat.zero_le _, Below.refl _ _⟩
  case round =>
    obtain ⟨i, rfl, him, hbl⟩ := hrel
    obtain ⟨wo, hwo⟩ : ∃ W, W = wr := ⟨_, rfl⟩
    subst hwo
    by_cases hi : i + 1 < m
    · obtain ⟨sa, hsa⟩ : ∃ s, R[i]? = some s := ⟨_, List.getElem?_eq_getElem (by rw [HLEN.out]; omega)⟩
      obtain ⟨sb, hsb⟩ : ∃ s, R[i + 1]? = some s := ⟨_, List.getElem?_eq_getElem (by rw [HLEN.out]; omega)⟩
      have hsw := swap_any (HR2.out.keep hbl.out) hm hi hsa hsb
      have hhb := hb_next HR14.out (i := i) (by rw [HLEN.out]; exact hi)
      rw [DP.depAt_eq hsa hsb] at hhb
      have HL1 : Hid (∀ V, Below wo.heap.size wo V → Calls Tryd.prog 13 #[.pointer (some ⟨p, 0, none⟩), .int .i64 (i : Int), .int .i64 ((i : Int) + 1)] V fun e w' => e = .returned (.bool (DP.dep sa sb)) ∧ V = w') := fun V hV => by
        have h := HLE.out V i (i + 1) (hbl.out.trans (hV.mono hbl.out.size))
        rw [hhb] at h
        exact h
      obtain ⟨y, hy⟩ : ∃ y, DP.dep sa sb = y := ⟨_, rfl⟩
      rw [hy] at HL1 hsw
      clear hsa hsb hhb hy
      have hi2 : (i : Int) + 1 < (m : Int) := by omega
      cases y
      · have HSW : Hid (Calls Tryd.prog 17 #[.slice A m c, .int .i64 (i : Int)] wo fun e w' => (∃ v, e = .returned (.tuple #[v, .int .i64 0])) ∧ Below wo.heap.size wo w') := hsw.mono fun e w' ⟨hb, h⟩ => by
          rcases h with ⟨h, _⟩ | ⟨_, g, c', R1, ta, tb, rfl, _⟩
          · cases h
          · exact ⟨⟨_, rfl⟩, hb⟩
        clear hsw
        go_wp2_with (first
          | (go_at_call 17
             refine HSW.out.mono ?_
             clear HSW
             rintro e w5 ⟨⟨v, rfl⟩, hb5⟩
             have HB5 := Lib.hid hb5
             have HL5 := Lib.hid (HL1.out w5 hb5)
             clear hb5)
          | (go_at_call 13
             refine HL5.out.mono ?_
             rintro e w' ⟨rfl, rfl⟩))
        go_roundw
        case rel => exact ⟨i + 1, by go_num, by omega, hbl.out.trans (HB5.out.mono hbl.out.size)⟩
        case measure => simp [intOf]; omega
      · have HSW : Hid (Calls Tryd.prog 17 #[.slice A m c, .int .i64 (i : Int)] wo fun e w' => e = .returned (.tuple #[.slice none 0 0, .int .i64 5]) ∧ Below wo.heap.size wo w') := hsw.mono fun e w' ⟨hb, h⟩ => by
          rcases h with ⟨_, h⟩ | ⟨h, _⟩
          · exact ⟨h, hb⟩
          · cases h
        clear hsw
        go_wp2_with (first
          | (go_at_call 17
             refine HSW.out.mono ?_
             clear HSW
             rintro e w5 ⟨rfl, hb5⟩
             have HB5 := Lib.hid hb5
             have HL5 := Lib.hid (HL1.out w5 hb5)
             clear hb5)
          | (go_at_call 13
             refine HL5.out.mono ?_
             rintro e w' ⟨rfl, rfl⟩))
        go_roundw
        case rel => exact ⟨i + 1, by go_num, by omega, hbl.out.trans (HB5.out.mono hbl.out.size)⟩
        case measure => simp [intOf]; omega
    · have hi2 : ¬ ((i : Int) + 1 < (m : Int)) := by omega
      have HC1 := Lib.hid (HCV.out wo hbl.out)
      go_wp2_with (first
        | (go_at_call 26
           refine HC1.out.mono ?_
           clear HC1
           rintro e w5 ⟨v, rfl, ho5, hb5⟩
           obtain ⟨A5, c5, rfl⟩ := ownP_form ho5
           have HX5 := Lib.hid (edg_of_own ho5)
           have HB5 := Lib.hid (hbl.out.trans (hb5.mono hbl.out.size))
           have HR5 := Lib.hid (HRA.out w5 (hbl.out.trans (hb5.mono hbl.out.size)))
           clear ho5 hb5)
        | (go_at_call 20
           refine HR5.out.mono ?_
           clear HR5
           rintro e w6 ⟨A6, c6, rfl, ho6, hb6⟩
           have HX6 := Lib.hid (edg_of_own ho6)
           have HY5 := Lib.hid (HX5.out.below hb6)
           have HB6 := Lib.hid (HB5.out.trans (hb6.mono HB5.out.size))
           have HZ6 := Lib.hid hb6.size
           clear ho6 hb6))
      go_loopw [10] (fun k V => ∃ q : Nat, k = .int .i64 (q : Int) ∧ q ≤ E.length ∧ Hid (Below w6.heap.size w6 V)) (fun k _ => E.length - (intOf k).toNat)
      case atStart => exact ⟨0, rfl, Nat.zero_le _, Below.refl _ _⟩
      case round =>
        obtain ⟨k, rfl, hkm, hbk⟩ := hrel
        obtain ⟨wp, hwp⟩ : ∃ W, W = wr := ⟨_, rfl⟩
        subst hwp
        by_cases hk : k < E.length
        · obtain ⟨b2, o2, ya, yb, h2, l2, p2, _, _⟩ := HX6.out.at_ hk
          subst h2
          have HP2 := Lib.hid p2
          have hmem := HSUB.out _ (List.mem_of_getElem? p2)
          have HALL : Hid ((iP D).any (fun x => x == (ya, yb)) = true) := List.any_eq_true.2 ⟨_, hmem, by simp⟩
          clear p2 l2 hmem
          go_wp2_with fail
          go_loopw [11, 12] (fun d j V => ∃ q : Nat, d = .bool (((iP D).take q).any fun x => x == (ya, yb)) ∧ j = .int .i64 (q : Int) ∧ q ≤ D.length ∧ Hid (Below w6.heap.size w6 V)) (fun _ j _ => D.length - (intOf j).toNat)
          case atStart => exact ⟨0, rfl, rfl, Nat.zero_le _, hbk.out⟩
          case round =>
            obtain ⟨j, rfl, rfl, hjm, hbj⟩ := hrel
            obtain ⟨wq, hwq⟩ : ∃ W, W = wr := ⟨_, rfl⟩
            subst hwq
            by_cases hj : j < D.length
            · obtain ⟨b1, o1, xa, xb, h1, l1, p1, _, _⟩ := HY5.out.at_ hj
              subst h1
              have hnx := any_take (r := (ya, yb)) p1
              obtain ⟨d, hd⟩ : ∃ d, ((iP D).take j).any (fun x => x == (ya, yb)) = d := ⟨_, rfl⟩
              obtain ⟨z, hz⟩ : ∃ z, (xa == ya && xb == yb) = z := ⟨_, rfl⟩
              have hz2 : (((xa, xb) : Int × Int) == (ya, yb)) = z := hz
              rw [hd, hz2] at hnx
              rw [hd]
              have HNX := Lib.hid hnx
              have HZ := Lib.hid hz
              have HC : Hid (∀ V, Below wq.heap.size wq V → (V.cell? ⟨b1, o1 + j * 2, none⟩ = some (.int .i64 xa) ∧ V.cell? ⟨b1, o1 + j * 2 + 1, none⟩ = some (.int .i64 xb)) ∧ (V.cell? ⟨b2, o2 + k * 2, none⟩ = some (.int .i64 ya) ∧ V.cell? ⟨b2, o2 + k * 2 + 1, none⟩ = some (.int .i64 yb))) := fun V hV => by
                have hv : Below w6.heap.size w6 V := hbj.out.trans (hV.mono hbj.out.size)
                obtain ⟨x1, x2, x3, x4, y1, _, y3, y4, y5⟩ := (HY5.out.below (hv.mono HZ6.out)).at_ hj
                obtain ⟨z1, z2, z3, z4, v1, _, v3, v4, v5⟩ := (HX6.out.below hv).at_ hk
                injection y1 with y1
                injection y1 with y1 y2
                subst y1 y2
                injection v1 with v1
                injection v1 with v1 v2
                subst v1 v2
                rw [p1] at y3
                rw [HP2.out] at v3
                injection y3 with y3
                injection y3 with r1 r2
                injection v3 with v3
                injection v3 with r3 r4
                subst r1 r2 r3 r4
                exact ⟨⟨y4, y5⟩, v4, v5⟩
              clear p1 l1 hnx hd hz hz2
              cases d
              · obtain ⟨⟨c0, c1⟩, c2, c3⟩ := HC.out wq (Below.refl _ _)
                have heq : ∀ W : World, (binOp .eql 42 (.agg #[.int .i64 xa, .int .i64 xb]) (.agg #[.int .i64 ya, .int .i64 yb])).run Tryd.prog W = .ok (.bool z) W := fun W => by rw [eqP_any, HZ.out]
                clear HC HZ
                go_wp2_with (first
                  | go_quiet (fail))
                go_roundw
                case rel => exact ⟨j + 1, by rw [HNX.out]; simp, by go_num, by omega, hbj.out.trans ((drewN_below wq _).mono hbj.out.size)⟩
                case measure => simp [intOf]; omega
              · obtain ⟨⟨c0, c1⟩, c2, c3⟩ := HC.out wq (Below.refl _ _)
                have heq : ∀ W : World, (binOp .eql 42 (.agg #[.int .i64 xa, .int .i64 xb]) (.agg #[.int .i64 ya, .int .i64 yb])).run Tryd.prog W = .ok (.bool z) W := fun W => by rw [eqP_any, HZ.out]
                clear HC HZ
                go_wp2_with (first
                  | go_quiet (fail))
                go_roundw
                case rel => exact ⟨j + 1, by rw [HNX.out]; simp, by go_num, by omega, hbj.out.trans ((drewN_below wq _).mono hbj.out.size)⟩
                case measure => simp [intOf]; omega
            · obtain rfl : j = D.length := by omega
              have hal : ((iP D).take D.length).any (fun x => x == (ya, yb)) = true := by
                rw [List.take_of_length_le (by rw [iP_len]; exact Nat.le_refl _)]
                exact HALL.out
              rw [hal]
              clear hal
              go_wp2_with fail
              go_roundw
              case rel => exact ⟨k + 1, by go_num, by omega, hbj.out⟩
              case measure => simp [intOf]; omega
        · obtain rfl : k = E.length := by omega
          have HL := Lib.hid (HLV.out wp (HB6.out.trans (hbk.out.mono HB6.out.size)))
          go_wp2_with (first
            | (go_at_call 15
               refine HL.out.mono ?_
               rintro e w9 ⟨rfl, hb9⟩))
          go_ret
          have h1 := HB6.out.trans (hbk.out.mono HB6.out.size)
          exact ⟨rfl, HB2.out.trans ((h1.trans (hb9.mono h1.size)).mono HB2.out.size)⟩
end Go.Proofs.YtlomhoohmcnniaaDoor.LawDependCovers

namespace Go.Proofs.YtlomhoohmcnniaaDoor.dependCovers
open Go.ChangeShapes Go.WideShapes Go.ChangeAt Go.RowKit
open Go.ChangeMaps (open_string shut_string)
set_option linter.unusedVariables false

theorem own : ownKnob Tryd.prog.godebug = none := by kernel_rfl
theorem laidOut : laidOutB Tryd.prog = true := by kernel_rfl

/-- WHAT THE WALK IS TOLD OF A SLICE OF INTEGERS THAT CAME IN: it is nil; or it leads to a row of 'cap' cells, the numbers 'zs' (the first 'len' are its elements, the rest its spare room), each fitting its kind. -/
def IsRow (k : IntKind) (w : World) (a : Option Addr) (len cap : Nat) (zs : List Int) : Prop :=
  (a = none ∧ len = 0 ∧ cap = 0 ∧ zs = []) ∨
  ∃ x, a = some x ∧ len ≤ cap ∧ cap ≤ maxLen ∧ zs.length = cap ∧ (∀ i, i < zs.length → w.cell? (x.add i) = some (.int k (zs.getD i 0))) ∧ ∀ n ∈ zs, (Lit.int k n).wf = true

/-! ### STEP 1: THE WALK: the Go text returns true, AND WRITES NOTHING THAT WAS THERE: 'Below w.heap.size w w'' (Derived/Below.lean: '.refl', '.alloc', '.drew', '.setCell' at a new block, '.trans'). Open each 'IsRow' by 'rcases' AHEAD of 'go_enter'; part every test ahead of the walk. -/
theorem walk (a0 : Option Addr) (len0 cap0 : Nat) (z0 : List Int) (w : World) (w0 : IsRow .i64 w a0 len0 cap0 z0) (hT : Tab w) :
    Calls Tryd.prog 8 #[.slice a0 len0 cap0] w fun e w' => e = .returned (.bool true) ∧ Below w.heap.size w w' := by
  exact LawDependCovers.walk a0 len0 cap0 z0 w w0 hT

/-! ### THE ROW's STEP: WRITTEN OUT: LEAVE IT -/
set_option maxRecDepth 100000 in
theorem lifted (os : Os) (started : os.Started) (H : Type) (enc : TypeId × Value → H) :
    ReturnsInHanded {} Tryd.checked os 8 .any (fun w args => (Rows.dependCoversSpec.pre enc Tryd.prog Tryd.f8 [] false w args ∧ laidMetH Tryd.prog laidT w) ∧ sizedMet enc Tryd.prog Tryd.f8 (OpenSpec.ofChange Rows.dependCoversSpec) false w args)
      (Rows.dependCoversSpec.post enc Tryd.prog Tryd.f8 false true false false) := by
  refine returnsInHanded_of_change_and (C := Tryd.checked) (X := fun w _ => laidMetH Tryd.prog laidT w) (fun _ _ _ hh h => h.of_heap hh) own started (by kernel_rfl) Tryd.func8
    (ChangeSpec.witness_shaped (enc := enc) (C := Tryd.checked) (os := os) (X := fun w _ => laidMetH Tryd.prog laidT w) false (World.doorLaid Tryd.prog 14 os) #[.slice none 0 0] 8 rfl (World.shaped_of_RefB (by kernel_rfl) (by kernel_rfl)) (by kernel_rfl) (by kernel_rfl) (by kernel_rfl) (door_met os _)) ?_
  intro W base args ds gs before hval0 hW _ _ hL _
  have hval : ∀ (j : Nat) t v, Tryd.f8.params[j]? = some t → args[j]? = some v → Value.okWide Tryd.prog W .any base t v := hval0
  have hW' := hW
  obtain ⟨p, q, hA0, hV, rfl, hfz, hnd⟩ := hW
  have hA : DataW.TrodAll enc Tryd.prog W 0 (fun _ => true) true Tryd.f8.params.toList args.toList ds p := hA0
  rw [Tryd.params8] at hA hval
  obtain ⟨v0, vs0, d0, ds0, p0, q0, hargs, rfl, rfl, h0, r0⟩ := trodAll_cons hA
  obtain ⟨rfl, rfl, rfl⟩ := trodAll_nil r0
  obtain rfl : args = #[v0] := by cases args; simp_all
  obtain ⟨rfl, rfl⟩ := trodVars_none hV
  obtain ⟨a0, len0, cap0, rfl⟩ := okWide_slice Tryd.underlying22 (hval 0 22 v0 rfl rfl)
  have k0 := h0
  have lt0 : ∀ x ∈ p0, x.block < W.heap.size := by obtain ⟨m, hm⟩ := k0; exact DataW.trod_lt m _ _ _ hm
  obtain ⟨z0, w0⟩ : ∃ zs, IsRow .i64 W a0 len0 cap0 zs := by
    obtain ⟨fuel, hf⟩ := h0
    rcases open_ints Tryd.underlying22 Tryd.underlying3 (by kernel_rfl) hf with ⟨hcs, _⟩ | ⟨x, l, c, zs, hcs, _, hl, hm, hz, _, hcell, hwz⟩
    · simp [Value.cells] at hcs
      obtain ⟨rfl, rfl, rfl⟩ := hcs
      exact ⟨[], .inl ⟨rfl, rfl, rfl, rfl⟩⟩
    · simp [Value.cells] at hcs
      obtain ⟨rfl, rfl, rfl⟩ := hcs
      exact ⟨zs, .inr ⟨_, rfl, hl, hm, by simpa using hz, hcell, hwz⟩⟩
  clear hA0 hval0
  refine (walk a0 len0 cap0 z0 W w0 (of_laid hL)).mono fun e W' ⟨he, bel⟩ => ?_
  subst he
  exact ⟨_, rfl, _, _, _, [], _, [], hW', trodAll_mk1 (shut_bool Tryd.underlying4 _), (trodAll_cons_mk (Below.trod laidOut (by kernel_rfl) (of_decide_eq_true (by kernel_rfl)) k0 bel lt0) trodAll_mk0), rfl, bel.frame _, fun h => by cases h⟩

theorem over : Rows.dependCoversRow.holds Tryd.pinned (OpenSpec.ofChange Rows.dependCoversSpec) :=
  OpenClaim.holds_of_wide 8 Tryd.f8 rfl rfl rfl rfl rfl rfl rfl ⟨rfl, rfl, rfl, rfl, rfl⟩ rfl rfl rfl rfl rfl (by kernel_rfl) Tryd.func8 (by kernel_rfl)
    (of_decide_eq_true (by kernel_rfl)) (by unfold Func.isWrapper; first | (rw [if_pos (by decide +kernel)]; kernel_rfl) | (rw [if_neg (by decide +kernel)]; exact ⟨rfl, rfl⟩))
    (fun os started H enc _ => lifted os started H enc)


/-! ### THE CARD -/
theorem cardHolds : Rows.DependCoversCardSaid :=
  Claim7.holds_tied_plain_at .later [] [.data] true (true, "90cb75cc7c10c14a10cefb939cee6070c87076b8098582c817745454562e8749") false
    over (fun _ h => by cases h) (by kernel_rfl) (fun _ h => by cases h) dependCovers_row_tie rfl ⟨rfl, rfl⟩ (by kernel_rfl) rfl
    (fun f fn hf hfn => by
      obtain rfl : f = 8 := Option.some.inj ((show Tryd.prog.funcNamed "simproof/simprooflaw16.DependCovers" = some 8 by kernel_rfl).symm.trans hf) |>.symm
      obtain rfl : fn = Tryd.f8 := (Option.some.inj (Tryd.func8.symm.trans hfn)).symm
      exact ⟨by kernel_rfl, fun j t ht => by
        rw [Tryd.params8] at ht
        have hm : t ∈ [22] := by simpa using Array.mem_of_getElem? ht
        have hall : ([22].all fun u => !Tryd.prog.wantsStandIn u) = true := by kernel_rfl
        exact (show Tryd.prog.wantsStandIn t = false by simpa using List.all_eq_true.1 hall t hm)⟩)
    (by kernel_rfl)
end Go.Proofs.YtlomhoohmcnniaaDoor.dependCovers
