/-
  The contract of the reference's Race. Condition: the run lies in memory, and has at most 14 steps.
-/
import Derived.Test.YtlomhoohmcnniaaDoorK27
import Derived.Test.YtlomhoohmcnniaaDoorK18
import Derived.Test.YtlomhoohmcnniaaDoorK26
import Derived.Deep.Cut

namespace Go.Proofs.YtlomhoohmcnniaaDoor
open Go Go.RowKit Go.Proofs
attribute [local go_sem] Oper.semAt_some

def rowR (R : List DP.St) (i k : Nat) : List (Nat × Nat) := ((List.range k).filter (DP.raceR R i)).map fun j => (i, j)
def toR (R : List DP.St) (i : Nat) : List (Nat × Nat) := (List.range i).flatMap fun a => rowR R a R.length
def dTo (R : List DP.St) (i k j : Nat) : Bool := (DP.depAt R i k && !DP.feedsAt R i k) && !((List.range j).any fun x => decide (i < x) && (DP.hb R i x && DP.hb R x k))
theorem toR_succ (R : List DP.St) (i : Nat) : toR R (i + 1) = toR R i ++ rowR R i R.length := by
  unfold toR
  rw [List.range_succ, List.flatMap_append]
  simp
theorem rowR_start (R : List DP.St) (i : Nat) : rowR R i (i + 1) = [] := by
  unfold rowR
  rw [List.filter_eq_nil_iff.2, List.map_nil]
  intro x hx
  have := List.mem_range.1 hx
  unfold DP.raceR
  rw [decide_eq_false (show ¬ i < x by omega)]
  simp
theorem rowR_succ (R : List DP.St) (i k : Nat) : rowR R i (k + 1) = rowR R i k ++ (if DP.raceR R i k then [(i, k)] else []) := by
  unfold rowR
  rw [List.range_succ, List.filter_append, List.map_append]
  congr 1
  cases hd : DP.raceR R i k with
  | true =>
    rw [if_pos rfl, List.filter_cons_of_pos hd]
    rfl
  | false =>
    rw [if_neg (by simp), List.filter_cons_of_neg (by simp [hd])]
    rfl
theorem rowR_len (R : List DP.St) (i k : Nat) : (rowR R i k).length ≤ k := by
  unfold rowR
  rw [List.length_map]
  have := List.length_filter_le (DP.raceR R i) (List.range k)
  rwa [List.length_range] at this
theorem toR_len (R : List DP.St) (i : Nat) : (toR R i).length ≤ i * R.length := by
  induction i with
  | zero => simp [toR]
  | succ i ih =>
    rw [toR_succ, List.length_append, Nat.succ_mul]
    have := rowR_len R i R.length
    omega
theorem toR_end {R : List DP.St} (hR : R.length ≤ 14) : toR R R.length = DP.races R := by
  unfold toR DP.races rowR
  congr 1
  funext i
  congr 1
  exact List.filter_congr fun k hk => DP.race_ref hR (List.mem_range.1 hk)
theorem dTo_start (R : List DP.St) (i k : Nat) : dTo R i k (i + 1) = (DP.depAt R i k && !DP.feedsAt R i k) := by
  unfold dTo
  rw [show ((List.range (i + 1)).any fun x => decide (i < x) && (DP.hb R i x && DP.hb R x k)) = false from List.any_eq_false.2 fun x hx => by
    have := List.mem_range.1 hx
    rw [decide_eq_false (show ¬ i < x by omega)]
    simp]
  simp
theorem dTo_succ (R : List DP.St) (i k j : Nat) (h : i < j) : dTo R i k (j + 1) = (dTo R i k j && !(DP.hb R i j && DP.hb R j k)) := by
  unfold dTo
  rw [List.range_succ, List.any_append]
  simp [h, Bool.and_assoc]
theorem dTo_end (R : List DP.St) (i k : Nat) (h : i < k) : DP.raceR R i k = dTo R i k k := by
  unfold DP.raceR dTo
  simp [h]
set_option maxRecDepth 100000 in
set_option maxHeartbeats 8000000 in
theorem refRace_any {w : World} {A : Option Addr} {m c : Nat} {R : List DP.St} (hR : Run w A m c R) (hm : m ≤ 14) :
    Calls Tryd.prog 21 #[.slice A m c] w fun e w' => ∃ A' c', e = .returned (.slice A' (DP.races R).length c') ∧ OwnP w' w.heap.size (.slice A' (DP.races R).length c') (DP.races R) ∧ Below w.heap.size w w' := by
  have hlen : R.length = m := hR.sl.len
  have hR14 : R.length ≤ 14 := by omega
  have HRL := Lib.hid (refLess_any hR hm)
  have HR := Lib.hid hR
  have HEND := Lib.hid (toR_end hR14)
  have HLEN := Lib.hid hlen
  obtain ⟨i0, hi0, hz0, hzz1, hz2⟩ := info_parts info_pr
  clear hR hlen hR14
  go_enter Tryd.func21, Tryd.ntmps21
  go_wp2_with (first
    | (go_at_call 12
       refine HRL.out.mono ?_
       clear HRL
       rintro e w2 ⟨gm, gs, rfl, hml2, hb2⟩
       have HML := Lib.hid hml2
       have HB2 := Lib.hid hb2
       clear hml2 hb2))
  go_loopw [4, 5] (fun o i V => ∃ k : Nat, i = .int .i64 (k : Int) ∧ k ≤ m ∧ (∃ B r, o = .slice B (toR R k).length r) ∧ Hid (OwnP V w2.heap.size o (toR R k)) ∧ Hid (Below w2.heap.size w2 V)) (fun _ i _ => m - (intOf i).toNat)
  case atStart => exact ⟨0, rfl, Nat.zero_le _, ⟨none, 0, rfl⟩, World.ownsRow_nil _ _ _ _, Below.refl _ _⟩
  case round =>
    obtain ⟨i, rfl, him, ⟨B, r, rfl⟩, ho, hbl⟩ := hrel
    obtain ⟨wo, hwo⟩ : ∃ W, W = wr := ⟨_, rfl⟩
    subst hwo
    by_cases hi : i < m
    · obtain ⟨sx, hsx⟩ : ∃ s, R[i]? = some s := ⟨_, List.getElem?_eq_getElem (by rw [HLEN.out]; exact hi)⟩
      have HSX := Lib.hid hsx
      have hrs : rowR R i (i + 1) = [] := rowR_start R i
      have HO0 : Hid (OwnP wo w2.heap.size (.slice B (toR R i ++ rowR R i (i + 1)).length r) (toR R i ++ rowR R i (i + 1))) := by
        rw [hrs, List.append_nil]
        exact ho.out
      have HSL : Hid ((toR R i).length = (toR R i ++ rowR R i (i + 1)).length) := by rw [hrs, List.append_nil]; rfl
      clear hsx hrs ho
      go_wp2_with fail
      rw [HSL.out]
      go_loopw [4, 6] (fun o k V => ∃ q : Nat, k = .int .i64 (q : Int) ∧ i + 1 ≤ q ∧ q ≤ m ∧ (∃ B r, o = .slice B (toR R i ++ rowR R i q).length r) ∧ Hid (OwnP V w2.heap.size o (toR R i ++ rowR R i q)) ∧ Hid (Below w2.heap.size w2 V)) (fun _ k _ => m - (intOf k).toNat)
      case atStart => exact ⟨i + 1, by go_num, Nat.le_refl _, by omega, ⟨B, r, rfl⟩, HO0.out, hbl.out⟩
      case round =>
        obtain ⟨k, rfl, hik, hkm, ⟨B1, r1, rfl⟩, ho1, hbl1⟩ := hrel
        obtain ⟨wp, hwp⟩ : ∃ W, W = wr := ⟨_, rfl⟩
        subst hwp
        clear HO0 HSL hbl
        by_cases hk : k < m
        · obtain ⟨sk, hsk⟩ : ∃ s, R[k]? = some s := ⟨_, List.getElem?_eq_getElem (by rw [HLEN.out]; exact hk)⟩
          have hRV := (HR.out.keep HB2.out).keep hbl1.out
          obtain ⟨g, hg, hgl, hda, hia⟩ := hRV.at_ HSX.out
          obtain ⟨g', hg', _, hdb, hib⟩ := hRV.at_ hsk
          rw [hg] at hg'
          injection hg' with hg'
          injection hg' with hg'
          subst hg'
          subst hg
          have HF : Hid (∀ V, Below wp.heap.size wp V → Calls Tryd.prog 29 #[stV sx, stV sk] V fun e w' => e = .returned (.bool (DP.dep sx sk)) ∧ Below V.heap.size V w') := fun V hV => refDep_any sx sk V (hia.keep hV) (hib.keep hV)
          have HG : Hid (∀ V, Below wp.heap.size wp V → Calls Tryd.prog 35 #[stV sx, stV sk] V fun e w' => e = .returned (.bool (DP.feeds sx sk)) ∧ Below V.heap.size V w') := fun V hV => refFeeds_any sx sk V (hia.keep hV).ms hia.ml
          obtain ⟨y1, hy1⟩ : ∃ y, DP.dep sx sk = y := ⟨_, rfl⟩
          obtain ⟨y2, hy2⟩ : ∃ y, DP.feeds sx sk = y := ⟨_, rfl⟩
          rw [hy1] at HF
          rw [hy2] at HG
          have HD0 := Lib.hid (show dTo R i k (i + 1) = (y1 && !y2) by rw [dTo_start, DP.depAt_eq HSX.out hsk, DP.feedsAt_eq HSX.out hsk, hy1, hy2])
          have HDA := Lib.hid hda
          have HDB := Lib.hid hdb
          have HL : (toR R i ++ rowR R i k).length ≤ 210 := by
            have h1 := toR_len R i
            have h2 := rowR_len R i k
            have h3 : i * R.length ≤ 14 * 14 := Nat.mul_le_mul (by omega) (by rw [HLEN.out]; exact hm)
            rw [List.length_append]
            omega
          clear hRV hda hdb hia hib hsk hy1 hy2
          go_upto_region 9 with (fail)
          refine RgX.region 22 (fun i => (if i = 21 then 7 else 25 + i)) (fun ix_ => match ix_ with | 0 => .v (.slice (some ⟨g, 0, none⟩) m c) | 1 => .v (.int .i64 (i : Int)) | 2 => .v (.pointer (some ⟨g, i * 11, none⟩)) | 3 => .v (.agg #[.int .i64 sx.ev.k, .int .i64 sx.ev.n, .int .i64 sx.ev.a, .int .i64 sx.ev.m.c, .int .i64 sx.ev.m.h, .int .i64 sx.ev.m.t, .int .i64 sx.ev.m.i, .int .i64 sx.ev.m.p, .slice sx.qB sx.qs.length sx.qc, .bool sx.ob, .slice sx.sB sx.ms.length sx.sc]) | 4 => .v (.slice (some ⟨g, 0, none⟩) m c) | 5 => .v (.int .i64 (k : Int)) | 6 => .v (.pointer (some ⟨g, k * 11, none⟩)) | 7 => .v (.agg #[.int .i64 sk.ev.k, .int .i64 sk.ev.n, .int .i64 sk.ev.a, .int .i64 sk.ev.m.c, .int .i64 sk.ev.m.h, .int .i64 sk.ev.m.t, .int .i64 sk.ev.m.i, .int .i64 sk.ev.m.p, .slice sk.qB sk.qs.length sk.qc, .bool sk.ob, .slice sk.sB sk.ms.length sk.sc]) | 8 => .v (.bool y1) | 9 => .v (.bool y1) | 10 => (bif y1 then (.v (.slice (some ⟨g, 0, none⟩) m c) : RgX.Sp) else .v undef) | 11 => (bif y1 then (.v (.int .i64 (i : Int)) : RgX.Sp) else .v undef) | 12 => (bif y1 then (.v (.pointer (some ⟨g, i * 11, none⟩)) : RgX.Sp) else .v undef) | 13 => (bif y1 then (.v (.agg #[.int .i64 sx.ev.k, .int .i64 sx.ev.n, .int .i64 sx.ev.a, .int .i64 sx.ev.m.c, .int .i64 sx.ev.m.h, .int .i64 sx.ev.m.t, .int .i64 sx.ev.m.i, .int .i64 sx.ev.m.p, .slice sx.qB sx.qs.length sx.qc, .bool sx.ob, .slice sx.sB sx.ms.length sx.sc]) : RgX.Sp) else .v undef) | 14 => (bif y1 then (.v (.slice (some ⟨g, 0, none⟩) m c) : RgX.Sp) else .v undef) | 15 => (bif y1 then (.v (.int .i64 (k : Int)) : RgX.Sp) else .v undef) | 16 => (bif y1 then (.v (.pointer (some ⟨g, k * 11, none⟩)) : RgX.Sp) else .v undef) | 17 => (bif y1 then (.v (.agg #[.int .i64 sk.ev.k, .int .i64 sk.ev.n, .int .i64 sk.ev.a, .int .i64 sk.ev.m.c, .int .i64 sk.ev.m.h, .int .i64 sk.ev.m.t, .int .i64 sk.ev.m.i, .int .i64 sk.ev.m.p, .slice sk.qB sk.qs.length sk.qc, .bool sk.ob, .slice sk.sB sk.ms.length sk.sc]) : RgX.Sp) else .v undef) | 18 => (bif y1 then (.v (.bool y2) : RgX.Sp) else .v undef) | 19 => (bif y1 then (.v (.bool (!y2)) : RgX.Sp) else .v undef) | 20 => .v (.bool (y1 && (!y2))) | 21 => .v (.bool (y1 && (!y2))) | _ => .any) (by kernel_rfl) rfl (by kernel_rfl)  (fun i hi => by show (if i = 21 then 7 else 25 + i) < 81; (repeat' split) <;> omega) (fun i j hi hj => by show (if i = 21 then 7 else 25 + i) = (if j = 21 then 7 else 25 + j) → i = j; (repeat' split) <;> omega) ?step ?fin
          case step =>
            intro L_ A_ w3 ix op_ hI ho hdep
            have hi : ix < 22 := (Array.getElem?_eq_some_iff.1 ho).1
            have hcase : ix = 0 ∨ ix = 1 ∨ ix = 2 ∨ ix = 3 ∨ ix = 4 ∨ ix = 5 ∨ ix = 6 ∨ ix = 7 ∨ ix = 8 ∨ ix = 9 ∨ ix = 10 ∨ ix = 11 ∨ ix = 12 ∨ ix = 13 ∨ ix = 14 ∨ ix = 15 ∨ ix = 16 ∨ ix = 17 ∨ ix = 18 ∨ ix = 19 ∨ ix = 20 ∨ ix = 21 := by omega
            have hh := hI.held
            clear hi
            rcases hcase with rfl | rfl | rfl | rfl | rfl | rfl | rfl | rfl | rfl | rfl | rfl | rfl | rfl | rfl | rfl | rfl | rfl | rfl | rfl | rfl | rfl | rfl
            · simp only [List.getElem?_toArray, List.getElem?_cons_zero, Option.some.injEq] at ho
              subst ho
              refine ⟨rfl, ?_⟩
              have e0 : A_.tmps[0]?.getD undef = .slice (some ⟨g, 0, none⟩) m c := by rw [hI.low 0 (by decide)]; rfl
              clear hI hdep
              exact .run rfl (.slice (some ⟨g, 0, none⟩) m c) w3 (by simp [execOp, go_sem, Act.eval, e0]) (Below.refl _ _) rfl
            · simp only [List.getElem?_toArray, List.getElem?_cons_succ, List.getElem?_cons_zero, Option.some.injEq] at ho
              subst ho
              refine ⟨rfl, ?_⟩
              have e5 : A_.tmps[5]?.getD undef = .int .i64 (i : Int) := by rw [hI.low 5 (by decide)]; rfl
              clear hI hdep
              exact .run rfl (.int .i64 (i : Int)) w3 (by simp [execOp, go_sem, Act.eval, e5]) (Below.refl _ _) rfl
            · simp only [List.getElem?_toArray, List.getElem?_cons_succ, List.getElem?_cons_zero, Option.some.injEq] at ho
              subst ho
              refine ⟨rfl, ?_⟩
              have e25 : A_.tmps[25]?.getD undef = .slice (some ⟨g, 0, none⟩) m c := getD_of (hI.val_ (i := 0) rfl rfl (by decide) (hdep ⟨0, .data⟩ (by simp) rfl))
              have e26 : A_.tmps[26]?.getD undef = .int .i64 (i : Int) := getD_of (hI.val_ (i := 1) rfl rfl (by decide) (hdep ⟨1, .data⟩ (by simp) rfl))
              clear hI hdep
              exact .run rfl (.pointer (some ⟨g, i * 11, none⟩)) w3 (by simp [execOp, go_sem, Act.eval, e25, e26]; omega) (Below.refl _ _) rfl
            · simp only [List.getElem?_toArray, List.getElem?_cons_succ, List.getElem?_cons_zero, Option.some.injEq] at ho
              subst ho
              refine ⟨rfl, ?_⟩
              have e27 : A_.tmps[27]?.getD undef = .pointer (some ⟨g, i * 11, none⟩) := getD_of (hI.val_ (i := 2) rfl rfl (by decide) (hdep ⟨2, .data⟩ (by simp) rfl))
              clear hI hdep
              obtain ⟨d0, d1, d2, d3, d4, d5, d6, d7, d8, d9, d10⟩ := HDA.out.keep hgl hh
              exact .run rfl (.agg #[.int .i64 sx.ev.k, .int .i64 sx.ev.n, .int .i64 sx.ev.a, .int .i64 sx.ev.m.c, .int .i64 sx.ev.m.h, .int .i64 sx.ev.m.t, .int .i64 sx.ev.m.i, .int .i64 sx.ev.m.p, .slice sx.qB sx.qs.length sx.qc, .bool sx.ob, .slice sx.sB sx.ms.length sx.sc]) w3 (by simp [execOp, go_sem, Act.eval, e27, d0, d1, d2, d3, d4, d5, d6, d7, d8, d9, d10]) (Below.refl _ _) rfl
            · simp only [List.getElem?_toArray, List.getElem?_cons_succ, List.getElem?_cons_zero, Option.some.injEq] at ho
              subst ho
              refine ⟨rfl, ?_⟩
              have e0 : A_.tmps[0]?.getD undef = .slice (some ⟨g, 0, none⟩) m c := by rw [hI.low 0 (by decide)]; rfl
              clear hI hdep
              exact .run rfl (.slice (some ⟨g, 0, none⟩) m c) w3 (by simp [execOp, go_sem, Act.eval, e0]) (Below.refl _ _) rfl
            · simp only [List.getElem?_toArray, List.getElem?_cons_succ, List.getElem?_cons_zero, Option.some.injEq] at ho
              subst ho
              refine ⟨rfl, ?_⟩
              have e6 : A_.tmps[6]?.getD undef = .int .i64 (k : Int) := by rw [hI.low 6 (by decide)]; rfl
              clear hI hdep
              exact .run rfl (.int .i64 (k : Int)) w3 (by simp [execOp, go_sem, Act.eval, e6]) (Below.refl _ _) rfl
            · simp only [List.getElem?_toArray, List.getElem?_cons_succ, List.getElem?_cons_zero, Option.some.injEq] at ho
              subst ho
              refine ⟨rfl, ?_⟩
              have e29 : A_.tmps[29]?.getD undef = .slice (some ⟨g, 0, none⟩) m c := getD_of (hI.val_ (i := 4) rfl rfl (by decide) (hdep ⟨4, .data⟩ (by simp) rfl))
              have e30 : A_.tmps[30]?.getD undef = .int .i64 (k : Int) := getD_of (hI.val_ (i := 5) rfl rfl (by decide) (hdep ⟨5, .data⟩ (by simp) rfl))
              clear hI hdep
              exact .run rfl (.pointer (some ⟨g, k * 11, none⟩)) w3 (by simp [execOp, go_sem, Act.eval, e29, e30]; omega) (Below.refl _ _) rfl
            · simp only [List.getElem?_toArray, List.getElem?_cons_succ, List.getElem?_cons_zero, Option.some.injEq] at ho
              subst ho
              refine ⟨rfl, ?_⟩
              have e31 : A_.tmps[31]?.getD undef = .pointer (some ⟨g, k * 11, none⟩) := getD_of (hI.val_ (i := 6) rfl rfl (by decide) (hdep ⟨6, .data⟩ (by simp) rfl))
              clear hI hdep
              obtain ⟨d0, d1, d2, d3, d4, d5, d6, d7, d8, d9, d10⟩ := HDB.out.keep hgl hh
              exact .run rfl (.agg #[.int .i64 sk.ev.k, .int .i64 sk.ev.n, .int .i64 sk.ev.a, .int .i64 sk.ev.m.c, .int .i64 sk.ev.m.h, .int .i64 sk.ev.m.t, .int .i64 sk.ev.m.i, .int .i64 sk.ev.m.p, .slice sk.qB sk.qs.length sk.qc, .bool sk.ob, .slice sk.sB sk.ms.length sk.sc]) w3 (by simp [execOp, go_sem, Act.eval, e31, d0, d1, d2, d3, d4, d5, d6, d7, d8, d9, d10]) (Below.refl _ _) rfl
            · simp only [List.getElem?_toArray, List.getElem?_cons_succ, List.getElem?_cons_zero, Option.some.injEq] at ho
              subst ho
              refine ⟨rfl, ?_⟩
              have e28 : A_.tmps[28]?.getD undef = .agg #[.int .i64 sx.ev.k, .int .i64 sx.ev.n, .int .i64 sx.ev.a, .int .i64 sx.ev.m.c, .int .i64 sx.ev.m.h, .int .i64 sx.ev.m.t, .int .i64 sx.ev.m.i, .int .i64 sx.ev.m.p, .slice sx.qB sx.qs.length sx.qc, .bool sx.ob, .slice sx.sB sx.ms.length sx.sc] := getD_of (hI.val_ (i := 3) rfl rfl (by decide) (hdep ⟨3, .data⟩ (by simp) rfl))
              have e32 : A_.tmps[32]?.getD undef = .agg #[.int .i64 sk.ev.k, .int .i64 sk.ev.n, .int .i64 sk.ev.a, .int .i64 sk.ev.m.c, .int .i64 sk.ev.m.h, .int .i64 sk.ev.m.t, .int .i64 sk.ev.m.i, .int .i64 sk.ev.m.p, .slice sk.qB sk.qs.length sk.qc, .bool sk.ob, .slice sk.sB sk.ms.length sk.sc] := getD_of (hI.val_ (i := 7) rfl rfl (by decide) (hdep ⟨7, .data⟩ (by simp) rfl))
              clear hI hdep
              exact .call rfl 29 #[.agg #[.int .i64 sx.ev.k, .int .i64 sx.ev.n, .int .i64 sx.ev.a, .int .i64 sx.ev.m.c, .int .i64 sx.ev.m.h, .int .i64 sx.ev.m.t, .int .i64 sx.ev.m.i, .int .i64 sx.ev.m.p, .slice sx.qB sx.qs.length sx.qc, .bool sx.ob, .slice sx.sB sx.ms.length sx.sc], .agg #[.int .i64 sk.ev.k, .int .i64 sk.ev.n, .int .i64 sk.ev.a, .int .i64 sk.ev.m.c, .int .i64 sk.ev.m.h, .int .i64 sk.ev.m.t, .int .i64 sk.ev.m.i, .int .i64 sk.ev.m.p, .slice sk.qB sk.qs.length sk.qc, .bool sk.ob, .slice sk.sB sk.ms.length sk.sc]] (by simp [go_sem, Act.eval, e28, e32]) ((HF.out w3 hh).mono fun _ _ ⟨h1_, h2_⟩ => ⟨⟨_, h1_, rfl⟩, h2_⟩)
            · simp only [List.getElem?_toArray, List.getElem?_cons_succ, List.getElem?_cons_zero, Option.some.injEq] at ho
              subst ho
              refine ⟨rfl, ?_⟩
              have e33 : A_.tmps[33]?.getD undef = .bool y1 := getD_of (hI.val_ (i := 8) rfl rfl (by decide) (hdep ⟨8, .data⟩ (by simp) rfl))
              clear hI hdep
              exact .run rfl (.bool y1) w3 (by simp [execOp, go_sem, Act.eval, e33]) (Below.refl _ _) rfl
            · simp only [List.getElem?_toArray, List.getElem?_cons_succ, List.getElem?_cons_zero, Option.some.injEq] at ho
              subst ho
              refine ⟨rfl, ?_⟩
              cases y1
              · have q34 : A_.tmps[34]? = some (.bool false) := hI.val_ (i := 9) rfl rfl (by decide) (hdep ⟨9, .guard⟩ (by simp) rfl)
                exact .skip ((wanted_some rfl rfl q34).trans rfl) (fun _ => rfl)
              · have q34 : A_.tmps[34]? = some (.bool true) := hI.val_ (i := 9) rfl rfl (by decide) (hdep ⟨9, .guard⟩ (by simp) rfl)
                have e0 : A_.tmps[0]?.getD undef = .slice (some ⟨g, 0, none⟩) m c := by rw [hI.low 0 (by decide)]; rfl
                clear hI hdep
                exact .run ((wanted_some rfl rfl q34).trans rfl) (.slice (some ⟨g, 0, none⟩) m c) w3 (by simp [execOp, go_sem, Act.eval, e0]) (Below.refl _ _) rfl
            · simp only [List.getElem?_toArray, List.getElem?_cons_succ, List.getElem?_cons_zero, Option.some.injEq] at ho
              subst ho
              refine ⟨rfl, ?_⟩
              cases y1
              · have q34 : A_.tmps[34]? = some (.bool false) := hI.val_ (i := 9) rfl rfl (by decide) (hdep ⟨9, .guard⟩ (by simp) rfl)
                exact .skip ((wanted_some rfl rfl q34).trans rfl) (fun _ => rfl)
              · have q34 : A_.tmps[34]? = some (.bool true) := hI.val_ (i := 9) rfl rfl (by decide) (hdep ⟨9, .guard⟩ (by simp) rfl)
                have e5 : A_.tmps[5]?.getD undef = .int .i64 (i : Int) := by rw [hI.low 5 (by decide)]; rfl
                clear hI hdep
                exact .run ((wanted_some rfl rfl q34).trans rfl) (.int .i64 (i : Int)) w3 (by simp [execOp, go_sem, Act.eval, e5]) (Below.refl _ _) rfl
            · simp only [List.getElem?_toArray, List.getElem?_cons_succ, List.getElem?_cons_zero, Option.some.injEq] at ho
              subst ho
              refine ⟨rfl, ?_⟩
              cases y1
              · have q34 : A_.tmps[34]? = some (.bool false) := hI.val_ (i := 9) rfl rfl (by decide) (hdep ⟨9, .guard⟩ (by simp) rfl)
                exact .skip ((wanted_some rfl rfl q34).trans rfl) (fun _ => rfl)
              · have q34 : A_.tmps[34]? = some (.bool true) := hI.val_ (i := 9) rfl rfl (by decide) (hdep ⟨9, .guard⟩ (by simp) rfl)
                have e35 : A_.tmps[35]?.getD undef = .slice (some ⟨g, 0, none⟩) m c := getD_of (hI.val_ (i := 10) rfl rfl (by decide) (hdep ⟨10, .data⟩ (by simp) rfl))
                have e36 : A_.tmps[36]?.getD undef = .int .i64 (i : Int) := getD_of (hI.val_ (i := 11) rfl rfl (by decide) (hdep ⟨11, .data⟩ (by simp) rfl))
                clear hI hdep
                exact .run ((wanted_some rfl rfl q34).trans rfl) (.pointer (some ⟨g, i * 11, none⟩)) w3 (by simp [execOp, go_sem, Act.eval, e35, e36]; omega) (Below.refl _ _) rfl
            · simp only [List.getElem?_toArray, List.getElem?_cons_succ, List.getElem?_cons_zero, Option.some.injEq] at ho
              subst ho
              refine ⟨rfl, ?_⟩
              cases y1
              · have q34 : A_.tmps[34]? = some (.bool false) := hI.val_ (i := 9) rfl rfl (by decide) (hdep ⟨9, .guard⟩ (by simp) rfl)
                exact .skip ((wanted_some rfl rfl q34).trans rfl) (fun _ => rfl)
              · have q34 : A_.tmps[34]? = some (.bool true) := hI.val_ (i := 9) rfl rfl (by decide) (hdep ⟨9, .guard⟩ (by simp) rfl)
                have e37 : A_.tmps[37]?.getD undef = .pointer (some ⟨g, i * 11, none⟩) := getD_of (hI.val_ (i := 12) rfl rfl (by decide) (hdep ⟨12, .data⟩ (by simp) rfl))
                clear hI hdep
                obtain ⟨d0, d1, d2, d3, d4, d5, d6, d7, d8, d9, d10⟩ := HDA.out.keep hgl hh
                exact .run ((wanted_some rfl rfl q34).trans rfl) (.agg #[.int .i64 sx.ev.k, .int .i64 sx.ev.n, .int .i64 sx.ev.a, .int .i64 sx.ev.m.c, .int .i64 sx.ev.m.h, .int .i64 sx.ev.m.t, .int .i64 sx.ev.m.i, .int .i64 sx.ev.m.p, .slice sx.qB sx.qs.length sx.qc, .bool sx.ob, .slice sx.sB sx.ms.length sx.sc]) w3 (by simp [execOp, go_sem, Act.eval, e37, d0, d1, d2, d3, d4, d5, d6, d7, d8, d9, d10]) (Below.refl _ _) rfl
            · simp only [List.getElem?_toArray, List.getElem?_cons_succ, List.getElem?_cons_zero, Option.some.injEq] at ho
              subst ho
              refine ⟨rfl, ?_⟩
              cases y1
              · have q34 : A_.tmps[34]? = some (.bool false) := hI.val_ (i := 9) rfl rfl (by decide) (hdep ⟨9, .guard⟩ (by simp) rfl)
                exact .skip ((wanted_some rfl rfl q34).trans rfl) (fun _ => rfl)
              · have q34 : A_.tmps[34]? = some (.bool true) := hI.val_ (i := 9) rfl rfl (by decide) (hdep ⟨9, .guard⟩ (by simp) rfl)
                have e0 : A_.tmps[0]?.getD undef = .slice (some ⟨g, 0, none⟩) m c := by rw [hI.low 0 (by decide)]; rfl
                clear hI hdep
                exact .run ((wanted_some rfl rfl q34).trans rfl) (.slice (some ⟨g, 0, none⟩) m c) w3 (by simp [execOp, go_sem, Act.eval, e0]) (Below.refl _ _) rfl
            · simp only [List.getElem?_toArray, List.getElem?_cons_succ, List.getElem?_cons_zero, Option.some.injEq] at ho
              subst ho
              refine ⟨rfl, ?_⟩
              cases y1
              · have q34 : A_.tmps[34]? = some (.bool false) := hI.val_ (i := 9) rfl rfl (by decide) (hdep ⟨9, .guard⟩ (by simp) rfl)
                exact .skip ((wanted_some rfl rfl q34).trans rfl) (fun _ => rfl)
              · have q34 : A_.tmps[34]? = some (.bool true) := hI.val_ (i := 9) rfl rfl (by decide) (hdep ⟨9, .guard⟩ (by simp) rfl)
                have e6 : A_.tmps[6]?.getD undef = .int .i64 (k : Int) := by rw [hI.low 6 (by decide)]; rfl
                clear hI hdep
                exact .run ((wanted_some rfl rfl q34).trans rfl) (.int .i64 (k : Int)) w3 (by simp [execOp, go_sem, Act.eval, e6]) (Below.refl _ _) rfl
            · simp only [List.getElem?_toArray, List.getElem?_cons_succ, List.getElem?_cons_zero, Option.some.injEq] at ho
              subst ho
              refine ⟨rfl, ?_⟩
              cases y1
              · have q34 : A_.tmps[34]? = some (.bool false) := hI.val_ (i := 9) rfl rfl (by decide) (hdep ⟨9, .guard⟩ (by simp) rfl)
                exact .skip ((wanted_some rfl rfl q34).trans rfl) (fun _ => rfl)
              · have q34 : A_.tmps[34]? = some (.bool true) := hI.val_ (i := 9) rfl rfl (by decide) (hdep ⟨9, .guard⟩ (by simp) rfl)
                have e39 : A_.tmps[39]?.getD undef = .slice (some ⟨g, 0, none⟩) m c := getD_of (hI.val_ (i := 14) rfl rfl (by decide) (hdep ⟨14, .data⟩ (by simp) rfl))
                have e40 : A_.tmps[40]?.getD undef = .int .i64 (k : Int) := getD_of (hI.val_ (i := 15) rfl rfl (by decide) (hdep ⟨15, .data⟩ (by simp) rfl))
                clear hI hdep
                exact .run ((wanted_some rfl rfl q34).trans rfl) (.pointer (some ⟨g, k * 11, none⟩)) w3 (by simp [execOp, go_sem, Act.eval, e39, e40]; omega) (Below.refl _ _) rfl
            · simp only [List.getElem?_toArray, List.getElem?_cons_succ, List.getElem?_cons_zero, Option.some.injEq] at ho
              subst ho
              refine ⟨rfl, ?_⟩
              cases y1
              · have q34 : A_.tmps[34]? = some (.bool false) := hI.val_ (i := 9) rfl rfl (by decide) (hdep ⟨9, .guard⟩ (by simp) rfl)
                exact .skip ((wanted_some rfl rfl q34).trans rfl) (fun _ => rfl)
              · have q34 : A_.tmps[34]? = some (.bool true) := hI.val_ (i := 9) rfl rfl (by decide) (hdep ⟨9, .guard⟩ (by simp) rfl)
                have e41 : A_.tmps[41]?.getD undef = .pointer (some ⟨g, k * 11, none⟩) := getD_of (hI.val_ (i := 16) rfl rfl (by decide) (hdep ⟨16, .data⟩ (by simp) rfl))
                clear hI hdep
                obtain ⟨d0, d1, d2, d3, d4, d5, d6, d7, d8, d9, d10⟩ := HDB.out.keep hgl hh
                exact .run ((wanted_some rfl rfl q34).trans rfl) (.agg #[.int .i64 sk.ev.k, .int .i64 sk.ev.n, .int .i64 sk.ev.a, .int .i64 sk.ev.m.c, .int .i64 sk.ev.m.h, .int .i64 sk.ev.m.t, .int .i64 sk.ev.m.i, .int .i64 sk.ev.m.p, .slice sk.qB sk.qs.length sk.qc, .bool sk.ob, .slice sk.sB sk.ms.length sk.sc]) w3 (by simp [execOp, go_sem, Act.eval, e41, d0, d1, d2, d3, d4, d5, d6, d7, d8, d9, d10]) (Below.refl _ _) rfl
            · simp only [List.getElem?_toArray, List.getElem?_cons_succ, List.getElem?_cons_zero, Option.some.injEq] at ho
              subst ho
              refine ⟨rfl, ?_⟩
              cases y1
              · have q34 : A_.tmps[34]? = some (.bool false) := hI.val_ (i := 9) rfl rfl (by decide) (hdep ⟨9, .guard⟩ (by simp) rfl)
                exact .skip ((wanted_some rfl rfl q34).trans rfl) (fun _ => rfl)
              · have q34 : A_.tmps[34]? = some (.bool true) := hI.val_ (i := 9) rfl rfl (by decide) (hdep ⟨9, .guard⟩ (by simp) rfl)
                have e38 : A_.tmps[38]?.getD undef = .agg #[.int .i64 sx.ev.k, .int .i64 sx.ev.n, .int .i64 sx.ev.a, .int .i64 sx.ev.m.c, .int .i64 sx.ev.m.h, .int .i64 sx.ev.m.t, .int .i64 sx.ev.m.i, .int .i64 sx.ev.m.p, .slice sx.qB sx.qs.length sx.qc, .bool sx.ob, .slice sx.sB sx.ms.length sx.sc] := getD_of (hI.val_ (i := 13) rfl rfl (by decide) (hdep ⟨13, .data⟩ (by simp) rfl))
                have e42 : A_.tmps[42]?.getD undef = .agg #[.int .i64 sk.ev.k, .int .i64 sk.ev.n, .int .i64 sk.ev.a, .int .i64 sk.ev.m.c, .int .i64 sk.ev.m.h, .int .i64 sk.ev.m.t, .int .i64 sk.ev.m.i, .int .i64 sk.ev.m.p, .slice sk.qB sk.qs.length sk.qc, .bool sk.ob, .slice sk.sB sk.ms.length sk.sc] := getD_of (hI.val_ (i := 17) rfl rfl (by decide) (hdep ⟨17, .data⟩ (by simp) rfl))
                clear hI hdep
                exact .call ((wanted_some rfl rfl q34).trans rfl) 35 #[.agg #[.int .i64 sx.ev.k, .int .i64 sx.ev.n, .int .i64 sx.ev.a, .int .i64 sx.ev.m.c, .int .i64 sx.ev.m.h, .int .i64 sx.ev.m.t, .int .i64 sx.ev.m.i, .int .i64 sx.ev.m.p, .slice sx.qB sx.qs.length sx.qc, .bool sx.ob, .slice sx.sB sx.ms.length sx.sc], .agg #[.int .i64 sk.ev.k, .int .i64 sk.ev.n, .int .i64 sk.ev.a, .int .i64 sk.ev.m.c, .int .i64 sk.ev.m.h, .int .i64 sk.ev.m.t, .int .i64 sk.ev.m.i, .int .i64 sk.ev.m.p, .slice sk.qB sk.qs.length sk.qc, .bool sk.ob, .slice sk.sB sk.ms.length sk.sc]] (by simp [go_sem, Act.eval, e38, e42]) ((HG.out w3 hh).mono fun _ _ ⟨h1_, h2_⟩ => ⟨⟨_, h1_, rfl⟩, h2_⟩)
            · simp only [List.getElem?_toArray, List.getElem?_cons_succ, List.getElem?_cons_zero, Option.some.injEq] at ho
              subst ho
              refine ⟨rfl, ?_⟩
              cases y1
              · have q34 : A_.tmps[34]? = some (.bool false) := hI.val_ (i := 9) rfl rfl (by decide) (hdep ⟨9, .guard⟩ (by simp) rfl)
                exact .skip ((wanted_some rfl rfl q34).trans rfl) (fun _ => rfl)
              · have q34 : A_.tmps[34]? = some (.bool true) := hI.val_ (i := 9) rfl rfl (by decide) (hdep ⟨9, .guard⟩ (by simp) rfl)
                have e43 : A_.tmps[43]?.getD undef = .bool y2 := getD_of (hI.val_ (i := 18) rfl rfl (by decide) (hdep ⟨18, .data⟩ (by simp) rfl))
                clear hI hdep
                exact .run ((wanted_some rfl rfl q34).trans rfl) (.bool (!y2)) w3 (by simp [execOp, go_sem, Act.eval, e43]) (Below.refl _ _) rfl
            · simp only [List.getElem?_toArray, List.getElem?_cons_succ, List.getElem?_cons_zero, Option.some.injEq] at ho
              subst ho
              refine ⟨rfl, ?_⟩
              cases y1
              · have e34 : A_.tmps[34]?.getD undef = .bool false := getD_of (hI.val_ (i := 9) rfl rfl (by decide) (hdep ⟨9, .data⟩ (by simp) rfl))
                have e44 : A_.tmps[44]?.getD undef = undef := getD_of (hI.val_ (i := 19) rfl rfl (by decide) (hdep ⟨19, .data⟩ (by simp) rfl))
                clear hI hdep
                exact .run rfl (.bool false) w3 (by simp [execOp, go_sem, Act.eval, e34, e44]) (Below.refl _ _) rfl
              · have e34 : A_.tmps[34]?.getD undef = .bool true := getD_of (hI.val_ (i := 9) rfl rfl (by decide) (hdep ⟨9, .data⟩ (by simp) rfl))
                have e44 : A_.tmps[44]?.getD undef = .bool (!y2) := getD_of (hI.val_ (i := 19) rfl rfl (by decide) (hdep ⟨19, .data⟩ (by simp) rfl))
                clear hI hdep
                exact .run rfl (.bool (!y2)) w3 (by simp [execOp, go_sem, Act.eval, e34, e44]) (Below.refl _ _) rfl
            · simp only [List.getElem?_toArray, List.getElem?_cons_succ, List.getElem?_cons_zero, Option.some.injEq] at ho
              subst ho
              refine ⟨rfl, ?_⟩
              have e45 : A_.tmps[45]?.getD undef = .bool (y1 && (!y2)) := getD_of (hI.val_ (i := 20) rfl rfl (by decide) (hdep ⟨20, .data⟩ (by simp) rfl))
              clear hI hdep
              exact .run rfl (.bool (y1 && (!y2))) w3 (by simp [execOp, go_sem, Act.eval, e45]) (Below.refl _ _) rfl
          case fin =>
          intro A_ w3 hs hd hlow hS hok
          obtain ⟨y35, hy35, _⟩ := hok 10 35 _ (by decide) rfl rfl
          obtain ⟨y36, hy36, _⟩ := hok 11 36 _ (by decide) rfl rfl
          obtain ⟨y37, hy37, _⟩ := hok 12 37 _ (by decide) rfl rfl
          obtain ⟨y38, hy38, _⟩ := hok 13 38 _ (by decide) rfl rfl
          obtain ⟨y39, hy39, _⟩ := hok 14 39 _ (by decide) rfl rfl
          obtain ⟨y40, hy40, _⟩ := hok 15 40 _ (by decide) rfl rfl
          obtain ⟨y41, hy41, _⟩ := hok 16 41 _ (by decide) rfl rfl
          obtain ⟨y42, hy42, _⟩ := hok 17 42 _ (by decide) rfl rfl
          obtain ⟨y43, hy43, _⟩ := hok 18 43 _ (by decide) rfl rfl
          obtain ⟨y44, hy44, _⟩ := hok 19 44 _ (by decide) rfl rfl
          obtain rfl : A_ = ⟨#[.slice (some ⟨g, 0, none⟩) m c, undef, .slice none 0 0, .slice (some ⟨gm, 0, none⟩) m m, .slice B1 (toR R i ++ rowR R i k).length r1, .int .i64 (i : Int), .int .i64 (k : Int), .bool (y1 && (!y2)), u8, .slice (some ⟨g, 0, none⟩) m c, .slice (some ⟨gm, 0, none⟩) m m, .int .i64 (i : Int), .slice (some ⟨g, 0, none⟩) m c, .int .i64 (m : Int), .bool true, u15, u16, .int .i64 (i : Int), .int .i64 ((i : Int) + 1), .int .i64 (k : Int), .slice (some ⟨g, 0, none⟩) m c, .int .i64 (m : Int), .bool true, u23, u24, .slice (some ⟨g, 0, none⟩) m c, .int .i64 (i : Int), .pointer (some ⟨g, i * 11, none⟩), .agg #[.int .i64 sx.ev.k, .int .i64 sx.ev.n, .int .i64 sx.ev.a, .int .i64 sx.ev.m.c, .int .i64 sx.ev.m.h, .int .i64 sx.ev.m.t, .int .i64 sx.ev.m.i, .int .i64 sx.ev.m.p, .slice sx.qB sx.qs.length sx.qc, .bool sx.ob, .slice sx.sB sx.ms.length sx.sc], .slice (some ⟨g, 0, none⟩) m c, .int .i64 (k : Int), .pointer (some ⟨g, k * 11, none⟩), .agg #[.int .i64 sk.ev.k, .int .i64 sk.ev.n, .int .i64 sk.ev.a, .int .i64 sk.ev.m.c, .int .i64 sk.ev.m.h, .int .i64 sk.ev.m.t, .int .i64 sk.ev.m.i, .int .i64 sk.ev.m.p, .slice sk.qB sk.qs.length sk.qc, .bool sk.ob, .slice sk.sB sk.ms.length sk.sc], .bool y1, .bool y1, y35, y36, y37, y38, y39, y40, y41, y42, y43, y44, .bool (y1 && (!y2)), u46, u47, u48, u49, u50, u51, u52, u53, u54, u55, u56, u57, u58, u59, u60, u61, u62, u63, u64, u65, u66, u67, u68, u69, u70, u71, u72, u73, u74, u75, u76, u77, u78, u79, undef], []⟩ := act_ext hd hs (fun j hj => match j, hj with | 0, _ => (hlow 0 (by decide)).trans rfl | 1, _ => (hlow 1 (by decide)).trans rfl | 2, _ => (hlow 2 (by decide)).trans rfl | 3, _ => (hlow 3 (by decide)).trans rfl | 4, _ => (hlow 4 (by decide)).trans rfl | 5, _ => (hlow 5 (by decide)).trans rfl | 6, _ => (hlow 6 (by decide)).trans rfl | 7, _ => RgX.val_at (hok 21 7 _ (by decide) rfl rfl) | 8, _ => (hlow 8 (by decide)).trans rfl | 9, _ => (hlow 9 (by decide)).trans rfl | 10, _ => (hlow 10 (by decide)).trans rfl | 11, _ => (hlow 11 (by decide)).trans rfl | 12, _ => (hlow 12 (by decide)).trans rfl | 13, _ => (hlow 13 (by decide)).trans rfl | 14, _ => (hlow 14 (by decide)).trans rfl | 15, _ => (hlow 15 (by decide)).trans rfl | 16, _ => (hlow 16 (by decide)).trans rfl | 17, _ => (hlow 17 (by decide)).trans rfl | 18, _ => (hlow 18 (by decide)).trans rfl | 19, _ => (hlow 19 (by decide)).trans rfl | 20, _ => (hlow 20 (by decide)).trans rfl | 21, _ => (hlow 21 (by decide)).trans rfl | 22, _ => (hlow 22 (by decide)).trans rfl | 23, _ => (hlow 23 (by decide)).trans rfl | 24, _ => (hlow 24 (by decide)).trans rfl | 25, _ => RgX.val_at (hok 0 25 _ (by decide) rfl rfl) | 26, _ => RgX.val_at (hok 1 26 _ (by decide) rfl rfl) | 27, _ => RgX.val_at (hok 2 27 _ (by decide) rfl rfl) | 28, _ => RgX.val_at (hok 3 28 _ (by decide) rfl rfl) | 29, _ => RgX.val_at (hok 4 29 _ (by decide) rfl rfl) | 30, _ => RgX.val_at (hok 5 30 _ (by decide) rfl rfl) | 31, _ => RgX.val_at (hok 6 31 _ (by decide) rfl rfl) | 32, _ => RgX.val_at (hok 7 32 _ (by decide) rfl rfl) | 33, _ => RgX.val_at (hok 8 33 _ (by decide) rfl rfl) | 34, _ => RgX.val_at (hok 9 34 _ (by decide) rfl rfl) | 35, _ => hy35 | 36, _ => hy36 | 37, _ => hy37 | 38, _ => hy38 | 39, _ => hy39 | 40, _ => hy40 | 41, _ => hy41 | 42, _ => hy42 | 43, _ => hy43 | 44, _ => hy44 | 45, _ => RgX.val_at (hok 20 45 _ (by decide) rfl rfl) | 46, _ => (hlow 46 (by decide)).trans rfl | 47, _ => (hlow 47 (by decide)).trans rfl | 48, _ => (hlow 48 (by decide)).trans rfl | 49, _ => (hlow 49 (by decide)).trans rfl | 50, _ => (hlow 50 (by decide)).trans rfl | 51, _ => (hlow 51 (by decide)).trans rfl | 52, _ => (hlow 52 (by decide)).trans rfl | 53, _ => (hlow 53 (by decide)).trans rfl | 54, _ => (hlow 54 (by decide)).trans rfl | 55, _ => (hlow 55 (by decide)).trans rfl | 56, _ => (hlow 56 (by decide)).trans rfl | 57, _ => (hlow 57 (by decide)).trans rfl | 58, _ => (hlow 58 (by decide)).trans rfl | 59, _ => (hlow 59 (by decide)).trans rfl | 60, _ => (hlow 60 (by decide)).trans rfl | 61, _ => (hlow 61 (by decide)).trans rfl | 62, _ => (hlow 62 (by decide)).trans rfl | 63, _ => (hlow 63 (by decide)).trans rfl | 64, _ => (hlow 64 (by decide)).trans rfl | 65, _ => (hlow 65 (by decide)).trans rfl | 66, _ => (hlow 66 (by decide)).trans rfl | 67, _ => (hlow 67 (by decide)).trans rfl | 68, _ => (hlow 68 (by decide)).trans rfl | 69, _ => (hlow 69 (by decide)).trans rfl | 70, _ => (hlow 70 (by decide)).trans rfl | 71, _ => (hlow 71 (by decide)).trans rfl | 72, _ => (hlow 72 (by decide)).trans rfl | 73, _ => (hlow 73 (by decide)).trans rfl | 74, _ => (hlow 74 (by decide)).trans rfl | 75, _ => (hlow 75 (by decide)).trans rfl | 76, _ => (hlow 76 (by decide)).trans rfl | 77, _ => (hlow 77 (by decide)).trans rfl | 78, _ => (hlow 78 (by decide)).trans rfl | 79, _ => (hlow 79 (by decide)).trans rfl | 80, _ => (hlow 80 (by decide)).trans rfl | n + 81, h => absurd h (by show ¬ n + 81 < 81; omega))
          clear hs hd hlow hok hy35 hy36 hy37 hy38 hy39 hy40 hy41 hy42 hy43 hy44
          have HO3 := Lib.hid (row_keep ho1.out fun x hx => hS.block x (row_blk ho1.out hx).2.1 : OwnP w3 w2.heap.size (.slice B1 (toR R i ++ rowR R i k).length r1) (toR R i ++ rowR R i k))
          have HB3 := Lib.hid (hbl1.out.trans (hS.mono hbl1.out.size))
          clear HF HG HDA HDB hS ho1 hbl1 hgl
          obtain ⟨L, hL⟩ : ∃ L, toR R i ++ rowR R i k = L := ⟨_, rfl⟩
          have HNX := Lib.hid (rowR_succ R i k)
          have HEQ := Lib.hid hL
          rw [hL] at HL HO3 ⊢
          clear hL
          obtain ⟨y, hy⟩ : ∃ y, (y1 && !y2) = y := ⟨_, rfl⟩
          rw [hy] at HD0
          try rw [hy]
          clear hy
          go_wp2_with fail
          go_loopw [7, 8] (fun d j V => ∃ q : Nat, d = .bool (dTo R i k q) ∧ j = .int .i64 (q : Int) ∧ i + 1 ≤ q ∧ q ≤ k ∧ V = w3) (fun _ j _ => k - (intOf j).toNat)
          case atStart => exact ⟨i + 1, by rw [HD0.out], by go_num, Nat.le_refl _, hik, rfl⟩
          case round =>
            obtain ⟨j, rfl, rfl, hij, hjk, rfl⟩ := hrel
            by_cases hj : j < k
            · have hM := HML.out.keep HB3.out
              have hc1 := hM.at_ (Nat.zero_le _) hi
              have hc2 := hM.at_ (Nat.zero_le _) (show j < m by omega)
              have hc3 := hM.bit (Nat.zero_le _) hi (show j < m by omega)
              have hc4 := hM.bit (Nat.zero_le _) (show j < m by omega) hk
              have hn := dTo_succ R i k j (by omega)
              obtain ⟨d, hd⟩ : ∃ d, dTo R i k j = d := ⟨_, rfl⟩
              obtain ⟨b1, hb1⟩ : ∃ d, DP.hb R i j = d := ⟨_, rfl⟩
              obtain ⟨b2, hb2⟩ : ∃ d, DP.hb R j k = d := ⟨_, rfl⟩
              rw [hd, hb1, hb2] at hn
              rw [hb1] at hc3
              rw [hb2] at hc4
              rw [hd]
              have HN := Lib.hid hn
              clear hn hd hb1 hb2 hM
              cases d <;> cases b1 <;> cases b2
              all_goals
                go_wp2_with fail
                go_roundw
                case rel => exact ⟨j + 1, by rw [HN.out]; rfl, by go_num, by omega, by omega, trivial⟩
                case measure => simp [intOf]; omega
            · obtain rfl : j = k := by omega
              rw [dTo_end R i j (by omega)] at HNX
              obtain ⟨d, hd⟩ : ∃ d, dTo R i j j = d := ⟨_, rfl⟩
              rw [hd] at HNX ⊢
              clear hd
              cases d
              · have HN2 := Lib.hid (show toR R i ++ rowR R i (j + 1) = L by
                  rw [HNX.out, if_neg (by simp), List.append_nil]
                  exact HEQ.out)
                go_wp2_with fail
                go_roundw
                case rel => exact ⟨j + 1, by go_num, by omega, by omega, by rw [HN2.out]; exact ⟨B1, r1, rfl⟩, by rw [HN2.out]; exact HO3.out, HB3.out⟩
                case measure => simp [intOf]; omega
              · have HN2 := Lib.hid (show toR R i ++ rowR R i (j + 1) = L ++ [(i, j)] by
                  rw [HNX.out, if_pos rfl, ← List.append_assoc, HEQ.out])
                obtain ⟨V4, hV4⟩ : ∃ U, wr.alloc (.cells #[.int .i64 (i : Int), .int .i64 (j : Int)] 42) = U := ⟨_, rfl⟩
                have hb4 : Below wr.heap.size wr V4 := by rw [← hV4]; exact (Below.refl _ _).alloc (Nat.le_refl _) _
                have hnews : ∀ x u, [nv i, nv j][x]? = some u → V4.cell? ((⟨wr.heap.size, 0, none⟩ : Addr).add x) = some u := by
                  have := World.alloc_heap_new wr (.cells #[.int .i64 (i : Int), .int .i64 (j : Int)] 42)
                  rw [hV4] at this
                  exact fun x u hu => World.news_of_block this x u hu
                have hown : V4.ownsRow w2.heap.size 42 2 (.slice B1 L.length r1) L.length (pc L) := row_keep HO3.out fun x hx => hb4.block x (row_blk HO3.out hx).2.1
                have HB4 := Lib.hid (HB3.out.trans (hb4.mono HB3.out.size))
                have hsz4 : w2.heap.size ≤ V4.heap.size := (HB3.out.trans (hb4.mono HB3.out.size)).size
                clear hb4 HNX
                go_wp2_with (at_builtin
                             refine wpList_append_nb rfl (.tmp 74) (.tmp 78) 40 rfl w2.heap.size 42 i0 _ 2 16 Tryd.underlying40 hi0 hz0 hzz1 hz2 rfl (by decide) _ L.length _ rfl hown ⟨wr.heap.size, 0, none⟩ 1 1 [nv i, nv j] rfl rfl hnews (by simp [nv, Value.oneCell']) (by simp only [maxLen]; omega) (by omega) hsz4 ?_
                             intro A7 c7 w7 hown7 hgr7 _
                             have HO7 := Lib.hid hown7
                             have HB7 := Lib.hid (HB4.out.grown hgr7 HB4.out.size (fun x e => (row_blk hown e).1))
                             clear hown7 hgr7)
                go_roundw
                case rel => exact ⟨j + 1, by go_num, by omega, by omega, by rw [HN2.out]; exact ⟨A7, c7, by simp⟩, by rw [HN2.out]; unfold OwnP; rw [pc_snoc, List.length_append]; exact HO7.out, HB7.out⟩
                case measure => simp [intOf]; omega
        · obtain rfl : k = m := by omega
          have HN2 := Lib.hid (show toR R (i + 1) = toR R i ++ rowR R i k by rw [toR_succ, HLEN.out])
          go_wp2_with fail
          go_roundw
          case rel => exact ⟨i + 1, by go_num, by omega, by rw [HN2.out]; exact ⟨B1, r1, rfl⟩, by rw [HN2.out]; exact ho1.out, hbl1.out⟩
          case measure => simp [intOf]; omega
    · obtain rfl : i = m := by omega
      have hte : toR R i = DP.races R := by rw [← HEND.out, HLEN.out]
      rw [hte] at ho ⊢
      have HB5 := Lib.hid (HB2.out.trans (hbl.out.mono HB2.out.size))
      have HO5 := Lib.hid (row_low ho.out HB2.out.size : OwnP wo w.heap.size _ _)
      obtain ⟨L, hL⟩ : ∃ L, DP.races R = L := ⟨_, rfl⟩
      rw [hL] at HO5 ⊢
      have HL := Lib.hid hL
      clear ho hte hL
      go_wp2_with fail
      go_ret
      rw [HL.out]
      exact ⟨B, r, rfl, HO5.out, HB5.out⟩
end Go.Proofs.YtlomhoohmcnniaaDoor
