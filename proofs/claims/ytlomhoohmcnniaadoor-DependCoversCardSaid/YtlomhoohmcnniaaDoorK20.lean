/-
  depend.dependentPairs hands back an iterator over the pairs of dependent steps. Condition: the run lies in memory, and has at most 14 steps.
-/
import Derived.RangeFuncNested
import Derived.RangeFuncBound
import Derived.RangeFuncCalls
import Derived.RangeFuncLeaves
import Derived.RangeFuncBox
import Derived.Shelf.Abstract
import Derived.Shelf.RegionOpen
import Derived.OwnWalkIn
import Derived.TacticsInMore
import Derived.LoopNIn
import Derived.LoopIn
import Derived.BigRegionIn
import Derived.Test.YtlomhoohmcnniaaDoorK3
import Derived.Test.YtlomhoohmcnniaaDoorK19

namespace Go.Proofs.YtlomhoohmcnniaaDoor
open Go Go.RowKit Go.Proofs Go.Shelf
attribute [local go_sem] Oper.semAt_some

def prA (p : Nat × Nat) : Array Value := #[.int .i64 (p.1 : Int), .int .i64 (p.2 : Int)]
/-- What a round keeps: what lay below lo; steps; runs' boxes. -/
def KpD (lo : Nat) (W W' : World) : Prop := Below lo W W' ∧ W.heap.size ≤ W'.heap.size ∧ ∀ (b : Nat) (C : Array Value) (t : TypeId) (fr : Nat × Nat), W.heap[b]? = some (Obj.cells C t fr) → t = 52 ∨ t = 23 → W'.heap[b]? = some (Obj.cells C t fr)
theorem KpD.of_below {lo : Nat} {W W' : World} (hl : lo ≤ W.heap.size) (h : Below W.heap.size W W') : KpD lo W W' := ⟨h.mono hl, h.size, fun b _ _ _ hb _ => (h.block b (heap_lt hb)).trans hb⟩
theorem KpD.trans {lo : Nat} {A B C : World} (h : KpD lo A B) (k : KpD lo B C) : KpD lo A C := ⟨h.1.trans k.1, Nat.le_trans h.2.1 k.2.1, fun b C t fr hb ht => k.2.2 b C t fr (h.2.2 b C t fr hb ht) ht⟩
def RBox (W : World) (b : Nat) (v : Value) : Prop := W.heap[b]? = some (.cells #[v] 23 (0, 0))
theorem KpD.box {lo b : Nat} {v : Value} {W W' : World} (h : KpD lo W W') (hb : RBox W b v) : RBox W' b v := h.2.2 b _ _ _ hb (.inr rfl)
theorem KpD.st {lo b : Nat} {s : DP.St} {W W' : World} (h : KpD lo W W') (hb : StBx W b s) : StBx W' b s := h.2.2 b _ _ _ hb (.inl rfl)
theorem grown_of_below {W W' : World} (h : Below W.heap.size W W') : W.grownBy W' none := ⟨h.os, h.tape, h.output, h.size, fun b hb _ => h.block b hb⟩
theorem abide {β : Type} {B : Nat} {J : List β → World → Prop} (hJ : AbidesFrom B J) {pre : List β} {W W' : World} (h : J pre W) (hb : Below W.heap.size W W') : J pre W' := hJ _ _ _ none h (grown_of_below hb) (fun r e => by cases e)
theorem two_ways {e : Ending} {p q : Prop} (h : (e = .returned (.bool true) ∧ p) ∨ (e = .returned (.bool false) ∧ q)) : ∃ y : Bool, e = .returned (.bool y) ∧ ((y = true ∧ p) ∨ (y = false ∧ q)) := by
  rcases h with ⟨rfl, h⟩ | ⟨rfl, h⟩
  · exact ⟨true, rfl, .inl ⟨rfl, h⟩⟩
  · exact ⟨false, rfl, .inr ⟨rfl, h⟩⟩
set_option maxRecDepth 100000 in
set_option maxHeartbeats 8000000 in
theorem pairs1_in (n : Nat) (hn : 8 ≤ n) (l Bs : Nat) (A : Option Addr) (m c : Nat) (R : List DP.St) (W0 : World) (J Jx : List (Nat × Nat) → World → Prop) (W : World) (hJ : AbidesFrom W.heap.size J)
    (hY : ∀ pre x V, J pre V → pre.length < 400 → YieldAt Fence.wide (n - 1) Tryd.prog l (prA x) V fun e W' => (e = .returned (.bool true) ∧ J (pre ++ [x]) W' ∧ KpD W0.heap.size V W') ∨ (e = .returned (.bool false) ∧ Jx (pre ++ [x]) W'))
    (hR : Run W0 A m c R) (hm : m ≤ 14) (hW : Below W0.heap.size W0 W) (hBs : RBox W Bs (.slice A m c)) (h0 : J [] W) :
    CallsIn Fence.wide n Tryd.prog 46 #[.func (.yield l) #[] #[], .pointer (some ⟨Bs, 0, none⟩)] W fun e W' => (∃ v, e = .returned v) ∧ ((∃ ys, ys = DP.prs R ∧ J ys W') ∨ (∃ pre, pre <+: DP.prs R ∧ Jx pre W')) := by
  have hlen : R.length = m := hR.sl.len
  have hcb : W.cell? ⟨Bs, 0, none⟩ = some (.slice A m c) := cell_of_row W Bs 0 _ _ (0, 0) hBs
  have HR := Lib.hid hR
  have HW := Lib.hid hW
  have HBS := Lib.hid hBs
  have HJ0 := Lib.hid h0
  have hsz0 := hW.size
  clear hR hW hBs h0
  refine callsIn_of_wp Tryd.func46 rfl trivial ?_ rfl
  simp only [Tryd.ntmps46, List.size_toArray, List.length_cons, List.length_nil, Nat.reduceAdd, Nat.reduceSub, Array.replicate_succ, Array.replicate_zero, List.push_toArray, List.append_toArray, List.nil_append, List.cons_append]
  gi_wp2
  gi_loopw [8] (fun x V => ∃ i : Nat, x = .int .i64 (i : Int) ∧ i ≤ m ∧ Hid (J (DP.prTo R i) V) ∧ Hid (Below W0.heap.size W0 V) ∧ Hid (RBox V Bs (.slice A m c)) ∧ W.heap.size ≤ V.heap.size) (fun x _ => m - (intOf x).toNat)
  case atStart => exact ⟨0, rfl, Nat.zero_le _, HJ0.out, HW.out, HBS.out, Nat.le_refl _⟩
  case round =>
    obtain ⟨i, rfl, hi, hj, hbl, hbx, hsz⟩ := hrel
    obtain ⟨wo, hwo⟩ : ∃ V, V = wr := ⟨_, rfl⟩
    subst hwo
    clear hcb
    have hcb : wo.cell? ⟨Bs, 0, none⟩ = some (.slice A m c) := cell_of_row wo Bs 0 _ _ (0, 0) hbx.out
    by_cases him : i < m
    · obtain ⟨a, ha⟩ : ∃ a, R[i]? = some a := ⟨_, List.getElem?_eq_getElem (by omega)⟩
      obtain ⟨g, hg, hgl, ⟨c0, c1, c2, c3, c4, c5, c6, c7, c8, c9, c10⟩, hin⟩ := (HR.out.keep hbl.out).at_ ha
      subst hg
      clear hin
      gi_wp2
      obtain ⟨w1, hw1⟩ : ∃ U, wo.alloc (stO a) = U := ⟨_, rfl⟩
      rw [hw1]
      have hb1 : Below wo.heap.size wo w1 := by rw [← hw1]; exact (Below.refl _ _).alloc (Nat.le_refl _) _
      have hs1 := hb1.size
      have HST := Lib.hid (show StBx w1 wo.heap.size a by rw [← hw1]; exact StBx.new wo a)
      have HJ1 := Lib.hid (abide (fun p V W row h1 h2 h3 => hJ p V W row h1 h2 h3) hj.out (hb1.mono (Nat.le_refl _)))
      have HB1 := Lib.hid (hbl.out.trans (hb1.mono hbl.out.size))
      have HX1 := Lib.hid (show RBox w1 Bs (.slice (some ⟨g, 0, none⟩) m c) from (hb1.block _ (heap_lt hbx.out)).trans hbx.out)
      have hst0 := hs1
      clear hw1 hb1 hj hbl hbx c0 c1 c2 c3 c4 c5 c6 c7 c8 c9 c10 hcb
      gi_loopw [5] (fun x V => ∃ k : Nat, x = .int .i64 (k : Int) ∧ i + 1 ≤ k ∧ k ≤ m ∧ Hid (J (DP.prTo R i ++ DP.prIn R i k) V) ∧ Hid (Below W0.heap.size W0 V) ∧ Hid (RBox V Bs (.slice (some ⟨g, 0, none⟩) m c)) ∧ Hid (StBx V wo.heap.size a) ∧ W.heap.size ≤ V.heap.size) (fun x _ => m - (intOf x).toNat)
      case atStart => exact ⟨i + 1, by go_num, Nat.le_refl _, by omega, by rw [DP.prIn_start R i (i + 1) (Nat.le_refl _), List.append_nil]; exact HJ1.out, HB1.out, HX1.out, HST.out, by omega⟩
      case round =>
        obtain ⟨k, rfl, hik, hkm, hj, hbl, hbx, hst, hszk⟩ := hrel
        obtain ⟨wp, hwp⟩ : ∃ V, V = wr := ⟨_, rfl⟩
        subst hwp
        clear HST HJ1 HB1 HX1
        have hcb : wp.cell? ⟨Bs, 0, none⟩ = some (.slice (some ⟨g, 0, none⟩) m c) := cell_of_row wp Bs 0 _ _ (0, 0) hbx.out
        by_cases hkn : k < m
        · obtain ⟨b, hb⟩ : ∃ b, R[k]? = some b := ⟨_, List.getElem?_eq_getElem (by omega)⟩
          obtain ⟨g', hg', hgl', hdb, hin⟩ := (HR.out.keep hbl.out).at_ hb
          injection hg' with hg'
          injection hg' with hg'
          subst hg'
          obtain ⟨d0, d1, d2, d3, d4, d5, d6, d7, d8, d9, d10⟩ := (id hdb)
          obtain ⟨c0, c1, c2, c3, c4, c5, c6, c7, c8, c9, c10⟩ := hst.out.cells
          have hia := (HR.out.keep hbl.out).inn a (List.mem_of_getElem? ha)
          have hdep : ∀ V, Below wp.heap.size wp V → Calls Tryd.prog 22 #[stV a, stV b] V fun e w' => e = .returned (.bool (DP.dep a b)) ∧ Below V.heap.size V w' := fun V hV => dependent_any a b V (hia.keep hV) (hin.keep hV)
          have hde := DP.depAt_eq ha hb
          obtain ⟨y, hy⟩ : ∃ y, DP.dep a b = y := ⟨_, rfl⟩
          rw [hy] at hdep hde
          have hnx := DP.prIn_succ R i k (by omega)
          rw [hde] at hnx
          have HN := Lib.hid hnx
          have HD := Lib.hid hdep
          clear hia hin hdep hde hnx hy hb
          have hpl : (DP.prTo R i ++ DP.prIn R i k).length < 400 := by
            have h1 := DP.prTo_len R i
            have h2 := DP.prIn_len R i k
            have h3 : i * R.length ≤ 14 * 14 := Nat.mul_le_mul (by omega) (by omega)
            rw [List.length_append]
            omega
          have HPL := Lib.hid hpl
          clear hpl
          cases y
          · have HDB := Lib.hid hdb
            clear hdb d0 d1 d2 d3 d4 d5 d6 d7 d8 d9 d10 c0 c1 c2 c3 c4 c5 c6 c7 c8 c9 c10
            gi_wp2
            refine wpIn_wide.2 ?_
            -- REGION
            refine RgX.region 13 (fun i => ( 21 + i)) (fun ix_ => match ix_ with | 0 => .v (.agg #[.int .i64 a.ev.k, .int .i64 a.ev.n, .int .i64 a.ev.a, .int .i64 a.ev.m.c, .int .i64 a.ev.m.h, .int .i64 a.ev.m.t, .int .i64 a.ev.m.i, .int .i64 a.ev.m.p, .slice a.qB a.qs.length a.qc, .bool a.ob, .slice a.sB a.ms.length a.sc]) | 1 => .v (.slice (some ⟨g, 0, none⟩) m c) | 2 => .v (.int .i64 (k : Int)) | 3 => .v (.pointer (some ⟨g, k * 11, none⟩)) | 4 => .v (.agg #[.int .i64 b.ev.k, .int .i64 b.ev.n, .int .i64 b.ev.a, .int .i64 b.ev.m.c, .int .i64 b.ev.m.h, .int .i64 b.ev.m.t, .int .i64 b.ev.m.i, .int .i64 b.ev.m.p, .slice b.qB b.qs.length b.qc, .bool b.ob, .slice b.sB b.ms.length b.sc]) | 5 => .v (.bool false) | 6 => .v (.bool false) | 7 => .v (undef) | 8 => .v (undef) | 9 => .v (undef) | 10 => .v (undef) | 11 => .v (undef) | 12 => .v (.bool false) | _ => .any) (by kernel_rfl) rfl (by kernel_rfl)  (fun i hi => by show ( 21 + i) < 35; (repeat' split) <;> omega) (fun i j hi hj => by show ( 21 + i) = ( 21 + j) → i = j; (repeat' split) <;> omega) ?step ?fin
            case step =>
              intro L_ A_ w3 ix op_ hI ho hdep
              have hi : ix < 13 := (Array.getElem?_eq_some_iff.1 ho).1
              have hcase : ix = 0 ∨ ix = 1 ∨ ix = 2 ∨ ix = 3 ∨ ix = 4 ∨ ix = 5 ∨ ix = 6 ∨ ix = 7 ∨ ix = 8 ∨ ix = 9 ∨ ix = 10 ∨ ix = 11 ∨ ix = 12 := by omega
              have hh := hI.held
              clear hi
              rcases hcase with rfl | rfl | rfl | rfl | rfl | rfl | rfl | rfl | rfl | rfl | rfl | rfl | rfl
              · simp only [List.getElem?_toArray, List.getElem?_cons_zero, Option.some.injEq] at ho
                subst ho
                refine ⟨rfl, ?_⟩
                have e4 : A_.tmps[4]?.getD undef = .pointer (some ⟨wo.heap.size, 0, none⟩) := by rw [hI.low 4 (by decide)]; rfl
                clear hI hdep
                obtain ⟨c0, c1, c2, c3, c4, c5, c6, c7, c8, c9, c10⟩ := (hst.out.keep hst.out.lt hh).cells; have cb : w3.cell? ⟨Bs, 0, none⟩ = some (.slice (some ⟨g, 0, none⟩) m c) := (hh.cell (p := ⟨Bs, 0, none⟩) (heap_lt hbx.out)).trans hcb; obtain ⟨d0, d1, d2, d3, d4, d5, d6, d7, d8, d9, d10⟩ := HDB.out.keep hgl' hh
                exact .run rfl (.agg #[.int .i64 a.ev.k, .int .i64 a.ev.n, .int .i64 a.ev.a, .int .i64 a.ev.m.c, .int .i64 a.ev.m.h, .int .i64 a.ev.m.t, .int .i64 a.ev.m.i, .int .i64 a.ev.m.p, .slice a.qB a.qs.length a.qc, .bool a.ob, .slice a.sB a.ms.length a.sc]) w3 (by simp [execOp, go_sem, Act.eval, *]) (Below.refl _ _) rfl
              · simp only [List.getElem?_toArray, List.getElem?_cons_succ, List.getElem?_cons_zero, Option.some.injEq] at ho
                subst ho
                refine ⟨rfl, ?_⟩
                have e1 : A_.tmps[1]?.getD undef = .pointer (some ⟨Bs, 0, none⟩) := by rw [hI.low 1 (by decide)]; rfl
                clear hI hdep
                obtain ⟨c0, c1, c2, c3, c4, c5, c6, c7, c8, c9, c10⟩ := (hst.out.keep hst.out.lt hh).cells; have cb : w3.cell? ⟨Bs, 0, none⟩ = some (.slice (some ⟨g, 0, none⟩) m c) := (hh.cell (p := ⟨Bs, 0, none⟩) (heap_lt hbx.out)).trans hcb; obtain ⟨d0, d1, d2, d3, d4, d5, d6, d7, d8, d9, d10⟩ := HDB.out.keep hgl' hh
                exact .run rfl (.slice (some ⟨g, 0, none⟩) m c) w3 (by simp [execOp, go_sem, Act.eval, *]) (Below.refl _ _) rfl
              · simp only [List.getElem?_toArray, List.getElem?_cons_succ, List.getElem?_cons_zero, Option.some.injEq] at ho
                subst ho
                refine ⟨rfl, ?_⟩
                have e5 : A_.tmps[5]?.getD undef = .int .i64 (k : Int) := by rw [hI.low 5 (by decide)]; rfl
                clear hI hdep
                exact .run rfl (.int .i64 (k : Int)) w3 (by simp [execOp, go_sem, Act.eval, e5]) (Below.refl _ _) rfl
              · simp only [List.getElem?_toArray, List.getElem?_cons_succ, List.getElem?_cons_zero, Option.some.injEq] at ho
                subst ho
                refine ⟨rfl, ?_⟩
                have e22 : A_.tmps[22]?.getD undef = .slice (some ⟨g, 0, none⟩) m c := getD_of (hI.val_ (i := 1) rfl rfl (by decide) (hdep ⟨1, .data⟩ (by simp) rfl))
                have e23 : A_.tmps[23]?.getD undef = .int .i64 (k : Int) := getD_of (hI.val_ (i := 2) rfl rfl (by decide) (hdep ⟨2, .data⟩ (by simp) rfl))
                clear hI hdep
                exact .run rfl (.pointer (some ⟨g, k * 11, none⟩)) w3 (by simp [execOp, go_sem, Act.eval, e22, e23]; omega) (Below.refl _ _) rfl
              · simp only [List.getElem?_toArray, List.getElem?_cons_succ, List.getElem?_cons_zero, Option.some.injEq] at ho
                subst ho
                refine ⟨rfl, ?_⟩
                have e24 : A_.tmps[24]?.getD undef = .pointer (some ⟨g, k * 11, none⟩) := getD_of (hI.val_ (i := 3) rfl rfl (by decide) (hdep ⟨3, .data⟩ (by simp) rfl))
                clear hI hdep
                obtain ⟨d0, d1, d2, d3, d4, d5, d6, d7, d8, d9, d10⟩ := HDB.out.keep hgl' hh
                exact .run rfl (.agg #[.int .i64 b.ev.k, .int .i64 b.ev.n, .int .i64 b.ev.a, .int .i64 b.ev.m.c, .int .i64 b.ev.m.h, .int .i64 b.ev.m.t, .int .i64 b.ev.m.i, .int .i64 b.ev.m.p, .slice b.qB b.qs.length b.qc, .bool b.ob, .slice b.sB b.ms.length b.sc]) w3 (by simp [execOp, go_sem, Act.eval, e24, d0, d1, d2, d3, d4, d5, d6, d7, d8, d9, d10]) (Below.refl _ _) rfl
              · simp only [List.getElem?_toArray, List.getElem?_cons_succ, List.getElem?_cons_zero, Option.some.injEq] at ho
                subst ho
                refine ⟨rfl, ?_⟩
                have e21 : A_.tmps[21]?.getD undef = .agg #[.int .i64 a.ev.k, .int .i64 a.ev.n, .int .i64 a.ev.a, .int .i64 a.ev.m.c, .int .i64 a.ev.m.h, .int .i64 a.ev.m.t, .int .i64 a.ev.m.i, .int .i64 a.ev.m.p, .slice a.qB a.qs.length a.qc, .bool a.ob, .slice a.sB a.ms.length a.sc] := getD_of (hI.val_ (i := 0) rfl rfl (by decide) (hdep ⟨0, .data⟩ (by simp) rfl))
                have e25 : A_.tmps[25]?.getD undef = .agg #[.int .i64 b.ev.k, .int .i64 b.ev.n, .int .i64 b.ev.a, .int .i64 b.ev.m.c, .int .i64 b.ev.m.h, .int .i64 b.ev.m.t, .int .i64 b.ev.m.i, .int .i64 b.ev.m.p, .slice b.qB b.qs.length b.qc, .bool b.ob, .slice b.sB b.ms.length b.sc] := getD_of (hI.val_ (i := 4) rfl rfl (by decide) (hdep ⟨4, .data⟩ (by simp) rfl))
                clear hI hdep
                exact .call rfl 22 #[.agg #[.int .i64 a.ev.k, .int .i64 a.ev.n, .int .i64 a.ev.a, .int .i64 a.ev.m.c, .int .i64 a.ev.m.h, .int .i64 a.ev.m.t, .int .i64 a.ev.m.i, .int .i64 a.ev.m.p, .slice a.qB a.qs.length a.qc, .bool a.ob, .slice a.sB a.ms.length a.sc], .agg #[.int .i64 b.ev.k, .int .i64 b.ev.n, .int .i64 b.ev.a, .int .i64 b.ev.m.c, .int .i64 b.ev.m.h, .int .i64 b.ev.m.t, .int .i64 b.ev.m.i, .int .i64 b.ev.m.p, .slice b.qB b.qs.length b.qc, .bool b.ob, .slice b.sB b.ms.length b.sc]] (by simp [go_sem, Act.eval, e21, e25]) ((HD.out w3 hh).mono fun _ _ ⟨h1_, h2_⟩ => ⟨⟨_, h1_, rfl⟩, h2_⟩)
              · simp only [List.getElem?_toArray, List.getElem?_cons_succ, List.getElem?_cons_zero, Option.some.injEq] at ho
                subst ho
                refine ⟨rfl, ?_⟩
                have e26 : A_.tmps[26]?.getD undef = .bool false := getD_of (hI.val_ (i := 5) rfl rfl (by decide) (hdep ⟨5, .data⟩ (by simp) rfl))
                clear hI hdep
                exact .run rfl (.bool false) w3 (by simp [execOp, go_sem, Act.eval, e26]) (Below.refl _ _) rfl
              · simp only [List.getElem?_toArray, List.getElem?_cons_succ, List.getElem?_cons_zero, Option.some.injEq] at ho
                subst ho
                refine ⟨rfl, ?_⟩
                have q27 : A_.tmps[27]? = some (.bool false) := hI.val_ (i := 6) rfl rfl (by decide) (hdep ⟨6, .guard⟩ (by simp) rfl)
                exact .skip ((wanted_some rfl rfl q27).trans rfl) (fun _ => rfl)
              · simp only [List.getElem?_toArray, List.getElem?_cons_succ, List.getElem?_cons_zero, Option.some.injEq] at ho
                subst ho
                refine ⟨rfl, ?_⟩
                have q27 : A_.tmps[27]? = some (.bool false) := hI.val_ (i := 6) rfl rfl (by decide) (hdep ⟨6, .guard⟩ (by simp) rfl)
                exact .skip ((wanted_some rfl rfl q27).trans rfl) (fun _ => rfl)
              · simp only [List.getElem?_toArray, List.getElem?_cons_succ, List.getElem?_cons_zero, Option.some.injEq] at ho
                subst ho
                refine ⟨rfl, ?_⟩
                have q27 : A_.tmps[27]? = some (.bool false) := hI.val_ (i := 6) rfl rfl (by decide) (hdep ⟨6, .guard⟩ (by simp) rfl)
                exact .skip ((wanted_some rfl rfl q27).trans rfl) (fun _ => rfl)
              · simp only [List.getElem?_toArray, List.getElem?_cons_succ, List.getElem?_cons_zero, Option.some.injEq] at ho
                subst ho
                refine ⟨rfl, ?_⟩
                have q27 : A_.tmps[27]? = some (.bool false) := hI.val_ (i := 6) rfl rfl (by decide) (hdep ⟨6, .guard⟩ (by simp) rfl)
                exact .skip ((wanted_some rfl rfl q27).trans rfl) (fun _ => rfl)
              · simp only [List.getElem?_toArray, List.getElem?_cons_succ, List.getElem?_cons_zero, Option.some.injEq] at ho
                subst ho
                refine ⟨rfl, ?_⟩
                have q27 : A_.tmps[27]? = some (.bool false) := hI.val_ (i := 6) rfl rfl (by decide) (hdep ⟨6, .guard⟩ (by simp) rfl)
                exact .skip ((wanted_some rfl rfl q27).trans rfl) (fun _ => rfl)
              · simp only [List.getElem?_toArray, List.getElem?_cons_succ, List.getElem?_cons_zero, Option.some.injEq] at ho
                subst ho
                refine ⟨rfl, ?_⟩
                have e27 : A_.tmps[27]?.getD undef = .bool false := getD_of (hI.val_ (i := 6) rfl rfl (by decide) (hdep ⟨6, .data⟩ (by simp) rfl))
                have e32 : A_.tmps[32]?.getD undef = undef := getD_of (hI.val_ (i := 11) rfl rfl (by decide) (hdep ⟨11, .data⟩ (by simp) rfl))
                clear hI hdep
                exact .run rfl (.bool false) w3 (by simp [execOp, go_sem, Act.eval, e27, e32]) (Below.refl _ _) rfl
            case fin =>
            intro A_ w3 hs hd hlow hS hok
            obtain rfl : A_ = ⟨#[.func (.yield l) #[] #[], .pointer (some ⟨Bs, 0, none⟩), undef, .int .i64 (i : Int), .pointer (some ⟨wo.heap.size, 0, none⟩), .int .i64 (k : Int), .slice (some ⟨g, 0, none⟩) m c, .int .i64 (m : Int), .int .i64 (i : Int), .bool true, .int .i64 (i : Int), .pointer (some ⟨g, i * 11, none⟩), .agg #[.int .i64 a.ev.k, .int .i64 a.ev.n, .int .i64 a.ev.a, .int .i64 a.ev.m.c, .int .i64 a.ev.m.h, .int .i64 a.ev.m.t, .int .i64 a.ev.m.i, .int .i64 a.ev.m.p, .slice a.qB a.qs.length a.qc, .bool a.ob, .slice a.sB a.ms.length a.sc], .int .i64 (i : Int), .int .i64 ((i : Int) + 1), .int .i64 (k : Int), .slice (some ⟨g, 0, none⟩) m c, .int .i64 (m : Int), .bool true, u19, u20, .agg #[.int .i64 a.ev.k, .int .i64 a.ev.n, .int .i64 a.ev.a, .int .i64 a.ev.m.c, .int .i64 a.ev.m.h, .int .i64 a.ev.m.t, .int .i64 a.ev.m.i, .int .i64 a.ev.m.p, .slice a.qB a.qs.length a.qc, .bool a.ob, .slice a.sB a.ms.length a.sc], .slice (some ⟨g, 0, none⟩) m c, .int .i64 (k : Int), .pointer (some ⟨g, k * 11, none⟩), .agg #[.int .i64 b.ev.k, .int .i64 b.ev.n, .int .i64 b.ev.a, .int .i64 b.ev.m.c, .int .i64 b.ev.m.h, .int .i64 b.ev.m.t, .int .i64 b.ev.m.i, .int .i64 b.ev.m.p, .slice b.qB b.qs.length b.qc, .bool b.ob, .slice b.sB b.ms.length b.sc], .bool false, .bool false, undef, undef, undef, undef, undef, .bool false, u34], []⟩ := act_ext hd hs (fun j hj => match j, hj with | 0, _ => (hlow 0 (by decide)).trans rfl | 1, _ => (hlow 1 (by decide)).trans rfl | 2, _ => (hlow 2 (by decide)).trans rfl | 3, _ => (hlow 3 (by decide)).trans rfl | 4, _ => (hlow 4 (by decide)).trans rfl | 5, _ => (hlow 5 (by decide)).trans rfl | 6, _ => (hlow 6 (by decide)).trans rfl | 7, _ => (hlow 7 (by decide)).trans rfl | 8, _ => (hlow 8 (by decide)).trans rfl | 9, _ => (hlow 9 (by decide)).trans rfl | 10, _ => (hlow 10 (by decide)).trans rfl | 11, _ => (hlow 11 (by decide)).trans rfl | 12, _ => (hlow 12 (by decide)).trans rfl | 13, _ => (hlow 13 (by decide)).trans rfl | 14, _ => (hlow 14 (by decide)).trans rfl | 15, _ => (hlow 15 (by decide)).trans rfl | 16, _ => (hlow 16 (by decide)).trans rfl | 17, _ => (hlow 17 (by decide)).trans rfl | 18, _ => (hlow 18 (by decide)).trans rfl | 19, _ => (hlow 19 (by decide)).trans rfl | 20, _ => (hlow 20 (by decide)).trans rfl | 21, _ => RgX.val_at (hok 0 21 _ (by decide) rfl rfl) | 22, _ => RgX.val_at (hok 1 22 _ (by decide) rfl rfl) | 23, _ => RgX.val_at (hok 2 23 _ (by decide) rfl rfl) | 24, _ => RgX.val_at (hok 3 24 _ (by decide) rfl rfl) | 25, _ => RgX.val_at (hok 4 25 _ (by decide) rfl rfl) | 26, _ => RgX.val_at (hok 5 26 _ (by decide) rfl rfl) | 27, _ => RgX.val_at (hok 6 27 _ (by decide) rfl rfl) | 28, _ => RgX.val_at (hok 7 28 _ (by decide) rfl rfl) | 29, _ => RgX.val_at (hok 8 29 _ (by decide) rfl rfl) | 30, _ => RgX.val_at (hok 9 30 _ (by decide) rfl rfl) | 31, _ => RgX.val_at (hok 10 31 _ (by decide) rfl rfl) | 32, _ => RgX.val_at (hok 11 32 _ (by decide) rfl rfl) | 33, _ => RgX.val_at (hok 12 33 _ (by decide) rfl rfl) | 34, _ => (hlow 34 (by decide)).trans rfl | n + 35, h => absurd h (by show ¬ n + 35 < 35; omega))
            clear hs hd hlow hok 
            -- BEHIND
            have HS := Lib.hid hS
            clear hS
            gi_wp2
            go_roundw
            case rel => exact ⟨k + 1, by go_num, by omega, by omega, by rw [HN.out, if_neg (by simp), List.append_nil]; exact abide (fun p V W row h1 h2 h3 => hJ p V W row h1 h2 h3) hj.out HS.out, hbl.out.trans (HS.out.mono hbl.out.size), (HS.out.block _ (heap_lt hbx.out)).trans hbx.out, hst.out.keep hst.out.lt HS.out, Nat.le_trans hszk HS.out.size⟩
            case measure => simp [intOf]; omega
          · clear hdb
            have HNT := Lib.hid (show DP.prTo R i ++ DP.prIn R i (k + 1) = DP.prTo R i ++ DP.prIn R i k ++ [(i, k)] by rw [HN.out, if_pos rfl, ← List.append_assoc])
            clear HN
            gi_wp2
            gi_region_with (first
              | (refine ⟨trivial, fun _ => by omega, ?_⟩; gi_at_call 22; refine (callsIn_wide.2 (HD.out _ ((Below.refl _ _).drew))).mono ?_; rintro e w5 ⟨rfl, hb5⟩; have HB5 := Lib.hid (((Below.refl wp.heap.size wp).drew).trans hb5); clear hb5; have hj5 := abide (fun p V W row h1 h2 h3 => hJ p V W row h1 h2 h3) hj.out HB5.out; obtain ⟨fn, tmps, assign, body, hy, hR⟩ := hY _ (i, k) _ hj5 HPL.out; clear hj5; unfold prA at hy)
              | (refine ⟨fun _ => by omega, hR.mono ?_⟩; rintro e W3 h3; obtain ⟨y2, rfl, h4⟩ := two_ways h3; clear h3))
            all_goals
              rcases h4 with ⟨rfl, hj6, hk6⟩ | ⟨rfl, hx6⟩
              · have HJ6 := Lib.hid hj6
                have HK6 := Lib.hid hk6
                have hz6 := Nat.le_trans HB5.out.size hk6.2.1
                clear hj6 hk6
                gi_wp2
                go_roundw
                case rel => exact ⟨k + 1, by go_num, by omega, by omega, by rw [HNT.out]; exact HJ6.out, (hbl.out.trans (HB5.out.mono hbl.out.size)).trans HK6.out.1, HK6.out.box ((HB5.out.block _ (heap_lt hbx.out)).trans hbx.out), HK6.out.st (hst.out.keep hst.out.lt HB5.out), Nat.le_trans hszk hz6⟩
                case measure => simp [intOf]; omega
              · have HX6 := Lib.hid hx6
                clear hx6
                gi_wp2
                refine bodyPost_ret (results_none rfl _ _ _) rfl ?_
                refine ⟨⟨_, rfl⟩, .inr ⟨_, ?_, HX6.out⟩⟩
                have h7 := DP.prs_pre R (i := i) (k := k + 1) (by omega) (by omega)
                rwa [HNT.out] at h7
        · obtain rfl : k = m := by omega
          have HJE := Lib.hid (show J (DP.prTo R (i + 1)) wp by rw [DP.prTo_succ, hlen]; exact hj.out)
          gi_wp2
          go_roundw
          case rel => exact ⟨i + 1, by go_num, by omega, HJE.out, hbl.out, hbx.out, hszk⟩
          case measure => simp [intOf]; omega
    · obtain rfl : i = m := by omega
      gi_wp2
      go_end0
      exact ⟨⟨_, rfl⟩, .inl ⟨_, (show DP.prTo R i = DP.prs R by unfold DP.prs; rw [hlen]), hj.out⟩⟩
end Go.Proofs.YtlomhoohmcnniaaDoor
