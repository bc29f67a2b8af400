/-
  The contract of depend.Swap. Condition: the run lies in memory, and has at most 14 steps.
-/
import Derived.Test.YtlomhoohmcnniaaDoorK32
import Derived.Test.YtlomhoohmcnniaaDoorK19
import Derived.Deep.Cut

namespace Go.Proofs.YtlomhoohmcnniaaDoor
open Go Go.RowKit Go.Proofs
attribute [local go_sem] Oper.semAt_some

theorem store_seg_ex {P : Program} {o : Oper} {a : Act} {w : World} {K : World → Prop} (ty : TypeId) (x y : Operand) (ho : o.op = .store ty x y)
    (g off : Nat) (v : Value) (hx : a.eval x = .pointer (some ⟨g, off, none⟩)) (hy : a.eval y = v) (t : TypeId) (C : Array Value) (hg : w.heap[g]? = some (.cells C t (0, 0)))
    (hi : (P.info? ty).map (·.size) = some v.cells.size) (hl : off + v.cells.size ≤ C.size) (h1 : v.cells.all (·.oneCell') = true)
    (C' : Array Value) (hC : C' = (C.toList.take off ++ v.cells.toList ++ C.toList.drop (off + v.cells.size)).toArray)
    (h : ∀ W', W'.heap[g]? = some (.cells C' t (0, 0)) → (∀ b, b ≠ g → W'.heap[b]? = w.heap[b]?) → W'.heap.size = w.heap.size → Below g w W' → K W') : ∃ w', (execOp a.eval o).run P w = .ok .skip w' ∧ K w' := by
  have hs := run_storeCells_at (P := P) g off t v.cells.toList 0 C w hg (by simp; omega) (fun u hu => (Array.all_eq_true_iff_forall_mem.1 h1) u (by simpa using hu))
  have hv : (storeVar ty ⟨g, off, none⟩ v).run P w = .ok () (w.setRow g C') := by
    cases hq : P.info? ty with
    | none => simp [hq] at hi
    | some i =>
      have he : v.cells.size = i.size := by simp [hq] at hi; omega
      simp only [Nat.add_zero, Array.length_toList] at hs
      rw [hC]
      simp [storeVar, sizeOf, typeInfo, hq, ← he, hs]
  refine ⟨w.setRow g C', ?_, h _ (setRow_heap w g C C' t _ hg) (fun b hb => setRow_other w g b C' hb) (by simp) (below_setRow (Below.refl g w) (Nat.le_refl _) C')⟩
  unfold execOp
  simp only [ho, hx, hy, Instr.storeAt, Instr.sureAddr, Sem.run_bind, Sem.run_pure, Result.andThen_ok, hv]
theorem RB.seg {W W' : World} {lo g n c j : Nat} {R : List DP.St} {s' : DP.St} {C : Array Value} (h : RB W lo g n c R) (hj : j < n) (hg : W.heap[g]? = some (.cells C 52 (0, 0))) (hW : W'.heap[g]? = some (.cells (C.toList.take (j * 11) ++ stE.f s' ++ C.toList.drop (j * 11 + 11)).toArray 52 (0, 0))) : RB W' lo g n c (R.set j s') := by
  obtain ⟨C1, c1, c2, c3⟩ := h.blk
  rw [hg] at c1
  injection c1 with c1
  injection c1 with c1
  subst c1
  have hln := h.len
  have hmul := Nat.mul_le_mul_right 11 (show j + 1 ≤ n from hj)
  have hf : (stE.f s').length = 11 := rfl
  have ht : (C.toList.take (j * 11)).length = j * 11 := by
    rw [List.length_take, Array.length_toList]
    omega
  refine ⟨by rw [List.length_set]; exact h.len, h.nc, h.cap, h.lo, _, hW, ?_, fun q x p u hq hu => ?_⟩
  · rw [List.size_toArray, List.length_append, List.length_append, ht, hf, List.length_drop, Array.length_toList]
    omega
  · have hp : p < 11 := (List.getElem?_eq_some_iff.1 hu).1
    rw [List.getElem?_toArray]
    by_cases e : q = j
    · subst e
      rw [List.getElem?_set_self (by omega)] at hq
      injection hq with hq
      subst hq
      rw [List.getElem?_append_left (by rw [List.length_append, ht, hf]; omega), List.getElem?_append_right (by rw [ht]; omega), ht, show q * 11 + p - q * 11 = p by omega]
      exact hu
    · rw [List.getElem?_set_ne (fun e2 => e e2.symm)] at hq
      have h4 := c3 q x p u hq hu
      rcases Nat.lt_or_ge q j with h5 | h5
      · have h6 := Nat.mul_le_mul_right 11 (show q + 1 ≤ j from h5)
        rw [List.append_assoc, List.getElem?_append_left (by rw [ht]; omega), List.getElem?_take_of_lt (by omega), Array.getElem?_toList]
        exact h4
      · have h6 := Nat.mul_le_mul_right 11 (show j + 1 ≤ q by omega)
        rw [List.getElem?_append_right (by rw [List.length_append, ht, hf]; omega), List.length_append, ht, hf, List.getElem?_drop, show j * 11 + 11 + (q * 11 + p - (j * 11 + 11)) = q * 11 + p by omega, Array.getElem?_toList]
        exact h4
theorem wpList_val {P : Program} {ops : Array Oper} {rest : List Oper} {o : Oper} {a : Act} {w : World} {Q : Exit → Act → World → Prop} (hg : o.guard = none) (v : Value) (hr : (execOp a.eval o).run P w = .ok (.value v) w) (h : wpList P ops Q rest (a.put o.dst v) w) : wpList P ops Q (o :: rest) a w :=
  wpList_plain hg fun K hK => by
    unfold Oper.wp
    rw [hr]
    exact hK _ _ h
theorem swap_arg {w : World} {A : Option Addr} {n c : Nat} {i : Int} (hi : I64 i) (hn : n ≤ 14) (h : i < 0 ∨ (n : Int) - 2 < i) :
    Calls Tryd.prog 17 #[.slice A n c, .int .i64 i] w fun e w' => e = .returned (.tuple #[.slice none 0 0, .int .i64 1]) ∧ w' = w := by
  unfold I64 at hi
  by_cases h1 : i < 0
  · go_enter Tryd.func17, Tryd.ntmps17
    go_wp2_with fail
    go_ret2
    exact ⟨rfl, rfl⟩
  · have h2 : (n : Int) - 2 < i := by omega
    have h1' : ¬ (i < 0) := h1
    go_enter Tryd.func17, Tryd.ntmps17
    go_wp2_with fail
    go_ret2
    exact ⟨rfl, rfl⟩
theorem RB.low {W : World} {lo lo' g n c : Nat} {R : List DP.St} (h : RB W lo g n c R) (hl : lo' ≤ lo) : RB W lo' g n c R := ⟨h.len, h.nc, h.cap, Nat.le_trans hl h.lo, h.blk⟩
set_option maxRecDepth 100000 in
set_option maxHeartbeats 8000000 in
theorem swap_any {w : World} {A : Option Addr} {n c i : Nat} {R : List DP.St} {sa sb : DP.St} (hR : Run w A n c R) (hn : n ≤ 14) (hi : i + 1 < n) (ha : R[i]? = some sa) (hb : R[i + 1]? = some sb) :
    Calls Tryd.prog 17 #[.slice A n c, .int .i64 (i : Int)] w fun e w' => Below w.heap.size w w' ∧ ((DP.dep sa sb = true ∧ e = .returned (.tuple #[.slice none 0 0, .int .i64 5])) ∨ (DP.dep sa sb = false ∧ ∃ (g c' : Nat) (R1 : List DP.St) (ta tb : DP.St), e = .returned (.tuple #[.slice (some ⟨g, 0, none⟩) n c', .int .i64 0]) ∧ RB w' w.heap.size g n c' ((R1.set i tb).set (i + 1) ta) ∧ (∀ s ∈ (R1.set i tb).set (i + 1) ta, StG w' g s) ∧ R1.map DP.core = R.map DP.core ∧ R1[i]? = some ta ∧ R1[i + 1]? = some tb)) := by
  obtain ⟨g0, hg0, hgl, hda, hia⟩ := hR.at_ ha
  obtain ⟨g', hg', _, hdb, hib⟩ := hR.at_ hb
  rw [hg0] at hg'
  injection hg' with hg'
  injection hg' with hg'
  subst hg'
  subst hg0
  have HD : Hid (∀ V, Below w.heap.size w V → Calls Tryd.prog 22 #[stV sa, stV sb] V fun e w' => e = .returned (.bool (DP.dep sa sb)) ∧ Below V.heap.size V w') := fun V hV => dependent_any sa sb V (hia.keep hV) (hib.keep hV)
  obtain ⟨y, hy⟩ : ∃ y, DP.dep sa sb = y := ⟨_, rfl⟩
  rw [hy] at HD ⊢
  have HDA := Lib.hid hda
  have HDB := Lib.hid hdb
  have HCO := Lib.hid (fun V hV => copyOf_any (hR.keep (w' := V) hV) (by omega) hn)
  have HLA := Lib.hid ha
  have HLB := Lib.hid hb
  have hwi : IntKind.i64.wrap ((i : Int) + 1) = (i : Int) + 1 := by
    have h : (i : Int) + 1 = ((i + 1 : Nat) : Int) := by omega
    rw [h]
    simp [IntKind.wrap, IntKind.bits, IntKind.signed]
    omega
  have h1 : ¬ ((i : Int) < 0) := by omega
  have h2 : ¬ ((n : Int) - 2 < (i : Int)) := by omega
  clear hR hda hdb hia hib hy ha hb
  go_enter Tryd.func17, Tryd.ntmps17
  go_upto_region 3 with (fail)
  refine RgX.region 10 (fun i => ( 16 + i)) (fun ix_ => match ix_ with | 0 => .v (.slice (some ⟨g0, 0, none⟩) n c) | 1 => .v (.int .i64 (i : Int)) | 2 => .v (.pointer (some ⟨g0, i * 11, none⟩)) | 3 => .v (.agg #[.int .i64 sa.ev.k, .int .i64 sa.ev.n, .int .i64 sa.ev.a, .int .i64 sa.ev.m.c, .int .i64 sa.ev.m.h, .int .i64 sa.ev.m.t, .int .i64 sa.ev.m.i, .int .i64 sa.ev.m.p, .slice sa.qB sa.qs.length sa.qc, .bool sa.ob, .slice sa.sB sa.ms.length sa.sc]) | 4 => .v (.slice (some ⟨g0, 0, none⟩) n c) | 5 => .v (.int .i64 (i : Int)) | 6 => .v (.int .i64 ((i : Int) + 1)) | 7 => .v (.pointer (some ⟨g0, (i + 1) * 11, none⟩)) | 8 => .v (.agg #[.int .i64 sb.ev.k, .int .i64 sb.ev.n, .int .i64 sb.ev.a, .int .i64 sb.ev.m.c, .int .i64 sb.ev.m.h, .int .i64 sb.ev.m.t, .int .i64 sb.ev.m.i, .int .i64 sb.ev.m.p, .slice sb.qB sb.qs.length sb.qc, .bool sb.ob, .slice sb.sB sb.ms.length sb.sc]) | 9 => .v (.bool y) | _ => .any) (by kernel_rfl) rfl (by kernel_rfl)  (fun i hi => by show ( 16 + i) < 45; (repeat' split) <;> omega) (fun i j hi hj => by show ( 16 + i) = ( 16 + j) → i = j; (repeat' split) <;> omega) ?step ?fin
  case step =>
    intro L_ A_ w3 ix op_ hI ho hdep
    have hi : ix < 10 := (Array.getElem?_eq_some_iff.1 ho).1
    have hcase : ix = 0 ∨ ix = 1 ∨ ix = 2 ∨ ix = 3 ∨ ix = 4 ∨ ix = 5 ∨ ix = 6 ∨ ix = 7 ∨ ix = 8 ∨ ix = 9 := by omega
    have hh := hI.held
    clear hi
    rcases hcase with rfl | rfl | rfl | rfl | rfl | rfl | rfl | rfl | rfl | rfl
    · simp only [List.getElem?_toArray, List.getElem?_cons_zero, Option.some.injEq] at ho
      subst ho
      refine ⟨rfl, ?_⟩
      have e0 : A_.tmps[0]?.getD undef = .slice (some ⟨g0, 0, none⟩) n c := by rw [hI.low 0 (by decide)]; rfl
      clear hI hdep
      exact .run rfl (.slice (some ⟨g0, 0, none⟩) n c) w3 (by simp [execOp, go_sem, Act.eval, e0]) (Below.refl _ _) rfl
    · simp only [List.getElem?_toArray, List.getElem?_cons_succ, List.getElem?_cons_zero, Option.some.injEq] at ho
      subst ho
      refine ⟨rfl, ?_⟩
      have e1 : A_.tmps[1]?.getD undef = .int .i64 (i : Int) := by rw [hI.low 1 (by decide)]; rfl
      clear hI hdep
      exact .run rfl (.int .i64 (i : Int)) w3 (by simp [execOp, go_sem, Act.eval, e1]) (Below.refl _ _) rfl
    · simp only [List.getElem?_toArray, List.getElem?_cons_succ, List.getElem?_cons_zero, Option.some.injEq] at ho
      subst ho
      refine ⟨rfl, ?_⟩
      have e16 : A_.tmps[16]?.getD undef = .slice (some ⟨g0, 0, none⟩) n c := getD_of (hI.val_ (i := 0) rfl rfl (by decide) (hdep ⟨0, .data⟩ (by simp) rfl))
      have e17 : A_.tmps[17]?.getD undef = .int .i64 (i : Int) := getD_of (hI.val_ (i := 1) rfl rfl (by decide) (hdep ⟨1, .data⟩ (by simp) rfl))
      clear hI hdep
      exact .run rfl (.pointer (some ⟨g0, i * 11, none⟩)) w3 (by simp [execOp, go_sem, Act.eval, e16, e17]; omega) (Below.refl _ _) rfl
    · simp only [List.getElem?_toArray, List.getElem?_cons_succ, List.getElem?_cons_zero, Option.some.injEq] at ho
      subst ho
      refine ⟨rfl, ?_⟩
      have e18 : A_.tmps[18]?.getD undef = .pointer (some ⟨g0, i * 11, none⟩) := getD_of (hI.val_ (i := 2) rfl rfl (by decide) (hdep ⟨2, .data⟩ (by simp) rfl))
      clear hI hdep
      obtain ⟨d0, d1, d2, d3, d4, d5, d6, d7, d8, d9, d10⟩ := HDA.out.keep hgl hh
      exact .run rfl (.agg #[.int .i64 sa.ev.k, .int .i64 sa.ev.n, .int .i64 sa.ev.a, .int .i64 sa.ev.m.c, .int .i64 sa.ev.m.h, .int .i64 sa.ev.m.t, .int .i64 sa.ev.m.i, .int .i64 sa.ev.m.p, .slice sa.qB sa.qs.length sa.qc, .bool sa.ob, .slice sa.sB sa.ms.length sa.sc]) w3 (by simp [execOp, go_sem, Act.eval, e18, d0, d1, d2, d3, d4, d5, d6, d7, d8, d9, d10]) (Below.refl _ _) rfl
    · simp only [List.getElem?_toArray, List.getElem?_cons_succ, List.getElem?_cons_zero, Option.some.injEq] at ho
      subst ho
      refine ⟨rfl, ?_⟩
      have e0 : A_.tmps[0]?.getD undef = .slice (some ⟨g0, 0, none⟩) n c := by rw [hI.low 0 (by decide)]; rfl
      clear hI hdep
      exact .run rfl (.slice (some ⟨g0, 0, none⟩) n c) w3 (by simp [execOp, go_sem, Act.eval, e0]) (Below.refl _ _) rfl
    · simp only [List.getElem?_toArray, List.getElem?_cons_succ, List.getElem?_cons_zero, Option.some.injEq] at ho
      subst ho
      refine ⟨rfl, ?_⟩
      have e1 : A_.tmps[1]?.getD undef = .int .i64 (i : Int) := by rw [hI.low 1 (by decide)]; rfl
      clear hI hdep
      exact .run rfl (.int .i64 (i : Int)) w3 (by simp [execOp, go_sem, Act.eval, e1]) (Below.refl _ _) rfl
    · simp only [List.getElem?_toArray, List.getElem?_cons_succ, List.getElem?_cons_zero, Option.some.injEq] at ho
      subst ho
      refine ⟨rfl, ?_⟩
      have e21 : A_.tmps[21]?.getD undef = .int .i64 (i : Int) := getD_of (hI.val_ (i := 5) rfl rfl (by decide) (hdep ⟨5, .data⟩ (by simp) rfl))
      clear hI hdep
      exact .run rfl (.int .i64 ((i : Int) + 1)) w3 (by simp [execOp, go_sem, Act.eval, e21]; exact hwi) (Below.refl _ _) rfl
    · simp only [List.getElem?_toArray, List.getElem?_cons_succ, List.getElem?_cons_zero, Option.some.injEq] at ho
      subst ho
      refine ⟨rfl, ?_⟩
      have e20 : A_.tmps[20]?.getD undef = .slice (some ⟨g0, 0, none⟩) n c := getD_of (hI.val_ (i := 4) rfl rfl (by decide) (hdep ⟨4, .data⟩ (by simp) rfl))
      have e22 : A_.tmps[22]?.getD undef = .int .i64 ((i : Int) + 1) := getD_of (hI.val_ (i := 6) rfl rfl (by decide) (hdep ⟨6, .data⟩ (by simp) rfl))
      clear hI hdep
      have g1 : (0 : Int) ≤ (i : Int) + 1 := by omega
      have g2 : (i : Int) + 1 < (n : Int) := by omega
      have g3 : ((i : Int) + 1).toNat = i + 1 := by omega
      exact .run rfl (.pointer (some ⟨g0, (i + 1) * 11, none⟩)) w3 (by simp [execOp, go_sem, Act.eval, e20, e22, g1, g2, g3]) (Below.refl _ _) rfl
    · simp only [List.getElem?_toArray, List.getElem?_cons_succ, List.getElem?_cons_zero, Option.some.injEq] at ho
      subst ho
      refine ⟨rfl, ?_⟩
      have e23 : A_.tmps[23]?.getD undef = .pointer (some ⟨g0, (i + 1) * 11, none⟩) := getD_of (hI.val_ (i := 7) rfl rfl (by decide) (hdep ⟨7, .data⟩ (by simp) rfl))
      clear hI hdep
      obtain ⟨d0, d1, d2, d3, d4, d5, d6, d7, d8, d9, d10⟩ := HDB.out.keep hgl hh
      exact .run rfl (.agg #[.int .i64 sb.ev.k, .int .i64 sb.ev.n, .int .i64 sb.ev.a, .int .i64 sb.ev.m.c, .int .i64 sb.ev.m.h, .int .i64 sb.ev.m.t, .int .i64 sb.ev.m.i, .int .i64 sb.ev.m.p, .slice sb.qB sb.qs.length sb.qc, .bool sb.ob, .slice sb.sB sb.ms.length sb.sc]) w3 (by simp [execOp, go_sem, Act.eval, e23, d0, d1, d2, d3, d4, d5, d6, d7, d8, d9, d10]) (Below.refl _ _) rfl
    · simp only [List.getElem?_toArray, List.getElem?_cons_succ, List.getElem?_cons_zero, Option.some.injEq] at ho
      subst ho
      refine ⟨rfl, ?_⟩
      have e19 : A_.tmps[19]?.getD undef = .agg #[.int .i64 sa.ev.k, .int .i64 sa.ev.n, .int .i64 sa.ev.a, .int .i64 sa.ev.m.c, .int .i64 sa.ev.m.h, .int .i64 sa.ev.m.t, .int .i64 sa.ev.m.i, .int .i64 sa.ev.m.p, .slice sa.qB sa.qs.length sa.qc, .bool sa.ob, .slice sa.sB sa.ms.length sa.sc] := getD_of (hI.val_ (i := 3) rfl rfl (by decide) (hdep ⟨3, .data⟩ (by simp) rfl))
      have e24 : A_.tmps[24]?.getD undef = .agg #[.int .i64 sb.ev.k, .int .i64 sb.ev.n, .int .i64 sb.ev.a, .int .i64 sb.ev.m.c, .int .i64 sb.ev.m.h, .int .i64 sb.ev.m.t, .int .i64 sb.ev.m.i, .int .i64 sb.ev.m.p, .slice sb.qB sb.qs.length sb.qc, .bool sb.ob, .slice sb.sB sb.ms.length sb.sc] := getD_of (hI.val_ (i := 8) rfl rfl (by decide) (hdep ⟨8, .data⟩ (by simp) rfl))
      clear hI hdep
      exact .call rfl 22 #[.agg #[.int .i64 sa.ev.k, .int .i64 sa.ev.n, .int .i64 sa.ev.a, .int .i64 sa.ev.m.c, .int .i64 sa.ev.m.h, .int .i64 sa.ev.m.t, .int .i64 sa.ev.m.i, .int .i64 sa.ev.m.p, .slice sa.qB sa.qs.length sa.qc, .bool sa.ob, .slice sa.sB sa.ms.length sa.sc], .agg #[.int .i64 sb.ev.k, .int .i64 sb.ev.n, .int .i64 sb.ev.a, .int .i64 sb.ev.m.c, .int .i64 sb.ev.m.h, .int .i64 sb.ev.m.t, .int .i64 sb.ev.m.i, .int .i64 sb.ev.m.p, .slice sb.qB sb.qs.length sb.qc, .bool sb.ob, .slice sb.sB sb.ms.length sb.sc]] (by simp [go_sem, Act.eval, e19, e24]) ((HD.out w3 hh).mono fun _ _ ⟨h1_, h2_⟩ => ⟨⟨_, h1_, rfl⟩, h2_⟩)
  case fin =>
  intro A_ w3 hs hd hlow hS hok
  obtain rfl : A_ = ⟨#[.slice (some ⟨g0, 0, none⟩) n c, .int .i64 (i : Int), undef, undef, .slice none 0 0, .int .i64 0, undef, .int .i64 (i : Int), .bool false, .bool false, .int .i64 (i : Int), .slice (some ⟨g0, 0, none⟩) n c, .int .i64 (n : Int), .int .i64 ((n : Int) - 2), .bool false, .bool false, .slice (some ⟨g0, 0, none⟩) n c, .int .i64 (i : Int), .pointer (some ⟨g0, i * 11, none⟩), .agg #[.int .i64 sa.ev.k, .int .i64 sa.ev.n, .int .i64 sa.ev.a, .int .i64 sa.ev.m.c, .int .i64 sa.ev.m.h, .int .i64 sa.ev.m.t, .int .i64 sa.ev.m.i, .int .i64 sa.ev.m.p, .slice sa.qB sa.qs.length sa.qc, .bool sa.ob, .slice sa.sB sa.ms.length sa.sc], .slice (some ⟨g0, 0, none⟩) n c, .int .i64 (i : Int), .int .i64 ((i : Int) + 1), .pointer (some ⟨g0, (i + 1) * 11, none⟩), .agg #[.int .i64 sb.ev.k, .int .i64 sb.ev.n, .int .i64 sb.ev.a, .int .i64 sb.ev.m.c, .int .i64 sb.ev.m.h, .int .i64 sb.ev.m.t, .int .i64 sb.ev.m.i, .int .i64 sb.ev.m.p, .slice sb.qB sb.qs.length sb.qc, .bool sb.ob, .slice sb.sB sb.ms.length sb.sc], .bool y, undef, undef, undef, undef, undef, undef, undef, undef, undef, undef, undef, undef, undef, undef, undef, undef, undef, undef, undef], []⟩ := act_ext hd hs (fun j hj => match j, hj with | 0, _ => (hlow 0 (by decide)).trans rfl | 1, _ => (hlow 1 (by decide)).trans rfl | 2, _ => (hlow 2 (by decide)).trans rfl | 3, _ => (hlow 3 (by decide)).trans rfl | 4, _ => (hlow 4 (by decide)).trans rfl | 5, _ => (hlow 5 (by decide)).trans rfl | 6, _ => (hlow 6 (by decide)).trans rfl | 7, _ => (hlow 7 (by decide)).trans rfl | 8, _ => (hlow 8 (by decide)).trans rfl | 9, _ => (hlow 9 (by decide)).trans rfl | 10, _ => (hlow 10 (by decide)).trans rfl | 11, _ => (hlow 11 (by decide)).trans rfl | 12, _ => (hlow 12 (by decide)).trans rfl | 13, _ => (hlow 13 (by decide)).trans rfl | 14, _ => (hlow 14 (by decide)).trans rfl | 15, _ => (hlow 15 (by decide)).trans rfl | 16, _ => RgX.val_at (hok 0 16 _ (by decide) rfl rfl) | 17, _ => RgX.val_at (hok 1 17 _ (by decide) rfl rfl) | 18, _ => RgX.val_at (hok 2 18 _ (by decide) rfl rfl) | 19, _ => RgX.val_at (hok 3 19 _ (by decide) rfl rfl) | 20, _ => RgX.val_at (hok 4 20 _ (by decide) rfl rfl) | 21, _ => RgX.val_at (hok 5 21 _ (by decide) rfl rfl) | 22, _ => RgX.val_at (hok 6 22 _ (by decide) rfl rfl) | 23, _ => RgX.val_at (hok 7 23 _ (by decide) rfl rfl) | 24, _ => RgX.val_at (hok 8 24 _ (by decide) rfl rfl) | 25, _ => RgX.val_at (hok 9 25 _ (by decide) rfl rfl) | 26, _ => (hlow 26 (by decide)).trans rfl | 27, _ => (hlow 27 (by decide)).trans rfl | 28, _ => (hlow 28 (by decide)).trans rfl | 29, _ => (hlow 29 (by decide)).trans rfl | 30, _ => (hlow 30 (by decide)).trans rfl | 31, _ => (hlow 31 (by decide)).trans rfl | 32, _ => (hlow 32 (by decide)).trans rfl | 33, _ => (hlow 33 (by decide)).trans rfl | 34, _ => (hlow 34 (by decide)).trans rfl | 35, _ => (hlow 35 (by decide)).trans rfl | 36, _ => (hlow 36 (by decide)).trans rfl | 37, _ => (hlow 37 (by decide)).trans rfl | 38, _ => (hlow 38 (by decide)).trans rfl | 39, _ => (hlow 39 (by decide)).trans rfl | 40, _ => (hlow 40 (by decide)).trans rfl | 41, _ => (hlow 41 (by decide)).trans rfl | 42, _ => (hlow 42 (by decide)).trans rfl | 43, _ => (hlow 43 (by decide)).trans rfl | 44, _ => (hlow 44 (by decide)).trans rfl | n + 45, h => absurd h (by show ¬ n + 45 < 45; omega))
  clear hs hd hlow hok 
  obtain ⟨v3, hv3⟩ : ∃ V, V = w3 := ⟨_, rfl⟩
  subst hv3
  have HB3 := Lib.hid hS
  have HC3 := Lib.hid (HCO.out v3 hS)
  clear HD HDA HDB HCO hS hgl
  cases y
  · go_upto_region 6 with (first
      | (go_at_call 32
         refine HC3.out.mono ?_
         clear HC3
         rintro e w4 ⟨g, c4, R1, rfl, hrb, hin, hco, hb4⟩
         have HRB := Lib.hid hrb
         have HIN := Lib.hid hin
         have HCR := Lib.hid hco
         have HB4 := Lib.hid (HB3.out.trans (hb4.mono HB3.out.size))
         clear hrb hin hco hb4))
    have hlen1 : R1.length = n := HRB.out.len
    obtain ⟨ta, hta⟩ : ∃ s, R1[i]? = some s := ⟨_, List.getElem?_eq_getElem (by omega)⟩
    obtain ⟨tb, htb⟩ : ∃ s, R1[i + 1]? = some s := ⟨_, List.getElem?_eq_getElem (by omega)⟩
    have HTA := Lib.hid hta
    have HTB := Lib.hid htb
    clear hta htb hlen1
    refine RgX.tailFK 15 18 (fun i => ( 28 + i)) (fun ix_ => match ix_ with | 0 => .v (.slice (some ⟨g, 0, none⟩) n c4) | 1 => .v (.int .i64 (i : Int)) | 2 => .v (.slice (some ⟨g, 0, none⟩) n c4) | 3 => .v (.int .i64 (i : Int)) | 4 => .v (.int .i64 ((i : Int) + 1)) | 5 => .v (.slice (some ⟨g, 0, none⟩) n c4) | 6 => .v (.int .i64 (i : Int)) | 7 => .v (.int .i64 ((i : Int) + 1)) | 8 => .v (.pointer (some ⟨g, (i + 1) * 11, none⟩)) | 9 => .v (.agg #[.int .i64 tb.ev.k, .int .i64 tb.ev.n, .int .i64 tb.ev.a, .int .i64 tb.ev.m.c, .int .i64 tb.ev.m.h, .int .i64 tb.ev.m.t, .int .i64 tb.ev.m.i, .int .i64 tb.ev.m.p, .slice tb.qB tb.qs.length tb.qc, .bool tb.ob, .slice tb.sB tb.ms.length tb.sc]) | 10 => .v (.slice (some ⟨g, 0, none⟩) n c4) | 11 => .v (.int .i64 (i : Int)) | 12 => .v (.pointer (some ⟨g, i * 11, none⟩)) | 13 => .v (.agg #[.int .i64 ta.ev.k, .int .i64 ta.ev.n, .int .i64 ta.ev.a, .int .i64 ta.ev.m.c, .int .i64 ta.ev.m.h, .int .i64 ta.ev.m.t, .int .i64 ta.ev.m.i, .int .i64 ta.ev.m.p, .slice ta.qB ta.qs.length ta.qc, .bool ta.ob, .slice ta.sB ta.ms.length ta.sc]) | 14 => .v (.pointer (some ⟨g, i * 11, none⟩)) | _ => .any) [2, 3, 4] (fun ix_ => match ix_ with | 2 => .slice (some ⟨g, 0, none⟩) n c4 | 3 => .int .i64 (i : Int) | 4 => .int .i64 ((i : Int) + 1) | _ => undef) _ (fun a1_ w_ => a1_.tmps[41]? = some (stV ta) ∧ a1_.tmps[6]? = some (.slice (some ⟨g, 0, none⟩) n c4) ∧ a1_.tmps[1]? = some (.int .i64 (i : Int)) ∧ RB w_ v3.heap.size g n c4 (R1.set i tb) ∧ (∀ x ∈ R1.set i tb, StG w_ g x) ∧ StG w_ g ta ∧ Below w.heap.size w w_) (by kernel_rfl) rfl (by decide) rfl (by kernel_rfl) (by kernel_rfl) (by kernel_rfl) (by decide) (fun i hi => by show ( 28 + i) < 45; (repeat' split) <;> omega) (fun i j hi hj => by show ( 28 + i) = ( 28 + j) → i = j; (repeat' split) <;> omega) ?step ?sto ?flo ?hF ?fin
    case step =>
      intro L_ A_ w3 ix op_ hi hI ho hdep
      have hcase : ix = 0 ∨ ix = 1 ∨ ix = 2 ∨ ix = 3 ∨ ix = 4 ∨ ix = 5 ∨ ix = 6 ∨ ix = 7 ∨ ix = 8 ∨ ix = 9 ∨ ix = 10 ∨ ix = 11 ∨ ix = 12 ∨ ix = 13 ∨ ix = 14 := by omega
      have hh := hI.held
      clear hi
      rcases hcase with rfl | rfl | rfl | rfl | rfl | rfl | rfl | rfl | rfl | rfl | rfl | rfl | rfl | rfl | rfl
      · simp only [List.getElem?_toArray, List.getElem?_cons_zero, Option.some.injEq] at ho
        subst ho
        refine ⟨rfl, ?_⟩
        have e6 : A_.tmps[6]?.getD undef = .slice (some ⟨g, 0, none⟩) n c4 := by rw [hI.low 6 (by decide)]; rfl
        clear hI hdep
        exact .run rfl (.slice (some ⟨g, 0, none⟩) n c4) w3 (by simp [execOp, go_sem, Act.eval, e6]) (Below.refl _ _) rfl
      · simp only [List.getElem?_toArray, List.getElem?_cons_succ, List.getElem?_cons_zero, Option.some.injEq] at ho
        subst ho
        refine ⟨rfl, ?_⟩
        have e1 : A_.tmps[1]?.getD undef = .int .i64 (i : Int) := by rw [hI.low 1 (by decide)]; rfl
        clear hI hdep
        exact .run rfl (.int .i64 (i : Int)) w3 (by simp [execOp, go_sem, Act.eval, e1]) (Below.refl _ _) rfl
      · simp only [List.getElem?_toArray, List.getElem?_cons_succ, List.getElem?_cons_zero, Option.some.injEq] at ho
        subst ho
        refine ⟨rfl, ?_⟩
        have e6 : A_.tmps[6]?.getD undef = .slice (some ⟨g, 0, none⟩) n c4 := by rw [hI.low 6 (by decide)]; rfl
        clear hI hdep
        exact .run rfl (.slice (some ⟨g, 0, none⟩) n c4) w3 (by simp [execOp, go_sem, Act.eval, e6]) (Below.refl _ _) rfl
      · simp only [List.getElem?_toArray, List.getElem?_cons_succ, List.getElem?_cons_zero, Option.some.injEq] at ho
        subst ho
        refine ⟨rfl, ?_⟩
        have e1 : A_.tmps[1]?.getD undef = .int .i64 (i : Int) := by rw [hI.low 1 (by decide)]; rfl
        clear hI hdep
        exact .run rfl (.int .i64 (i : Int)) w3 (by simp [execOp, go_sem, Act.eval, e1]) (Below.refl _ _) rfl
      · simp only [List.getElem?_toArray, List.getElem?_cons_succ, List.getElem?_cons_zero, Option.some.injEq] at ho
        subst ho
        refine ⟨rfl, ?_⟩
        have e31 : A_.tmps[31]?.getD undef = .int .i64 (i : Int) := getD_of (hI.val_ (i := 3) rfl rfl (by decide) (hdep ⟨3, .data⟩ (by simp) rfl))
        clear hI hdep
        exact .run rfl (.int .i64 ((i : Int) + 1)) w3 (by simp [execOp, go_sem, Act.eval, e31]; exact hwi) (Below.refl _ _) rfl
      · simp only [List.getElem?_toArray, List.getElem?_cons_succ, List.getElem?_cons_zero, Option.some.injEq] at ho
        subst ho
        refine ⟨rfl, ?_⟩
        have e6 : A_.tmps[6]?.getD undef = .slice (some ⟨g, 0, none⟩) n c4 := by rw [hI.low 6 (by decide)]; rfl
        clear hI hdep
        exact .run rfl (.slice (some ⟨g, 0, none⟩) n c4) w3 (by simp [execOp, go_sem, Act.eval, e6]) (Below.refl _ _) rfl
      · simp only [List.getElem?_toArray, List.getElem?_cons_succ, List.getElem?_cons_zero, Option.some.injEq] at ho
        subst ho
        refine ⟨rfl, ?_⟩
        have e1 : A_.tmps[1]?.getD undef = .int .i64 (i : Int) := by rw [hI.low 1 (by decide)]; rfl
        clear hI hdep
        exact .run rfl (.int .i64 (i : Int)) w3 (by simp [execOp, go_sem, Act.eval, e1]) (Below.refl _ _) rfl
      · simp only [List.getElem?_toArray, List.getElem?_cons_succ, List.getElem?_cons_zero, Option.some.injEq] at ho
        subst ho
        refine ⟨rfl, ?_⟩
        have e34 : A_.tmps[34]?.getD undef = .int .i64 (i : Int) := getD_of (hI.val_ (i := 6) rfl rfl (by decide) (hdep ⟨6, .data⟩ (by simp) rfl))
        clear hI hdep
        exact .run rfl (.int .i64 ((i : Int) + 1)) w3 (by simp [execOp, go_sem, Act.eval, e34]; exact hwi) (Below.refl _ _) rfl
      · simp only [List.getElem?_toArray, List.getElem?_cons_succ, List.getElem?_cons_zero, Option.some.injEq] at ho
        subst ho
        refine ⟨rfl, ?_⟩
        have e33 : A_.tmps[33]?.getD undef = .slice (some ⟨g, 0, none⟩) n c4 := getD_of (hI.val_ (i := 5) rfl rfl (by decide) (hdep ⟨5, .data⟩ (by simp) rfl))
        have e35 : A_.tmps[35]?.getD undef = .int .i64 ((i : Int) + 1) := getD_of (hI.val_ (i := 7) rfl rfl (by decide) (hdep ⟨7, .data⟩ (by simp) rfl))
        clear hI hdep
        have g1 : (0 : Int) ≤ (i : Int) + 1 := by omega
        have g2 : (i : Int) + 1 < (n : Int) := by omega
        have g3 : ((i : Int) + 1).toNat = i + 1 := by omega
        exact .run rfl (.pointer (some ⟨g, (i + 1) * 11, none⟩)) w3 (by simp [execOp, go_sem, Act.eval, e33, e35, g1, g2, g3]) (Below.refl _ _) rfl
      · simp only [List.getElem?_toArray, List.getElem?_cons_succ, List.getElem?_cons_zero, Option.some.injEq] at ho
        subst ho
        refine ⟨rfl, ?_⟩
        have e36 : A_.tmps[36]?.getD undef = .pointer (some ⟨g, (i + 1) * 11, none⟩) := getD_of (hI.val_ (i := 8) rfl rfl (by decide) (hdep ⟨8, .data⟩ (by simp) rfl))
        clear hI hdep
        obtain ⟨d0, d1, d2, d3, d4, d5, d6, d7, d8, d9, d10⟩ := (HRB.out.keep hh).at_ HTB.out
        exact .run rfl (.agg #[.int .i64 tb.ev.k, .int .i64 tb.ev.n, .int .i64 tb.ev.a, .int .i64 tb.ev.m.c, .int .i64 tb.ev.m.h, .int .i64 tb.ev.m.t, .int .i64 tb.ev.m.i, .int .i64 tb.ev.m.p, .slice tb.qB tb.qs.length tb.qc, .bool tb.ob, .slice tb.sB tb.ms.length tb.sc]) w3 (by simp [execOp, go_sem, Act.eval, e36, d0, d1, d2, d3, d4, d5, d6, d7, d8, d9, d10]) (Below.refl _ _) rfl
      · simp only [List.getElem?_toArray, List.getElem?_cons_succ, List.getElem?_cons_zero, Option.some.injEq] at ho
        subst ho
        refine ⟨rfl, ?_⟩
        have e6 : A_.tmps[6]?.getD undef = .slice (some ⟨g, 0, none⟩) n c4 := by rw [hI.low 6 (by decide)]; rfl
        clear hI hdep
        exact .run rfl (.slice (some ⟨g, 0, none⟩) n c4) w3 (by simp [execOp, go_sem, Act.eval, e6]) (Below.refl _ _) rfl
      · simp only [List.getElem?_toArray, List.getElem?_cons_succ, List.getElem?_cons_zero, Option.some.injEq] at ho
        subst ho
        refine ⟨rfl, ?_⟩
        have e1 : A_.tmps[1]?.getD undef = .int .i64 (i : Int) := by rw [hI.low 1 (by decide)]; rfl
        clear hI hdep
        exact .run rfl (.int .i64 (i : Int)) w3 (by simp [execOp, go_sem, Act.eval, e1]) (Below.refl _ _) rfl
      · simp only [List.getElem?_toArray, List.getElem?_cons_succ, List.getElem?_cons_zero, Option.some.injEq] at ho
        subst ho
        refine ⟨rfl, ?_⟩
        have e38 : A_.tmps[38]?.getD undef = .slice (some ⟨g, 0, none⟩) n c4 := getD_of (hI.val_ (i := 10) rfl rfl (by decide) (hdep ⟨10, .data⟩ (by simp) rfl))
        have e39 : A_.tmps[39]?.getD undef = .int .i64 (i : Int) := getD_of (hI.val_ (i := 11) rfl rfl (by decide) (hdep ⟨11, .data⟩ (by simp) rfl))
        clear hI hdep
        exact .run rfl (.pointer (some ⟨g, i * 11, none⟩)) w3 (by simp [execOp, go_sem, Act.eval, e38, e39]; omega) (Below.refl _ _) rfl
      · simp only [List.getElem?_toArray, List.getElem?_cons_succ, List.getElem?_cons_zero, Option.some.injEq] at ho
        subst ho
        refine ⟨rfl, ?_⟩
        have e40 : A_.tmps[40]?.getD undef = .pointer (some ⟨g, i * 11, none⟩) := getD_of (hI.val_ (i := 12) rfl rfl (by decide) (hdep ⟨12, .data⟩ (by simp) rfl))
        clear hI hdep
        obtain ⟨d0, d1, d2, d3, d4, d5, d6, d7, d8, d9, d10⟩ := (HRB.out.keep hh).at_ HTA.out
        exact .run rfl (.agg #[.int .i64 ta.ev.k, .int .i64 ta.ev.n, .int .i64 ta.ev.a, .int .i64 ta.ev.m.c, .int .i64 ta.ev.m.h, .int .i64 ta.ev.m.t, .int .i64 ta.ev.m.i, .int .i64 ta.ev.m.p, .slice ta.qB ta.qs.length ta.qc, .bool ta.ob, .slice ta.sB ta.ms.length ta.sc]) w3 (by simp [execOp, go_sem, Act.eval, e40, d0, d1, d2, d3, d4, d5, d6, d7, d8, d9, d10]) (Below.refl _ _) rfl
      · simp only [List.getElem?_toArray, List.getElem?_cons_succ, List.getElem?_cons_zero, Option.some.injEq] at ho
        subst ho
        refine ⟨rfl, ?_⟩
        have e28 : A_.tmps[28]?.getD undef = .slice (some ⟨g, 0, none⟩) n c4 := getD_of (hI.val_ (i := 0) rfl rfl (by decide) (hdep ⟨0, .data⟩ (by simp) rfl))
        have e29 : A_.tmps[29]?.getD undef = .int .i64 (i : Int) := getD_of (hI.val_ (i := 1) rfl rfl (by decide) (hdep ⟨1, .data⟩ (by simp) rfl))
        clear hI hdep
        exact .run rfl (.pointer (some ⟨g, i * 11, none⟩)) w3 (by simp [execOp, go_sem, Act.eval, e28, e29]; omega) (Below.refl _ _) rfl
    case sto =>
      intro A_ w3 hs hlow hh hok
      have q37 := RgX.val_at (hok 9 37 _ (by decide) (by decide) rfl rfl)
      have q41 := RgX.val_at (hok 13 41 _ (by decide) (by decide) rfl rfl)
      have q42 := RgX.val_at (hok 14 42 _ (by decide) (by decide) rfl rfl)
      have q6 : A_.tmps[6]? = some (.slice (some ⟨g, 0, none⟩) n c4) := (hlow 6 (by decide)).trans rfl
      have q1 : A_.tmps[1]? = some (.int .i64 (i : Int)) := (hlow 1 (by decide)).trans rfl
      have e42 := getD_of q42
      have e37 := getD_of q37
      have hr := HRB.out.keep hh
      obtain ⟨C, c1, c2, c3⟩ := hr.blk
      refine ⟨rfl, rfl, ?_⟩
      refine store_seg_ex (P := Tryd.prog) 52 (.tmp 42) (.tmp 37) rfl g (i * 11) (stV tb) (by simpa [Act.eval] using e42) (by simpa [Act.eval] using e37) 52 C c1 (by kernel_rfl) (by show i * 11 + 11 ≤ C.size; omega) (by simp [Value.cells, Value.oneCell']) _ rfl fun W' k1 k2 k3 k4 => ?_
      have hlo := HRB.out.lo
      have hsz := HB3.out.size
      exact ⟨q41, q6, q1, hr.seg (by omega) c1 k1, all_set (fun x hx => ((HIN.out x hx).keep hh).ne (by omega) k2) (((HIN.out tb (List.mem_of_getElem? HTB.out)).keep hh).ne (by omega) k2), ((HIN.out ta (List.mem_of_getElem? HTA.out)).keep hh).ne (by omega) k2, (HB4.out.trans (hh.mono HB4.out.size)).trans (k4.mono (by omega))⟩
    case flo =>
      intro i_ o_ A_ a1_ w3 hi ho hG hag hdl
      simp only [List.mem_cons, List.not_mem_nil, or_false] at hi
      rcases hi with rfl | rfl | rfl
      · simp only [List.getElem?_toArray, List.getElem?_cons_succ, List.getElem?_cons_zero, Option.some.injEq] at ho
        subst ho
        obtain ⟨k41, k6, k1, _⟩ := hG
        have e1 : A_.tmps[6]?.getD undef = .slice (some ⟨g, 0, none⟩) n c4 := getD_of ((hag 6 (by decide)).trans k6)
        exact ⟨rfl, rfl, by simp [execOp, go_sem, Act.eval, e1]⟩
      · simp only [List.getElem?_toArray, List.getElem?_cons_succ, List.getElem?_cons_zero, Option.some.injEq] at ho
        subst ho
        obtain ⟨k41, k6, k1, _⟩ := hG
        have e1 : A_.tmps[1]?.getD undef = .int .i64 (i : Int) := getD_of ((hag 1 (by decide)).trans k1)
        exact ⟨rfl, rfl, by simp [execOp, go_sem, Act.eval, e1]⟩
      · simp only [List.getElem?_toArray, List.getElem?_cons_succ, List.getElem?_cons_zero, Option.some.injEq] at ho
        subst ho
        have e1 : A_.tmps[31]?.getD undef = .int .i64 (i : Int) := getD_of (hdl 3 (by decide) (by decide))
        exact ⟨rfl, rfl, by simp [execOp, go_sem, Act.eval, e1]; exact hwi⟩
    case hF =>
      intro i_ hi w_ y_ h_
      simp only [List.mem_cons, List.not_mem_nil, or_false] at hi
      rcases hi with rfl | rfl | rfl
      · exact h_
      · exact h_
      · exact h_
    case fin =>
    intro A_ a1_ w3 hs hd hlow hG hag hfl hex
    obtain ⟨k41_, k6_, k1_, hrb2, hin2, hta2, hbl2⟩ := hG
    obtain ⟨z28, hz28⟩ := hex 0 28 (by decide) rfl
    obtain ⟨z29, hz29⟩ := hex 1 29 (by decide) rfl
    obtain ⟨z33, hz33⟩ := hex 5 33 (by decide) rfl
    obtain ⟨z34, hz34⟩ := hex 6 34 (by decide) rfl
    obtain ⟨z35, hz35⟩ := hex 7 35 (by decide) rfl
    obtain ⟨z36, hz36⟩ := hex 8 36 (by decide) rfl
    obtain ⟨z37, hz37⟩ := hex 9 37 (by decide) rfl
    obtain ⟨z38, hz38⟩ := hex 10 38 (by decide) rfl
    obtain ⟨z39, hz39⟩ := hex 11 39 (by decide) rfl
    obtain ⟨z40, hz40⟩ := hex 12 40 (by decide) rfl
    obtain ⟨z42, hz42⟩ := hex 14 42 (by decide) rfl
    obtain rfl : A_ = ⟨#[.slice (some ⟨g0, 0, none⟩) n c, .int .i64 (i : Int), undef, undef, .slice none 0 0, .int .i64 0, .slice (some ⟨g, 0, none⟩) n c4, .int .i64 (i : Int), .bool false, .bool false, .int .i64 (i : Int), .slice (some ⟨g0, 0, none⟩) n c, .int .i64 (n : Int), .int .i64 ((n : Int) - 2), .bool false, .bool false, .slice (some ⟨g0, 0, none⟩) n c, .int .i64 (i : Int), .pointer (some { block := g0, off := i * 11 }), .agg #[.int .i64 sa.ev.k, .int .i64 sa.ev.n, .int .i64 sa.ev.a, .int .i64 sa.ev.m.c, .int .i64 sa.ev.m.h, .int .i64 sa.ev.m.t, .int .i64 sa.ev.m.i, .int .i64 sa.ev.m.p, .slice sa.qB sa.qs.length sa.qc, .bool sa.ob, .slice sa.sB sa.ms.length sa.sc], .slice (some ⟨g0, 0, none⟩) n c, .int .i64 (i : Int), .int .i64 ((i : Int) + 1), .pointer (some { block := g0, off := (i + 1) * 11 }), .agg #[.int .i64 sb.ev.k, .int .i64 sb.ev.n, .int .i64 sb.ev.a, .int .i64 sb.ev.m.c, .int .i64 sb.ev.m.h, .int .i64 sb.ev.m.t, .int .i64 sb.ev.m.i, .int .i64 sb.ev.m.p, .slice sb.qB sb.qs.length sb.qc, .bool sb.ob, .slice sb.sB sb.ms.length sb.sc], .bool false, .slice (some ⟨g0, 0, none⟩) n c, .slice (some ⟨g, 0, none⟩) n c4, z28, z29, .slice (some ⟨g, 0, none⟩) n c4, .int .i64 (i : Int), .int .i64 ((i : Int) + 1), z33, z34, z35, z36, z37, z38, z39, z40, stV ta, z42, undef, undef], []⟩ := act_ext hd hs (fun j hj => match j, hj with | 0, _ => (hlow 0 (by decide)).trans rfl | 1, _ => (hlow 1 (by decide)).trans rfl | 2, _ => (hlow 2 (by decide)).trans rfl | 3, _ => (hlow 3 (by decide)).trans rfl | 4, _ => (hlow 4 (by decide)).trans rfl | 5, _ => (hlow 5 (by decide)).trans rfl | 6, _ => (hlow 6 (by decide)).trans rfl | 7, _ => (hlow 7 (by decide)).trans rfl | 8, _ => (hlow 8 (by decide)).trans rfl | 9, _ => (hlow 9 (by decide)).trans rfl | 10, _ => (hlow 10 (by decide)).trans rfl | 11, _ => (hlow 11 (by decide)).trans rfl | 12, _ => (hlow 12 (by decide)).trans rfl | 13, _ => (hlow 13 (by decide)).trans rfl | 14, _ => (hlow 14 (by decide)).trans rfl | 15, _ => (hlow 15 (by decide)).trans rfl | 16, _ => (hlow 16 (by decide)).trans rfl | 17, _ => (hlow 17 (by decide)).trans rfl | 18, _ => (hlow 18 (by decide)).trans rfl | 19, _ => (hlow 19 (by decide)).trans rfl | 20, _ => (hlow 20 (by decide)).trans rfl | 21, _ => (hlow 21 (by decide)).trans rfl | 22, _ => (hlow 22 (by decide)).trans rfl | 23, _ => (hlow 23 (by decide)).trans rfl | 24, _ => (hlow 24 (by decide)).trans rfl | 25, _ => (hlow 25 (by decide)).trans rfl | 26, _ => (hlow 26 (by decide)).trans rfl | 27, _ => (hlow 27 (by decide)).trans rfl | 28, _ => hz28 | 29, _ => hz29 | 30, _ => hfl 2 (by decide) | 31, _ => hfl 3 (by decide) | 32, _ => hfl 4 (by decide) | 33, _ => hz33 | 34, _ => hz34 | 35, _ => hz35 | 36, _ => hz36 | 37, _ => hz37 | 38, _ => hz38 | 39, _ => hz39 | 40, _ => hz40 | 41, _ => (hag 41 (by decide)).trans k41_ | 42, _ => hz42 | 43, _ => (hlow 43 (by decide)).trans rfl | 44, _ => (hlow 44 (by decide)).trans rfl | n + 45, h => absurd h (by show ¬ n + 45 < 45; omega))
    clear hs hd hlow hag hfl hex hz28 hz29 hz33 hz34 hz35 hz36 hz37 hz38 hz39 hz40 hz42
    obtain ⟨C, c1, c2, c3⟩ := hrb2.blk
    have HR2 := Lib.hid hrb2
    have HI2 := Lib.hid hin2
    have HT2 := Lib.hid hta2
    have HB2 := Lib.hid hbl2
    have hg1 : (0 : Int) ≤ (i : Int) + 1 := by omega
    have hg2 : (i : Int) + 1 < (n : Int) := by omega
    have hg3 : ((i : Int) + 1).toNat = i + 1 := by omega
    clear k41_ k6_ k1_ hrb2 hin2 hta2 hbl2 c3
    dsimp only [List.drop]
    refine wpList_val rfl (.pointer (some ⟨g, (i + 1) * 11, none⟩)) (by simp [execOp, go_sem, Act.eval, hg1, hg2, hg3]) ?_
    simp only [Act.put, List.setIfInBounds_toArray, List.set_cons_zero, List.set_cons_succ]
    refine RgX.wpList_store_seg rfl 52 _ _ rfl g ((i + 1) * 11) (stV ta) rfl rfl 52 C c1 (by kernel_rfl) (by show (i + 1) * 11 + 11 ≤ C.size; omega) (by simp [Value.cells, Value.oneCell']) _ rfl ?_
    intro w5 k1 k2 k3 k4
    have hlo := HRB.out.lo
    have hsz := HB3.out.size
    have HR5 := Lib.hid (HR2.out.seg (by omega) c1 k1)
    have HI5 := Lib.hid (all_set (fun x hx => (HI2.out x hx).ne (by omega) k2) (HT2.out.ne (by omega) k2) : ∀ s ∈ (R1.set i tb).set (i + 1) ta, StG w5 g s)
    have HB5 := Lib.hid (HB2.out.trans (k4.mono (show w.heap.size ≤ g by omega)))
    clear k1 k2 k3 k4
    go_wp2_with fail
    go_ret2
    first
      | exact ⟨HB5.out, .inr ⟨rfl, g, c4, R1, ta, tb, rfl, HR5.out.low HB3.out.size, HI5.out, HCR.out, HTA.out, HTB.out⟩⟩
      | exact ⟨HB5.out, g, c4, rfl, R1, ta, tb, HR5.out.low HB3.out.size, HI5.out, HCR.out, HTA.out, HTB.out⟩
  · clear HC3
    go_wp2_with fail
    go_ret2
    first
      | exact ⟨HB3.out, .inl ⟨rfl, rfl⟩⟩
      | exact ⟨HB3.out, rfl⟩
end Go.Proofs.YtlomhoohmcnniaaDoor
