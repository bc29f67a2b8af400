/-
  The walk of the law TapeWith. No condition beyond the arguments' readings.
  The statement TapeWith: for every input the law answers true and leaves its arguments as they were. No condition is added. The frame of this proof was written by the guide's program, the walk is the text LawTapeWith's.
-/
import Derived.Test.YtpjjckfgnflmlaaK29
import Derived.Test.YtpjjckfgnflmlaaK26
import Derived.Test.YtpjjckfgnflmlaaK32
import Derived.Test.YtpjjckfgnflmlaaRows
import Derived.WalkKit
import Derived.ProofKit
import Derived.OpenShut
import Derived.ShutString
import Derived.ChangeOld
import Derived.Below

namespace Go.Proofs.Ytpjjckfgnflmlaa.LawTapeWith
open Go Go.RowKit Go.Proofs Go.Proofs.Ytpjjckfgnflmlaa
attribute [local go_sem] Oper.semAt_some

theorem eq_que' (c h t k i c' h' t' k' i' : Int) (W : World) : (binOp .neq 30 (quV ⟨c, h, t, k, i⟩) (quV ⟨c', h', t', k', i'⟩)).run Try.prog W = .ok (.bool (!decide ((⟨c, h, t, k, i⟩ : NM.Qu) = ⟨c', h', t', k', i'⟩))) W := by
  have h := equal_que ⟨c, h, t, k, i⟩ ⟨c', h', t', k', i'⟩ W
  simp only [binOp]
  simp [go_sem, h]
set_option maxHeartbeats 16000000 in
set_option maxRecDepth 100000 in
theorem walk (a0 : Option Addr) (len0 cap0 : Nat) (z0 : List Int) (a1 : Option Addr) (len1 cap1 : Nat) (z1 : List Int) (a2 a3 a4 a5 : Int) (w : World) (w0 : Row .i64 w a0 len0 cap0 z0) (w1 : Row .i64 w a1 len1 cap1 z1) (w2 : (Lit.int .i64 a2).wf = true) (w3 : (Lit.int .i64 a3).wf = true) (w4 : (Lit.int .i64 a4).wf = true) (w5 : (Lit.int .i64 a5).wf = true) :
    Calls Try.prog 10 #[.slice a0 len0 cap0, .slice a1 len1 cap1, .int .i64 a2, .int .i64 a3, .int .i64 a4, .int .i64 a5] w fun e w' => e = .returned (.bool true) ∧ Below w.heap.size w w' := by
  have hb2 := bounds_i64 w2
  have hb3 := bounds_i64 w3
  have hb4 := bounds_i64 w4
  have hb5 := bounds_i64 w5
  have HT0 := Lib.hid (refTape_any (cap0 := cap0) (cap1 := cap1) w w0.ints.1 (i64_of w0.ints.2.2.2) w1.ints.1 (i64_of w1.ints.2.2.2))
  obtain ⟨es, hes⟩ : ∃ x, TP.evsG (z0.take len0) = x := ⟨_, rfl⟩
  obtain ⟨l, hl⟩ : ∃ x, TP.ansG (z1.take len1) = x := ⟨_, rfl⟩
  have hes8 : es.length ≤ 8 := by rw [← hes]; unfold TP.evsG; rw [List.length_map]; exact List.length_take_le _ _
  have hl10 : l.length ≤ 10 := by rw [← hl]; unfold TP.ansG; rw [List.length_map]; exact List.length_take_le _ _
  rw [hes, hl] at HT0
  have HQA := Lib.hid (refQuestion_any a2 ⟨by omega, by omega⟩)
  have HQB := Lib.hid (refQuestion_any a3 ⟨by omega, by omega⟩)
  obtain ⟨⟨ac, ah, aj, ak, ai⟩, hqa⟩ : ∃ q, TP.qOf a2 = q := ⟨_, rfl⟩
  obtain ⟨⟨bc, bh, bj, bk, bi⟩, hqb⟩ : ∃ q, TP.qOf a3 = q := ⟨_, rfl⟩
  rw [hqa] at HQA
  rw [hqb] at HQB
  have HX := Lib.hid (around_any a4 5 ⟨by omega, by omega⟩ (by decide) (by decide))
  have HY := Lib.hid (around_any a5 5 ⟨by omega, by omega⟩ (by decide) (by decide))
  have hx := around_in a4 5 (by decide)
  have hy := around_in a5 5 (by decide)
  obtain ⟨x, hxe⟩ : ∃ x, around a4 5 = x := ⟨_, rfl⟩
  obtain ⟨y, hye⟩ : ∃ y, around a5 5 = y := ⟨_, rfl⟩
  rw [hxe] at HX hx
  rw [hye] at HY hy
  obtain ⟨x0, x5⟩ := hx
  obtain ⟨y0, y5⟩ := hy
  clear w0 w1 w2 w3 w4 w5 hb2 hb3 hb4 hb5 hes hl hqa hqb hxe hye
  go_enter Try.func10, Try.ntmps10
  go_wp2_with fail
  refine HT0.out.mono ?_
  clear HT0
  rintro e w1 ⟨⟨v, rfl, E, ne, ce, A, na, ca, rfl, hT⟩, b1⟩
  obtain rfl : es.length = ne := hT.1.1
  obtain rfl : l.length = na := hT.1.2
  have HTa := Lib.hid (show TapeIs w.heap.size w1 E es.length ce A l.length ca es l from hT)
  clear hT
  have B1 := Lib.hid b1
  clear b1
  go_upto_region 2 with (fail)
  obtain ⟨W1, hW⟩ : ∃ W, w1.alloc (.cells #[.slice E es.length ce, .slice A l.length ca] 26) = W := ⟨_, rfl⟩
  rw [hW]
  have c1 : Below w1.heap.size w1 W1 := hW ▸ one_box w1 _
  have s1 : W1.heap.size = w1.heap.size + 1 := by rw [← hW]; simp
  have kt : W1.heap[w1.heap.size]? = some (.cells #[.slice E es.length ce, .slice A l.length ca] 26 (0, 0)) := by rw [← hW]; exact World.alloc_heap_new w1 _
  have d1 : Below w.heap.size w W1 := B1.out.trans (c1.mono B1.out.size)
  have z1 := d1.size
  obtain ⟨gt, hg⟩ : ∃ g, w1.heap.size = g := ⟨_, rfl⟩
  have hgB : w.heap.size ≤ gt := hg ▸ B1.out.size
  rw [hg] at kt s1
  rw [hg]
  have HT := Lib.hid (TapeIs.keep HTa.out c1)
  have KT := Lib.hid kt
  have D1 := Lib.hid d1
  clear kt HTa B1 c1 d1 hW hg
  go_wp2_with fail
  refine (HQA.out W1).mono ?_
  rintro e w2 ⟨rfl, b2⟩
  have B2 := Lib.hid b2
  clear b2
  go_upto_region 3 with (fail)
  obtain ⟨W2, hW⟩ : ∃ W, w2.alloc (.cells #[.int .i64 ac, .int .i64 ah, .int .i64 aj, .int .i64 ak, .int .i64 ai] 30) = W := ⟨_, rfl⟩
  rw [hW]
  have c2 : Below w2.heap.size w2 W2 := hW ▸ one_box w2 _
  have s2 : W2.heap.size = w2.heap.size + 1 := by rw [← hW]; simp
  have ka : W2.heap[w2.heap.size]? = some (.cells #[.int .i64 ac, .int .i64 ah, .int .i64 aj, .int .i64 ak, .int .i64 ai] 30 (0, 0)) := by rw [← hW]; exact World.alloc_heap_new w2 _
  have d2 : Below W1.heap.size W1 W2 := B2.out.trans (c2.mono B2.out.size)
  have z2 := d2.size
  obtain ⟨ga, hg⟩ : ∃ g, w2.heap.size = g := ⟨_, rfl⟩
  have hgB : W1.heap.size ≤ ga := hg ▸ B2.out.size
  rw [hg] at ka s2
  rw [hg]
  have KA := Lib.hid ka
  have D2 := Lib.hid (D1.out.trans (d2.mono z1))
  have KT2 := Lib.hid ((d2.block gt (heap_lt KT.out)).trans KT.out)
  have HT2 := Lib.hid (TapeIs.keep HT.out d2)
  clear ka B2 c2 d2 hW hg KT HT D1
  go_wp2_with fail
  refine (HQB.out W2).mono ?_
  rintro e w3 ⟨rfl, b3⟩
  have B3 := Lib.hid b3
  clear b3
  go_upto_region 4 with (fail)
  obtain ⟨W3, hW⟩ : ∃ W, w3.alloc (.cells #[.int .i64 bc, .int .i64 bh, .int .i64 bj, .int .i64 bk, .int .i64 bi] 30) = W := ⟨_, rfl⟩
  rw [hW]
  have c3 : Below w3.heap.size w3 W3 := hW ▸ one_box w3 _
  have s3 : W3.heap.size = w3.heap.size + 1 := by rw [← hW]; simp
  have kb : W3.heap[w3.heap.size]? = some (.cells #[.int .i64 bc, .int .i64 bh, .int .i64 bj, .int .i64 bk, .int .i64 bi] 30 (0, 0)) := by rw [← hW]; exact World.alloc_heap_new w3 _
  have d3 : Below W2.heap.size W2 W3 := B3.out.trans (c3.mono B3.out.size)
  have z3 := d3.size
  obtain ⟨gb, hg⟩ : ∃ g, w3.heap.size = g := ⟨_, rfl⟩
  have hgB : W2.heap.size ≤ gb := hg ▸ B3.out.size
  rw [hg] at kb s3
  rw [hg]
  have KB := Lib.hid kb
  have D3 := Lib.hid (D2.out.trans (d3.mono (by omega)))
  have KT3 := Lib.hid ((d3.block gt (heap_lt KT2.out)).trans KT2.out)
  have KA3 := Lib.hid ((d3.block ga (heap_lt KA.out)).trans KA.out)
  have HT3 := Lib.hid (TapeIs.tin (TapeIs.keep HT2.out d3) (by omega) (by omega))
  clear kb B3 c3 d3 hW hg KT2 HT2 D2 KA
  obtain ⟨⟨t0, t1⟩, _, _⟩ := row2 KT3.out
  obtain ⟨p0, p1, p2, p3, p4⟩ := row5 KA3.out
  go_wp2_with (go_at_call 35; first | ((with_reducible refine (HX.out _).mono ?_); rintro e w5 ⟨rfl, rfl⟩) | ((with_reducible refine (HY.out _).mono ?_); rintro e w5 ⟨rfl, rfl⟩))
  refine (with_any ⟨ac, ah, aj, ak, ai⟩ x W3 HT3.out).mono ?_
  rintro e w4 ⟨⟨v, rfl, Eu, nu0, cu, Au, nu, du, rfl, hT⟩, b4⟩
  obtain rfl : es.length = nu0 := hT.1.1
  have HTb := Lib.hid (show TapeIs W3.heap.size w4 Eu es.length cu Au nu du es (TP.withA l ⟨ac, ah, aj, ak, ai⟩ x) from hT)
  clear hT
  have B4 := Lib.hid b4
  clear b4 t0 t1 p0 p1 p2 p3 p4
  go_upto_region 7 with (fail)
  obtain ⟨W4, hW⟩ : ∃ W, w4.alloc (.cells #[.slice Eu es.length cu, .slice Au nu du] 26) = W := ⟨_, rfl⟩
  rw [hW]
  have c4 : Below w4.heap.size w4 W4 := hW ▸ one_box w4 _
  have s4 : W4.heap.size = w4.heap.size + 1 := by rw [← hW]; simp
  have ku : W4.heap[w4.heap.size]? = some (.cells #[.slice Eu es.length cu, .slice Au nu du] 26 (0, 0)) := by rw [← hW]; exact World.alloc_heap_new w4 _
  have d4 : Below W3.heap.size W3 W4 := B4.out.trans (c4.mono B4.out.size)
  have z4 := d4.size
  obtain ⟨gu, hg⟩ : ∃ g, w4.heap.size = g := ⟨_, rfl⟩
  have hgB : W3.heap.size ≤ gu := hg ▸ B4.out.size
  rw [hg] at ku s4
  rw [hg]
  obtain ⟨lu, hlu⟩ : ∃ r, TP.withA l ⟨ac, ah, aj, ak, ai⟩ x = r := ⟨_, rfl⟩
  have HU := Lib.hid (TapeIs.keep HTb.out c4)
  rw [hlu] at HU
  obtain rfl : lu.length = nu := HU.out.1.2
  have hlun : lu.length ≤ 11 := by have := TP.with_le l ⟨ac, ah, aj, ak, ai⟩ x; rw [hlu] at this; omega
  have D4 := Lib.hid (D3.out.trans (d4.mono (by omega)))
  have KT4 := (d4.block gt (heap_lt KT3.out)).trans KT3.out
  have KA4 := (d4.block ga (heap_lt KA3.out)).trans KA3.out
  have KB4 := (d4.block gb (heap_lt KB.out)).trans KB.out
  have lt4 := heap_lt KT4
  have la4 := heap_lt KA4
  have lb4 := heap_lt KB4
  have HTT := Lib.hid (fun (V : World) (hV : Below W4.heap.size W4 V) => (HT3.out.keep d4).keep hV)
  have HUU := Lib.hid (fun (V : World) (hV : Below W4.heap.size W4 V) => TapeIs.tin (TapeIs.keep HU.out hV) (by omega) (by omega))
  have HKK := Lib.hid (fun (V : World) (hV : Below W4.heap.size W4 V) => And.intro (And.intro (row2 ((hV.block gt lt4).trans KT4)).1 (row5 ((hV.block ga la4).trans KA4))) (And.intro (row5 ((hV.block gb lb4).trans KB4)) (row2 ((hV.block gu (by omega)).trans ku)).1))
  clear ku HTb B4 c4 d4 hW hg KT3 KA3 KB HT3 D3 KT4 KA4 KB4 HU HX HY HQA HQB
  have HG1 := Lib.hid (show TP.getA lu ⟨ac, ah, aj, ak, ai⟩ = x by rw [← hlu, TP.get_with, if_pos rfl]; omega)
  have HG2 := Lib.hid (show TP.getA (TP.withA lu ⟨ac, ah, aj, ak, ai⟩ y) ⟨ac, ah, aj, ak, ai⟩ = y by rw [TP.get_with, if_pos rfl]; omega)
  have wl : ∀ (r : List TP.An) (q : NM.Qu) (n : Int) (m : Nat), r.length ≤ m → m ≤ 100 → (TP.withA r q n).length ≤ m + 1 := fun r q n m h _ => Nat.le_trans (TP.with_le r q n) (by omega)
  have hxx : (x != x) = false := by simp
  have hyy : (y != y) = false := by simp
  refine RgX.region 24 (fun i => ( 36 + i)) (fun ix_ => match ix_ with | 0 => .v (.agg #[.slice Eu es.length cu, .slice Au lu.length du]) | 1 => .v (.agg #[.int .i64 ac, .int .i64 ah, .int .i64 aj, .int .i64 ak, .int .i64 ai]) | 2 => .v (.int .i64 x) | 3 => .v (.int .i64 x) | 4 => .v (.bool false) | 5 => .v (.bool false) | 6 => .v (.agg #[.slice Eu es.length cu, .slice Au lu.length du]) | 7 => .v (.agg #[.int .i64 ac, .int .i64 ah, .int .i64 aj, .int .i64 ak, .int .i64 ai]) | 8 => .v (.int .i64 y) | 9 => .tape W4.heap.size es (TP.withA lu ⟨ac, ah, aj, ak, ai⟩ y) es.length (TP.withA lu ⟨ac, ah, aj, ak, ai⟩ y).length | 10 => .v (.agg #[.int .i64 ac, .int .i64 ah, .int .i64 aj, .int .i64 ak, .int .i64 ai]) | 11 => .v (.int .i64 y) | 12 => .v (.int .i64 y) | 13 => .v (.bool false) | 14 => .v (.bool false) | 15 => .v (.bool false) | 16 => .v (.pointer (some ⟨gu, 0, none⟩)) | 17 => .v (.slice Eu es.length cu) | 18 => .v (.int .i64 (es.length : Int)) | 19 => .v (.pointer (some ⟨gt, 0, none⟩)) | 20 => .v (.slice E es.length ce) | 21 => .v (.int .i64 (es.length : Int)) | 22 => .v (.bool false) | 23 => .v (.bool false) | _ => .any) (by kernel_rfl) rfl (by kernel_rfl)  (fun i hi => by show ( 36 + i) < 132; (repeat' split) <;> omega) (fun i j hi hj => by show ( 36 + i) = ( 36 + j) → i = j; (repeat' split) <;> omega) ?step ?fin
  case step =>
    intro L_ A_ w3 ix op_ hI ho hdep
    have hi : ix < 24 := (Array.getElem?_eq_some_iff.1 ho).1
    have hcase : ix = 0 ∨ ix = 1 ∨ ix = 2 ∨ ix = 3 ∨ ix = 4 ∨ ix = 5 ∨ ix = 6 ∨ ix = 7 ∨ ix = 8 ∨ ix = 9 ∨ ix = 10 ∨ ix = 11 ∨ ix = 12 ∨ ix = 13 ∨ ix = 14 ∨ ix = 15 ∨ ix = 16 ∨ ix = 17 ∨ ix = 18 ∨ ix = 19 ∨ ix = 20 ∨ ix = 21 ∨ ix = 22 ∨ ix = 23 := by omega
    have hh := hI.held
    clear hi
    rcases hcase with rfl | rfl | rfl | rfl | rfl | rfl | rfl | rfl | rfl | rfl | rfl | rfl | rfl | rfl | rfl | rfl | rfl | rfl | rfl | rfl | rfl | rfl | rfl | rfl
    · simp only [List.getElem?_toArray, List.getElem?_cons_zero, Option.some.injEq] at ho
      subst ho
      refine ⟨rfl, ?_⟩
      have e18 : A_.tmps[18]?.getD undef = .pointer (some ⟨gu, 0, none⟩) := by rw [hI.low 18 (by decide)]; rfl
      clear hI hdep
      obtain ⟨⟨⟨t0, t1⟩, p0, p1, p2, p3, p4⟩, ⟨q0, q1, q2, q3, q4⟩, u0, u1⟩ := HKK.out w3 hh
      exact .run rfl (.agg #[.slice Eu es.length cu, .slice Au lu.length du]) w3 (by simp [execOp, go_sem, Act.eval, *]) (Below.refl _ _) rfl
    · simp only [List.getElem?_toArray, List.getElem?_cons_succ, List.getElem?_cons_zero, Option.some.injEq] at ho
      subst ho
      refine ⟨rfl, ?_⟩
      have e14 : A_.tmps[14]?.getD undef = .pointer (some ⟨ga, 0, none⟩) := by rw [hI.low 14 (by decide)]; rfl
      clear hI hdep
      obtain ⟨⟨⟨t0, t1⟩, p0, p1, p2, p3, p4⟩, ⟨q0, q1, q2, q3, q4⟩, u0, u1⟩ := HKK.out w3 hh
      exact .run rfl (.agg #[.int .i64 ac, .int .i64 ah, .int .i64 aj, .int .i64 ak, .int .i64 ai]) w3 (by simp [execOp, go_sem, Act.eval, *]) (Below.refl _ _) rfl
    · simp only [List.getElem?_toArray, List.getElem?_cons_succ, List.getElem?_cons_zero, Option.some.injEq] at ho
      subst ho
      refine ⟨rfl, ?_⟩
      have e36 : A_.tmps[36]?.getD undef = .agg #[.slice Eu es.length cu, .slice Au lu.length du] := getD_of (hI.val_ (i := 0) rfl rfl (by decide) (hdep ⟨0, .data⟩ (by simp) rfl))
      have e37 : A_.tmps[37]?.getD undef = .agg #[.int .i64 ac, .int .i64 ah, .int .i64 aj, .int .i64 ak, .int .i64 ai] := getD_of (hI.val_ (i := 1) rfl rfl (by decide) (hdep ⟨1, .data⟩ (by simp) rfl))
      clear hI hdep
      exact .call rfl 21 #[.agg #[.slice Eu es.length cu, .slice Au lu.length du], .agg #[.int .i64 ac, .int .i64 ah, .int .i64 aj, .int .i64 ak, .int .i64 ai]] (by simp [go_sem, Act.eval, e36, e37]) ((HG1.out ▸ get_any ⟨ac, ah, aj, ak, ai⟩ w3 (HUU.out w3 hh)).mono fun _ _ ⟨h1_, h2_⟩ => ⟨⟨_, h1_, rfl⟩, h2_⟩)
    · simp only [List.getElem?_toArray, List.getElem?_cons_succ, List.getElem?_cons_zero, Option.some.injEq] at ho
      subst ho
      refine ⟨rfl, ?_⟩
      have e16 : A_.tmps[16]?.getD undef = .int .i64 x := by rw [hI.low 16 (by decide)]; rfl
      clear hI hdep
      exact .run rfl (.int .i64 x) w3 (by simp [execOp, go_sem, Act.eval, e16]) (Below.refl _ _) rfl
    · simp only [List.getElem?_toArray, List.getElem?_cons_succ, List.getElem?_cons_zero, Option.some.injEq] at ho
      subst ho
      refine ⟨rfl, ?_⟩
      have e38 : A_.tmps[38]?.getD undef = .int .i64 x := getD_of (hI.val_ (i := 2) rfl rfl (by decide) (hdep ⟨2, .data⟩ (by simp) rfl))
      have e39 : A_.tmps[39]?.getD undef = .int .i64 x := getD_of (hI.val_ (i := 3) rfl rfl (by decide) (hdep ⟨3, .data⟩ (by simp) rfl))
      clear hI hdep
      exact .run rfl (.bool false) w3 (by simp [execOp, go_sem, Act.eval, *]) (Below.refl _ _) rfl
    · simp only [List.getElem?_toArray, List.getElem?_cons_succ, List.getElem?_cons_zero, Option.some.injEq] at ho
      subst ho
      refine ⟨rfl, ?_⟩
      have e40 : A_.tmps[40]?.getD undef = .bool false := getD_of (hI.val_ (i := 4) rfl rfl (by decide) (hdep ⟨4, .data⟩ (by simp) rfl))
      clear hI hdep
      exact .run rfl (.bool false) w3 (by simp [execOp, go_sem, Act.eval, e40]) (Below.refl _ _) rfl
    · simp only [List.getElem?_toArray, List.getElem?_cons_succ, List.getElem?_cons_zero, Option.some.injEq] at ho
      subst ho
      refine ⟨rfl, ?_⟩
      have q41 : A_.tmps[41]? = some (.bool false) := hI.val_ (i := 5) rfl rfl (by decide) (hdep ⟨5, .guard⟩ (by simp) rfl)
      have e18 : A_.tmps[18]?.getD undef = .pointer (some ⟨gu, 0, none⟩) := by rw [hI.low 18 (by decide)]; rfl
      clear hI hdep
      obtain ⟨⟨⟨t0, t1⟩, p0, p1, p2, p3, p4⟩, ⟨q0, q1, q2, q3, q4⟩, u0, u1⟩ := HKK.out w3 hh
      exact .run ((wanted_some rfl rfl q41).trans rfl) (.agg #[.slice Eu es.length cu, .slice Au lu.length du]) w3 (by simp [execOp, go_sem, Act.eval, *]) (Below.refl _ _) rfl
    · simp only [List.getElem?_toArray, List.getElem?_cons_succ, List.getElem?_cons_zero, Option.some.injEq] at ho
      subst ho
      refine ⟨rfl, ?_⟩
      have q41 : A_.tmps[41]? = some (.bool false) := hI.val_ (i := 5) rfl rfl (by decide) (hdep ⟨5, .guard⟩ (by simp) rfl)
      have e14 : A_.tmps[14]?.getD undef = .pointer (some ⟨ga, 0, none⟩) := by rw [hI.low 14 (by decide)]; rfl
      clear hI hdep
      obtain ⟨⟨⟨t0, t1⟩, p0, p1, p2, p3, p4⟩, ⟨q0, q1, q2, q3, q4⟩, u0, u1⟩ := HKK.out w3 hh
      exact .run ((wanted_some rfl rfl q41).trans rfl) (.agg #[.int .i64 ac, .int .i64 ah, .int .i64 aj, .int .i64 ak, .int .i64 ai]) w3 (by simp [execOp, go_sem, Act.eval, *]) (Below.refl _ _) rfl
    · simp only [List.getElem?_toArray, List.getElem?_cons_succ, List.getElem?_cons_zero, Option.some.injEq] at ho
      subst ho
      refine ⟨rfl, ?_⟩
      have q41 : A_.tmps[41]? = some (.bool false) := hI.val_ (i := 5) rfl rfl (by decide) (hdep ⟨5, .guard⟩ (by simp) rfl)
      have e17 : A_.tmps[17]?.getD undef = .int .i64 y := by rw [hI.low 17 (by decide)]; rfl
      clear hI hdep
      exact .run ((wanted_some rfl rfl q41).trans rfl) (.int .i64 y) w3 (by simp [execOp, go_sem, Act.eval, e17]) (Below.refl _ _) rfl
    · simp only [List.getElem?_toArray, List.getElem?_cons_succ, List.getElem?_cons_zero, Option.some.injEq] at ho
      subst ho
      refine ⟨rfl, ?_⟩
      have q41 : A_.tmps[41]? = some (.bool false) := hI.val_ (i := 5) rfl rfl (by decide) (hdep ⟨5, .guard⟩ (by simp) rfl)
      have e42 : A_.tmps[42]?.getD undef = .agg #[.slice Eu es.length cu, .slice Au lu.length du] := getD_of (hI.val_ (i := 6) rfl rfl (by decide) (hdep ⟨6, .data⟩ (by simp) rfl))
      have e43 : A_.tmps[43]?.getD undef = .agg #[.int .i64 ac, .int .i64 ah, .int .i64 aj, .int .i64 ak, .int .i64 ai] := getD_of (hI.val_ (i := 7) rfl rfl (by decide) (hdep ⟨7, .data⟩ (by simp) rfl))
      have e44 : A_.tmps[44]?.getD undef = .int .i64 y := getD_of (hI.val_ (i := 8) rfl rfl (by decide) (hdep ⟨8, .data⟩ (by simp) rfl))
      clear hI hdep
      exact .call ((wanted_some rfl rfl q41).trans rfl) 23 #[.agg #[.slice Eu es.length cu, .slice Au lu.length du], .agg #[.int .i64 ac, .int .i64 ah, .int .i64 aj, .int .i64 ak, .int .i64 ai], .int .i64 y] (by simp [go_sem, Act.eval, e42, e43, e44]) (RgX.tape_calls_lo hh.size rfl rfl (with_any ⟨ac, ah, aj, ak, ai⟩ y w3 (HUU.out w3 hh)))
    · simp only [List.getElem?_toArray, List.getElem?_cons_succ, List.getElem?_cons_zero, Option.some.injEq] at ho
      subst ho
      refine ⟨rfl, ?_⟩
      have q41 : A_.tmps[41]? = some (.bool false) := hI.val_ (i := 5) rfl rfl (by decide) (hdep ⟨5, .guard⟩ (by simp) rfl)
      have e14 : A_.tmps[14]?.getD undef = .pointer (some ⟨ga, 0, none⟩) := by rw [hI.low 14 (by decide)]; rfl
      clear hI hdep
      obtain ⟨⟨⟨t0, t1⟩, p0, p1, p2, p3, p4⟩, ⟨q0, q1, q2, q3, q4⟩, u0, u1⟩ := HKK.out w3 hh
      exact .run ((wanted_some rfl rfl q41).trans rfl) (.agg #[.int .i64 ac, .int .i64 ah, .int .i64 aj, .int .i64 ak, .int .i64 ai]) w3 (by simp [execOp, go_sem, Act.eval, *]) (Below.refl _ _) rfl
    · simp only [List.getElem?_toArray, List.getElem?_cons_succ, List.getElem?_cons_zero, Option.some.injEq] at ho
      subst ho
      refine ⟨rfl, ?_⟩
      have q41 : A_.tmps[41]? = some (.bool false) := hI.val_ (i := 5) rfl rfl (by decide) (hdep ⟨5, .guard⟩ (by simp) rfl)
      obtain ⟨_, e45, E45, c45, A45, d45, rfl, h45⟩ := hI.get_ (i := 9) (j := 45) rfl rfl (by decide) (hdep ⟨9, .data⟩ (by simp) rfl)
      have e46 : A_.tmps[46]?.getD undef = .agg #[.int .i64 ac, .int .i64 ah, .int .i64 aj, .int .i64 ak, .int .i64 ai] := getD_of (hI.val_ (i := 10) rfl rfl (by decide) (hdep ⟨10, .data⟩ (by simp) rfl))
      clear hI hdep
      exact .call ((wanted_some rfl rfl q41).trans rfl) 21 #[.agg #[.slice E45 es.length c45, .slice A45 (TP.withA lu ⟨ac, ah, aj, ak, ai⟩ y).length d45], .agg #[.int .i64 ac, .int .i64 ah, .int .i64 aj, .int .i64 ak, .int .i64 ai]] (by simp [go_sem, Act.eval, e45, e46]) ((HG2.out ▸ get_any ⟨ac, ah, aj, ak, ai⟩ w3 (TapeIs.tin h45 (by omega) (by have := wl lu ⟨ac, ah, aj, ak, ai⟩ y 11 hlun (by omega); omega))).mono fun _ _ ⟨h1_, h2_⟩ => ⟨⟨_, h1_, rfl⟩, h2_⟩)
    · simp only [List.getElem?_toArray, List.getElem?_cons_succ, List.getElem?_cons_zero, Option.some.injEq] at ho
      subst ho
      refine ⟨rfl, ?_⟩
      have q41 : A_.tmps[41]? = some (.bool false) := hI.val_ (i := 5) rfl rfl (by decide) (hdep ⟨5, .guard⟩ (by simp) rfl)
      have e17 : A_.tmps[17]?.getD undef = .int .i64 y := by rw [hI.low 17 (by decide)]; rfl
      clear hI hdep
      exact .run ((wanted_some rfl rfl q41).trans rfl) (.int .i64 y) w3 (by simp [execOp, go_sem, Act.eval, e17]) (Below.refl _ _) rfl
    · simp only [List.getElem?_toArray, List.getElem?_cons_succ, List.getElem?_cons_zero, Option.some.injEq] at ho
      subst ho
      refine ⟨rfl, ?_⟩
      have q41 : A_.tmps[41]? = some (.bool false) := hI.val_ (i := 5) rfl rfl (by decide) (hdep ⟨5, .guard⟩ (by simp) rfl)
      have e47 : A_.tmps[47]?.getD undef = .int .i64 y := getD_of (hI.val_ (i := 11) rfl rfl (by decide) (hdep ⟨11, .data⟩ (by simp) rfl))
      have e48 : A_.tmps[48]?.getD undef = .int .i64 y := getD_of (hI.val_ (i := 12) rfl rfl (by decide) (hdep ⟨12, .data⟩ (by simp) rfl))
      clear hI hdep
      exact .run ((wanted_some rfl rfl q41).trans rfl) (.bool false) w3 (by simp [execOp, go_sem, Act.eval, *]) (Below.refl _ _) rfl
    · simp only [List.getElem?_toArray, List.getElem?_cons_succ, List.getElem?_cons_zero, Option.some.injEq] at ho
      subst ho
      refine ⟨rfl, ?_⟩
      have e41 : A_.tmps[41]?.getD undef = .bool false := getD_of (hI.val_ (i := 5) rfl rfl (by decide) (hdep ⟨5, .data⟩ (by simp) rfl))
      have e49 : A_.tmps[49]?.getD undef = .bool false := getD_of (hI.val_ (i := 13) rfl rfl (by decide) (hdep ⟨13, .data⟩ (by simp) rfl))
      clear hI hdep
      exact .run rfl (.bool false) w3 (by simp [execOp, go_sem, Act.eval, e41, e49]) (Below.refl _ _) rfl
    · simp only [List.getElem?_toArray, List.getElem?_cons_succ, List.getElem?_cons_zero, Option.some.injEq] at ho
      subst ho
      refine ⟨rfl, ?_⟩
      have e50 : A_.tmps[50]?.getD undef = .bool false := getD_of (hI.val_ (i := 14) rfl rfl (by decide) (hdep ⟨14, .data⟩ (by simp) rfl))
      clear hI hdep
      exact .run rfl (.bool false) w3 (by simp [execOp, go_sem, Act.eval, e50]) (Below.refl _ _) rfl
    · simp only [List.getElem?_toArray, List.getElem?_cons_succ, List.getElem?_cons_zero, Option.some.injEq] at ho
      subst ho
      refine ⟨rfl, ?_⟩
      have q51 : A_.tmps[51]? = some (.bool false) := hI.val_ (i := 15) rfl rfl (by decide) (hdep ⟨15, .guard⟩ (by simp) rfl)
      have e18 : A_.tmps[18]?.getD undef = .pointer (some ⟨gu, 0, none⟩) := by rw [hI.low 18 (by decide)]; rfl
      clear hI hdep
      exact .run ((wanted_some rfl rfl q51).trans rfl) (.pointer (some ⟨gu, 0, none⟩)) w3 (by simp [execOp, go_sem, Act.eval, e18]) (Below.refl _ _) rfl
    · simp only [List.getElem?_toArray, List.getElem?_cons_succ, List.getElem?_cons_zero, Option.some.injEq] at ho
      subst ho
      refine ⟨rfl, ?_⟩
      have q51 : A_.tmps[51]? = some (.bool false) := hI.val_ (i := 15) rfl rfl (by decide) (hdep ⟨15, .guard⟩ (by simp) rfl)
      have e52 : A_.tmps[52]?.getD undef = .pointer (some ⟨gu, 0, none⟩) := getD_of (hI.val_ (i := 16) rfl rfl (by decide) (hdep ⟨16, .data⟩ (by simp) rfl))
      clear hI hdep
      obtain ⟨⟨⟨t0, t1⟩, p0, p1, p2, p3, p4⟩, ⟨q0, q1, q2, q3, q4⟩, u0, u1⟩ := HKK.out w3 hh
      exact .run ((wanted_some rfl rfl q51).trans rfl) (.slice Eu es.length cu) w3 (by simp [execOp, go_sem, Act.eval, *]) (Below.refl _ _) rfl
    · simp only [List.getElem?_toArray, List.getElem?_cons_succ, List.getElem?_cons_zero, Option.some.injEq] at ho
      subst ho
      refine ⟨rfl, ?_⟩
      have q51 : A_.tmps[51]? = some (.bool false) := hI.val_ (i := 15) rfl rfl (by decide) (hdep ⟨15, .guard⟩ (by simp) rfl)
      have e53 : A_.tmps[53]?.getD undef = .slice Eu es.length cu := getD_of (hI.val_ (i := 17) rfl rfl (by decide) (hdep ⟨17, .data⟩ (by simp) rfl))
      clear hI hdep
      exact .run ((wanted_some rfl rfl q51).trans rfl) (.int .i64 (es.length : Int)) w3 (by simp [go_sem, Act.eval, e53]) (Below.refl _ _) rfl
    · simp only [List.getElem?_toArray, List.getElem?_cons_succ, List.getElem?_cons_zero, Option.some.injEq] at ho
      subst ho
      refine ⟨rfl, ?_⟩
      have q51 : A_.tmps[51]? = some (.bool false) := hI.val_ (i := 15) rfl rfl (by decide) (hdep ⟨15, .guard⟩ (by simp) rfl)
      have e13 : A_.tmps[13]?.getD undef = .pointer (some ⟨gt, 0, none⟩) := by rw [hI.low 13 (by decide)]; rfl
      clear hI hdep
      exact .run ((wanted_some rfl rfl q51).trans rfl) (.pointer (some ⟨gt, 0, none⟩)) w3 (by simp [execOp, go_sem, Act.eval, e13]) (Below.refl _ _) rfl
    · simp only [List.getElem?_toArray, List.getElem?_cons_succ, List.getElem?_cons_zero, Option.some.injEq] at ho
      subst ho
      refine ⟨rfl, ?_⟩
      have q51 : A_.tmps[51]? = some (.bool false) := hI.val_ (i := 15) rfl rfl (by decide) (hdep ⟨15, .guard⟩ (by simp) rfl)
      have e55 : A_.tmps[55]?.getD undef = .pointer (some ⟨gt, 0, none⟩) := getD_of (hI.val_ (i := 19) rfl rfl (by decide) (hdep ⟨19, .data⟩ (by simp) rfl))
      clear hI hdep
      obtain ⟨⟨⟨t0, t1⟩, p0, p1, p2, p3, p4⟩, ⟨q0, q1, q2, q3, q4⟩, u0, u1⟩ := HKK.out w3 hh
      exact .run ((wanted_some rfl rfl q51).trans rfl) (.slice E es.length ce) w3 (by simp [execOp, go_sem, Act.eval, *]) (Below.refl _ _) rfl
    · simp only [List.getElem?_toArray, List.getElem?_cons_succ, List.getElem?_cons_zero, Option.some.injEq] at ho
      subst ho
      refine ⟨rfl, ?_⟩
      have q51 : A_.tmps[51]? = some (.bool false) := hI.val_ (i := 15) rfl rfl (by decide) (hdep ⟨15, .guard⟩ (by simp) rfl)
      have e56 : A_.tmps[56]?.getD undef = .slice E es.length ce := getD_of (hI.val_ (i := 20) rfl rfl (by decide) (hdep ⟨20, .data⟩ (by simp) rfl))
      clear hI hdep
      exact .run ((wanted_some rfl rfl q51).trans rfl) (.int .i64 (es.length : Int)) w3 (by simp [go_sem, Act.eval, e56]) (Below.refl _ _) rfl
    · simp only [List.getElem?_toArray, List.getElem?_cons_succ, List.getElem?_cons_zero, Option.some.injEq] at ho
      subst ho
      refine ⟨rfl, ?_⟩
      have q51 : A_.tmps[51]? = some (.bool false) := hI.val_ (i := 15) rfl rfl (by decide) (hdep ⟨15, .guard⟩ (by simp) rfl)
      have e54 : A_.tmps[54]?.getD undef = .int .i64 (es.length : Int) := getD_of (hI.val_ (i := 18) rfl rfl (by decide) (hdep ⟨18, .data⟩ (by simp) rfl))
      have e57 : A_.tmps[57]?.getD undef = .int .i64 (es.length : Int) := getD_of (hI.val_ (i := 21) rfl rfl (by decide) (hdep ⟨21, .data⟩ (by simp) rfl))
      clear hI hdep
      exact .run ((wanted_some rfl rfl q51).trans rfl) (.bool false) w3 (by simp [execOp, go_sem, Act.eval, *]) (Below.refl _ _) rfl
    · simp only [List.getElem?_toArray, List.getElem?_cons_succ, List.getElem?_cons_zero, Option.some.injEq] at ho
      subst ho
      refine ⟨rfl, ?_⟩
      have e51 : A_.tmps[51]?.getD undef = .bool false := getD_of (hI.val_ (i := 15) rfl rfl (by decide) (hdep ⟨15, .data⟩ (by simp) rfl))
      have e58 : A_.tmps[58]?.getD undef = .bool false := getD_of (hI.val_ (i := 22) rfl rfl (by decide) (hdep ⟨22, .data⟩ (by simp) rfl))
      clear hI hdep
      exact .run rfl (.bool false) w3 (by simp [execOp, go_sem, Act.eval, e51, e58]) (Below.refl _ _) rfl
  case fin =>
  intro A_ w3 hs hd hlow hS hok
  obtain ⟨_, hy45, E45, c45, A45, d45, rfl, h45⟩ := hok 9 45 _ (by decide) rfl rfl
  obtain rfl : A_ = ⟨#[.slice a0 len0 cap0, .slice a1 len1 cap1, .int .i64 a2, .int .i64 a3, .int .i64 a4, .int .i64 a5, undef, undef, undef, undef, undef, undef, .bool false, .pointer (some ⟨gt, 0, none⟩), .pointer (some ⟨ga, 0, none⟩), .pointer (some ⟨gb, 0, none⟩), .int .i64 x, .int .i64 y, .pointer (some ⟨gu, 0, none⟩), undef, undef, .slice a0 len0 cap0, .slice a1 len1 cap1, .agg #[.slice E es.length ce, .slice A l.length ca], .int .i64 a2, quV { c := ac, h := ah, t := aj, k := ak, i := ai }, .int .i64 a3, quV { c := bc, h := bh, t := bj, k := bk, i := bi }, .int .i64 a4, .int .i64 x, .int .i64 a5, .int .i64 y, .agg #[.slice E es.length ce, .slice A l.length ca], .agg #[.int .i64 ac, .int .i64 ah, .int .i64 aj, .int .i64 ak, .int .i64 ai], .int .i64 x, .agg #[.slice Eu es.length cu, .slice Au lu.length du], .agg #[.slice Eu es.length cu, .slice Au lu.length du], .agg #[.int .i64 ac, .int .i64 ah, .int .i64 aj, .int .i64 ak, .int .i64 ai], .int .i64 x, .int .i64 x, .bool false, .bool false, .agg #[.slice Eu es.length cu, .slice Au lu.length du], .agg #[.int .i64 ac, .int .i64 ah, .int .i64 aj, .int .i64 ak, .int .i64 ai], .int .i64 y, .agg #[.slice E45 es.length c45, .slice A45 (TP.withA lu ⟨ac, ah, aj, ak, ai⟩ y).length d45], .agg #[.int .i64 ac, .int .i64 ah, .int .i64 aj, .int .i64 ak, .int .i64 ai], .int .i64 y, .int .i64 y, .bool false, .bool false, .bool false, .pointer (some ⟨gu, 0, none⟩), .slice Eu es.length cu, .int .i64 (es.length : Int), .pointer (some ⟨gt, 0, none⟩), .slice E es.length ce, .int .i64 (es.length : Int), .bool false, .bool false, undef, undef, undef, undef, undef, undef, undef, undef, undef, undef, undef, undef, undef, undef, undef, undef, undef, undef, undef, undef, undef, undef, undef, undef, undef, undef, undef, undef, undef, undef, undef, undef, undef, undef, undef, undef, undef, undef, undef, undef, undef, undef, undef, undef, undef, undef, undef, undef, undef, undef, undef, undef, undef, undef, undef, undef, undef, undef, undef, undef, undef, undef, undef, undef, undef, undef, undef, undef, undef, undef, undef, undef], []⟩ := act_ext hd hs (fun j hj => match j, hj with | 0, _ => (hlow 0 (by decide)).trans rfl | 1, _ => (hlow 1 (by decide)).trans rfl | 2, _ => (hlow 2 (by decide)).trans rfl | 3, _ => (hlow 3 (by decide)).trans rfl | 4, _ => (hlow 4 (by decide)).trans rfl | 5, _ => (hlow 5 (by decide)).trans rfl | 6, _ => (hlow 6 (by decide)).trans rfl | 7, _ => (hlow 7 (by decide)).trans rfl | 8, _ => (hlow 8 (by decide)).trans rfl | 9, _ => (hlow 9 (by decide)).trans rfl | 10, _ => (hlow 10 (by decide)).trans rfl | 11, _ => (hlow 11 (by decide)).trans rfl | 12, _ => (hlow 12 (by decide)).trans rfl | 13, _ => (hlow 13 (by decide)).trans rfl | 14, _ => (hlow 14 (by decide)).trans rfl | 15, _ => (hlow 15 (by decide)).trans rfl | 16, _ => (hlow 16 (by decide)).trans rfl | 17, _ => (hlow 17 (by decide)).trans rfl | 18, _ => (hlow 18 (by decide)).trans rfl | 19, _ => (hlow 19 (by decide)).trans rfl | 20, _ => (hlow 20 (by decide)).trans rfl | 21, _ => (hlow 21 (by decide)).trans rfl | 22, _ => (hlow 22 (by decide)).trans rfl | 23, _ => (hlow 23 (by decide)).trans rfl | 24, _ => (hlow 24 (by decide)).trans rfl | 25, _ => (hlow 25 (by decide)).trans rfl | 26, _ => (hlow 26 (by decide)).trans rfl | 27, _ => (hlow 27 (by decide)).trans rfl | 28, _ => (hlow 28 (by decide)).trans rfl | 29, _ => (hlow 29 (by decide)).trans rfl | 30, _ => (hlow 30 (by decide)).trans rfl | 31, _ => (hlow 31 (by decide)).trans rfl | 32, _ => (hlow 32 (by decide)).trans rfl | 33, _ => (hlow 33 (by decide)).trans rfl | 34, _ => (hlow 34 (by decide)).trans rfl | 35, _ => (hlow 35 (by decide)).trans rfl | 36, _ => RgX.val_at (hok 0 36 _ (by decide) rfl rfl) | 37, _ => RgX.val_at (hok 1 37 _ (by decide) rfl rfl) | 38, _ => RgX.val_at (hok 2 38 _ (by decide) rfl rfl) | 39, _ => RgX.val_at (hok 3 39 _ (by decide) rfl rfl) | 40, _ => RgX.val_at (hok 4 40 _ (by decide) rfl rfl) | 41, _ => RgX.val_at (hok 5 41 _ (by decide) rfl rfl) | 42, _ => RgX.val_at (hok 6 42 _ (by decide) rfl rfl) | 43, _ => RgX.val_at (hok 7 43 _ (by decide) rfl rfl) | 44, _ => RgX.val_at (hok 8 44 _ (by decide) rfl rfl) | 45, _ => hy45 | 46, _ => RgX.val_at (hok 10 46 _ (by decide) rfl rfl) | 47, _ => RgX.val_at (hok 11 47 _ (by decide) rfl rfl) | 48, _ => RgX.val_at (hok 12 48 _ (by decide) rfl rfl) | 49, _ => RgX.val_at (hok 13 49 _ (by decide) rfl rfl) | 50, _ => RgX.val_at (hok 14 50 _ (by decide) rfl rfl) | 51, _ => RgX.val_at (hok 15 51 _ (by decide) rfl rfl) | 52, _ => RgX.val_at (hok 16 52 _ (by decide) rfl rfl) | 53, _ => RgX.val_at (hok 17 53 _ (by decide) rfl rfl) | 54, _ => RgX.val_at (hok 18 54 _ (by decide) rfl rfl) | 55, _ => RgX.val_at (hok 19 55 _ (by decide) rfl rfl) | 56, _ => RgX.val_at (hok 20 56 _ (by decide) rfl rfl) | 57, _ => RgX.val_at (hok 21 57 _ (by decide) rfl rfl) | 58, _ => RgX.val_at (hok 22 58 _ (by decide) rfl rfl) | 59, _ => RgX.val_at (hok 23 59 _ (by decide) rfl rfl) | 60, _ => (hlow 60 (by decide)).trans rfl | 61, _ => (hlow 61 (by decide)).trans rfl | 62, _ => (hlow 62 (by decide)).trans rfl | 63, _ => (hlow 63 (by decide)).trans rfl | 64, _ => (hlow 64 (by decide)).trans rfl | 65, _ => (hlow 65 (by decide)).trans rfl | 66, _ => (hlow 66 (by decide)).trans rfl | 67, _ => (hlow 67 (by decide)).trans rfl | 68, _ => (hlow 68 (by decide)).trans rfl | 69, _ => (hlow 69 (by decide)).trans rfl | 70, _ => (hlow 70 (by decide)).trans rfl | 71, _ => (hlow 71 (by decide)).trans rfl | 72, _ => (hlow 72 (by decide)).trans rfl | 73, _ => (hlow 73 (by decide)).trans rfl | 74, _ => (hlow 74 (by decide)).trans rfl | 75, _ => (hlow 75 (by decide)).trans rfl | 76, _ => (hlow 76 (by decide)).trans rfl | 77, _ => (hlow 77 (by decide)).trans rfl | 78, _ => (hlow 78 (by decide)).trans rfl | 79, _ => (hlow 79 (by decide)).trans rfl | 80, _ => (hlow 80 (by decide)).trans rfl | 81, _ => (hlow 81 (by decide)).trans rfl | 82, _ => (hlow 82 (by decide)).trans rfl | 83, _ => (hlow 83 (by decide)).trans rfl | 84, _ => (hlow 84 (by decide)).trans rfl | 85, _ => (hlow 85 (by decide)).trans rfl | 86, _ => (hlow 86 (by decide)).trans rfl | 87, _ => (hlow 87 (by decide)).trans rfl | 88, _ => (hlow 88 (by decide)).trans rfl | 89, _ => (hlow 89 (by decide)).trans rfl | 90, _ => (hlow 90 (by decide)).trans rfl | 91, _ => (hlow 91 (by decide)).trans rfl | 92, _ => (hlow 92 (by decide)).trans rfl | 93, _ => (hlow 93 (by decide)).trans rfl | 94, _ => (hlow 94 (by decide)).trans rfl | 95, _ => (hlow 95 (by decide)).trans rfl | 96, _ => (hlow 96 (by decide)).trans rfl | 97, _ => (hlow 97 (by decide)).trans rfl | 98, _ => (hlow 98 (by decide)).trans rfl | 99, _ => (hlow 99 (by decide)).trans rfl | 100, _ => (hlow 100 (by decide)).trans rfl | 101, _ => (hlow 101 (by decide)).trans rfl | 102, _ => (hlow 102 (by decide)).trans rfl | 103, _ => (hlow 103 (by decide)).trans rfl | 104, _ => (hlow 104 (by decide)).trans rfl | 105, _ => (hlow 105 (by decide)).trans rfl | 106, _ => (hlow 106 (by decide)).trans rfl | 107, _ => (hlow 107 (by decide)).trans rfl | 108, _ => (hlow 108 (by decide)).trans rfl | 109, _ => (hlow 109 (by decide)).trans rfl | 110, _ => (hlow 110 (by decide)).trans rfl | 111, _ => (hlow 111 (by decide)).trans rfl | 112, _ => (hlow 112 (by decide)).trans rfl | 113, _ => (hlow 113 (by decide)).trans rfl | 114, _ => (hlow 114 (by decide)).trans rfl | 115, _ => (hlow 115 (by decide)).trans rfl | 116, _ => (hlow 116 (by decide)).trans rfl | 117, _ => (hlow 117 (by decide)).trans rfl | 118, _ => (hlow 118 (by decide)).trans rfl | 119, _ => (hlow 119 (by decide)).trans rfl | 120, _ => (hlow 120 (by decide)).trans rfl | 121, _ => (hlow 121 (by decide)).trans rfl | 122, _ => (hlow 122 (by decide)).trans rfl | 123, _ => (hlow 123 (by decide)).trans rfl | 124, _ => (hlow 124 (by decide)).trans rfl | 125, _ => (hlow 125 (by decide)).trans rfl | 126, _ => (hlow 126 (by decide)).trans rfl | 127, _ => (hlow 127 (by decide)).trans rfl | 128, _ => (hlow 128 (by decide)).trans rfl | 129, _ => (hlow 129 (by decide)).trans rfl | 130, _ => (hlow 130 (by decide)).trans rfl | 131, _ => (hlow 131 (by decide)).trans rfl | n + 132, h => absurd h (by show ¬ n + 132 < 132; omega))
  clear hs hd hlow hok hy45
  obtain ⟨V7, hV7⟩ : ∃ V, V = w3 := ⟨_, rfl⟩
  subst hV7
  have HS7 := Lib.hid hS
  clear hS
  have HT7 := Lib.hid (fun (V : World) (hV : Below V7.heap.size V7 V) => HTT.out V (HS7.out.trans (hV.mono HS7.out.size)))
  have HU7 := Lib.hid (fun (V : World) (hV : Below V7.heap.size V7 V) => HUU.out V (HS7.out.trans (hV.mono HS7.out.size)))
  have HK7 := Lib.hid (fun (V : World) (hV : Below V7.heap.size V7 V) => HKK.out V (HS7.out.trans (hV.mono HS7.out.size)))
  have D7 := Lib.hid (D4.out.trans (HS7.out.mono D4.out.size))
  clear HTT HUU HKK HS7 D4 HG1 HG2
  obtain ⟨gl, hgl⟩ : ∃ g, TP.getA l ⟨ac, ah, aj, ak, ai⟩ = g := ⟨_, rfl⟩
  have HGL := Lib.hid hgl
  have HE1 := Lib.hid (show decide (es = es ∧ TP.normA (TP.withA lu ⟨ac, ah, aj, ak, ai⟩ gl) = TP.normA l) = true from decide_eq_true ⟨rfl, by rw [← hlu, ← hgl]; exact TP.with_get l _ x⟩)
  have HG3 := Lib.hid (show TP.getA (TP.withA l ⟨ac, ah, aj, ak, ai⟩ (-x)) ⟨ac, ah, aj, ak, ai⟩ = 0 by rw [TP.get_with, if_pos rfl]; omega)
  have hng : IntKind.i64.wrap (-x) = -x := IntWalk.i64_in _ (by omega)
  have h00 : ((0 : Int) != 0) = false := rfl
  go_upto_region 9 with (fail)
  refine RgX.region 19 (fun i => ( 60 + i)) (fun ix_ => match ix_ with | 0 => .v (.agg #[.slice Eu es.length cu, .slice Au lu.length du]) | 1 => .v (.agg #[.int .i64 ac, .int .i64 ah, .int .i64 aj, .int .i64 ak, .int .i64 ai]) | 2 => .v (.agg #[.slice E es.length ce, .slice A l.length ca]) | 3 => .v (.agg #[.int .i64 ac, .int .i64 ah, .int .i64 aj, .int .i64 ak, .int .i64 ai]) | 4 => .v (.int .i64 gl) | 5 => .tape V7.heap.size es (TP.withA lu ⟨ac, ah, aj, ak, ai⟩ gl) es.length (TP.withA lu ⟨ac, ah, aj, ak, ai⟩ gl).length | 6 => .v (.agg #[.slice E es.length ce, .slice A l.length ca]) | 7 => .v (.bool true) | 8 => .v (.bool false) | 9 => .v (.bool false) | 10 => .v (.agg #[.slice E es.length ce, .slice A l.length ca]) | 11 => .v (.agg #[.int .i64 ac, .int .i64 ah, .int .i64 aj, .int .i64 ak, .int .i64 ai]) | 12 => .v (.int .i64 x) | 13 => .v (.int .i64 (-x)) | 14 => .tape V7.heap.size es (TP.withA l ⟨ac, ah, aj, ak, ai⟩ (-x)) es.length (TP.withA l ⟨ac, ah, aj, ak, ai⟩ (-x)).length | 15 => .v (.agg #[.int .i64 ac, .int .i64 ah, .int .i64 aj, .int .i64 ak, .int .i64 ai]) | 16 => .v (.int .i64 0) | 17 => .v (.bool false) | 18 => .v (.bool false) | _ => .any) (by kernel_rfl) rfl (by kernel_rfl)  (fun i hi => by show ( 60 + i) < 132; (repeat' split) <;> omega) (fun i j hi hj => by show ( 60 + i) = ( 60 + j) → i = j; (repeat' split) <;> omega) ?step ?fin
  case step =>
    intro L_ A_ w3 ix op_ hI ho hdep
    have hi : ix < 19 := (Array.getElem?_eq_some_iff.1 ho).1
    have hcase : ix = 0 ∨ ix = 1 ∨ ix = 2 ∨ ix = 3 ∨ ix = 4 ∨ ix = 5 ∨ ix = 6 ∨ ix = 7 ∨ ix = 8 ∨ ix = 9 ∨ ix = 10 ∨ ix = 11 ∨ ix = 12 ∨ ix = 13 ∨ ix = 14 ∨ ix = 15 ∨ ix = 16 ∨ ix = 17 ∨ ix = 18 := by omega
    have hh := hI.held
    clear hi
    rcases hcase with rfl | rfl | rfl | rfl | rfl | rfl | rfl | rfl | rfl | rfl | rfl | rfl | rfl | rfl | rfl | rfl | rfl | rfl | rfl
    · simp only [List.getElem?_toArray, List.getElem?_cons_zero, Option.some.injEq] at ho
      subst ho
      refine ⟨rfl, ?_⟩
      have e18 : A_.tmps[18]?.getD undef = .pointer (some ⟨gu, 0, none⟩) := by rw [hI.low 18 (by decide)]; rfl
      clear hI hdep
      obtain ⟨⟨⟨t0, t1⟩, p0, p1, p2, p3, p4⟩, ⟨q0, q1, q2, q3, q4⟩, u0, u1⟩ := HK7.out w3 hh
      exact .run rfl (.agg #[.slice Eu es.length cu, .slice Au lu.length du]) w3 (by simp [execOp, go_sem, Act.eval, *]) (Below.refl _ _) rfl
    · simp only [List.getElem?_toArray, List.getElem?_cons_succ, List.getElem?_cons_zero, Option.some.injEq] at ho
      subst ho
      refine ⟨rfl, ?_⟩
      have e14 : A_.tmps[14]?.getD undef = .pointer (some ⟨ga, 0, none⟩) := by rw [hI.low 14 (by decide)]; rfl
      clear hI hdep
      obtain ⟨⟨⟨t0, t1⟩, p0, p1, p2, p3, p4⟩, ⟨q0, q1, q2, q3, q4⟩, u0, u1⟩ := HK7.out w3 hh
      exact .run rfl (.agg #[.int .i64 ac, .int .i64 ah, .int .i64 aj, .int .i64 ak, .int .i64 ai]) w3 (by simp [execOp, go_sem, Act.eval, *]) (Below.refl _ _) rfl
    · simp only [List.getElem?_toArray, List.getElem?_cons_succ, List.getElem?_cons_zero, Option.some.injEq] at ho
      subst ho
      refine ⟨rfl, ?_⟩
      have e13 : A_.tmps[13]?.getD undef = .pointer (some ⟨gt, 0, none⟩) := by rw [hI.low 13 (by decide)]; rfl
      clear hI hdep
      obtain ⟨⟨⟨t0, t1⟩, p0, p1, p2, p3, p4⟩, ⟨q0, q1, q2, q3, q4⟩, u0, u1⟩ := HK7.out w3 hh
      exact .run rfl (.agg #[.slice E es.length ce, .slice A l.length ca]) w3 (by simp [execOp, go_sem, Act.eval, *]) (Below.refl _ _) rfl
    · simp only [List.getElem?_toArray, List.getElem?_cons_succ, List.getElem?_cons_zero, Option.some.injEq] at ho
      subst ho
      refine ⟨rfl, ?_⟩
      have e14 : A_.tmps[14]?.getD undef = .pointer (some ⟨ga, 0, none⟩) := by rw [hI.low 14 (by decide)]; rfl
      clear hI hdep
      obtain ⟨⟨⟨t0, t1⟩, p0, p1, p2, p3, p4⟩, ⟨q0, q1, q2, q3, q4⟩, u0, u1⟩ := HK7.out w3 hh
      exact .run rfl (.agg #[.int .i64 ac, .int .i64 ah, .int .i64 aj, .int .i64 ak, .int .i64 ai]) w3 (by simp [execOp, go_sem, Act.eval, *]) (Below.refl _ _) rfl
    · simp only [List.getElem?_toArray, List.getElem?_cons_succ, List.getElem?_cons_zero, Option.some.injEq] at ho
      subst ho
      refine ⟨rfl, ?_⟩
      have e62 : A_.tmps[62]?.getD undef = .agg #[.slice E es.length ce, .slice A l.length ca] := getD_of (hI.val_ (i := 2) rfl rfl (by decide) (hdep ⟨2, .data⟩ (by simp) rfl))
      have e63 : A_.tmps[63]?.getD undef = .agg #[.int .i64 ac, .int .i64 ah, .int .i64 aj, .int .i64 ak, .int .i64 ai] := getD_of (hI.val_ (i := 3) rfl rfl (by decide) (hdep ⟨3, .data⟩ (by simp) rfl))
      clear hI hdep
      exact .call rfl 21 #[.agg #[.slice E es.length ce, .slice A l.length ca], .agg #[.int .i64 ac, .int .i64 ah, .int .i64 aj, .int .i64 ak, .int .i64 ai]] (by simp [go_sem, Act.eval, e62, e63]) ((HGL.out ▸ get_any ⟨ac, ah, aj, ak, ai⟩ w3 (HT7.out w3 hh)).mono fun _ _ ⟨h1_, h2_⟩ => ⟨⟨_, h1_, rfl⟩, h2_⟩)
    · simp only [List.getElem?_toArray, List.getElem?_cons_succ, List.getElem?_cons_zero, Option.some.injEq] at ho
      subst ho
      refine ⟨rfl, ?_⟩
      have e60 : A_.tmps[60]?.getD undef = .agg #[.slice Eu es.length cu, .slice Au lu.length du] := getD_of (hI.val_ (i := 0) rfl rfl (by decide) (hdep ⟨0, .data⟩ (by simp) rfl))
      have e61 : A_.tmps[61]?.getD undef = .agg #[.int .i64 ac, .int .i64 ah, .int .i64 aj, .int .i64 ak, .int .i64 ai] := getD_of (hI.val_ (i := 1) rfl rfl (by decide) (hdep ⟨1, .data⟩ (by simp) rfl))
      have e64 : A_.tmps[64]?.getD undef = .int .i64 gl := getD_of (hI.val_ (i := 4) rfl rfl (by decide) (hdep ⟨4, .data⟩ (by simp) rfl))
      clear hI hdep
      exact .call rfl 23 #[.agg #[.slice Eu es.length cu, .slice Au lu.length du], .agg #[.int .i64 ac, .int .i64 ah, .int .i64 aj, .int .i64 ak, .int .i64 ai], .int .i64 gl] (by simp [go_sem, Act.eval, e60, e61, e64]) (RgX.tape_calls_lo hh.size rfl rfl (with_any ⟨ac, ah, aj, ak, ai⟩ gl w3 (HU7.out w3 hh)))
    · simp only [List.getElem?_toArray, List.getElem?_cons_succ, List.getElem?_cons_zero, Option.some.injEq] at ho
      subst ho
      refine ⟨rfl, ?_⟩
      have e13 : A_.tmps[13]?.getD undef = .pointer (some ⟨gt, 0, none⟩) := by rw [hI.low 13 (by decide)]; rfl
      clear hI hdep
      obtain ⟨⟨⟨t0, t1⟩, p0, p1, p2, p3, p4⟩, ⟨q0, q1, q2, q3, q4⟩, u0, u1⟩ := HK7.out w3 hh
      exact .run rfl (.agg #[.slice E es.length ce, .slice A l.length ca]) w3 (by simp [execOp, go_sem, Act.eval, *]) (Below.refl _ _) rfl
    · simp only [List.getElem?_toArray, List.getElem?_cons_succ, List.getElem?_cons_zero, Option.some.injEq] at ho
      subst ho
      refine ⟨rfl, ?_⟩
      obtain ⟨_, e65, E65, c65, A65, d65, rfl, h65⟩ := hI.get_ (i := 5) (j := 65) rfl rfl (by decide) (hdep ⟨5, .data⟩ (by simp) rfl)
      have e66 : A_.tmps[66]?.getD undef = .agg #[.slice E es.length ce, .slice A l.length ca] := getD_of (hI.val_ (i := 6) rfl rfl (by decide) (hdep ⟨6, .data⟩ (by simp) rfl))
      clear hI hdep
      exact .call rfl 19 #[.agg #[.slice E65 es.length c65, .slice A65 (TP.withA lu ⟨ac, ah, aj, ak, ai⟩ gl).length d65], .agg #[.slice E es.length ce, .slice A l.length ca]] (by simp [go_sem, Act.eval, e65, e66]) ((HE1.out ▸ equalP_any w3 (TapeIs.tin h65 (by omega) (by have := wl lu ⟨ac, ah, aj, ak, ai⟩ gl 11 hlun (by omega); omega)) (HT7.out w3 hh)).mono fun _ _ ⟨h1_, h2_⟩ => ⟨⟨_, h1_, rfl⟩, h2_⟩)
    · simp only [List.getElem?_toArray, List.getElem?_cons_succ, List.getElem?_cons_zero, Option.some.injEq] at ho
      subst ho
      refine ⟨rfl, ?_⟩
      have e67 : A_.tmps[67]?.getD undef = .bool true := getD_of (hI.val_ (i := 7) rfl rfl (by decide) (hdep ⟨7, .data⟩ (by simp) rfl))
      clear hI hdep
      exact .run rfl (.bool false) w3 (by simp [execOp, go_sem, Act.eval, e67]) (Below.refl _ _) rfl
    · simp only [List.getElem?_toArray, List.getElem?_cons_succ, List.getElem?_cons_zero, Option.some.injEq] at ho
      subst ho
      refine ⟨rfl, ?_⟩
      have e68 : A_.tmps[68]?.getD undef = .bool false := getD_of (hI.val_ (i := 8) rfl rfl (by decide) (hdep ⟨8, .data⟩ (by simp) rfl))
      clear hI hdep
      exact .run rfl (.bool false) w3 (by simp [execOp, go_sem, Act.eval, e68]) (Below.refl _ _) rfl
    · simp only [List.getElem?_toArray, List.getElem?_cons_succ, List.getElem?_cons_zero, Option.some.injEq] at ho
      subst ho
      refine ⟨rfl, ?_⟩
      have q69 : A_.tmps[69]? = some (.bool false) := hI.val_ (i := 9) rfl rfl (by decide) (hdep ⟨9, .guard⟩ (by simp) rfl)
      have e13 : A_.tmps[13]?.getD undef = .pointer (some ⟨gt, 0, none⟩) := by rw [hI.low 13 (by decide)]; rfl
      clear hI hdep
      obtain ⟨⟨⟨t0, t1⟩, p0, p1, p2, p3, p4⟩, ⟨q0, q1, q2, q3, q4⟩, u0, u1⟩ := HK7.out w3 hh
      exact .run ((wanted_some rfl rfl q69).trans rfl) (.agg #[.slice E es.length ce, .slice A l.length ca]) w3 (by simp [execOp, go_sem, Act.eval, *]) (Below.refl _ _) rfl
    · simp only [List.getElem?_toArray, List.getElem?_cons_succ, List.getElem?_cons_zero, Option.some.injEq] at ho
      subst ho
      refine ⟨rfl, ?_⟩
      have q69 : A_.tmps[69]? = some (.bool false) := hI.val_ (i := 9) rfl rfl (by decide) (hdep ⟨9, .guard⟩ (by simp) rfl)
      have e14 : A_.tmps[14]?.getD undef = .pointer (some ⟨ga, 0, none⟩) := by rw [hI.low 14 (by decide)]; rfl
      clear hI hdep
      obtain ⟨⟨⟨t0, t1⟩, p0, p1, p2, p3, p4⟩, ⟨q0, q1, q2, q3, q4⟩, u0, u1⟩ := HK7.out w3 hh
      exact .run ((wanted_some rfl rfl q69).trans rfl) (.agg #[.int .i64 ac, .int .i64 ah, .int .i64 aj, .int .i64 ak, .int .i64 ai]) w3 (by simp [execOp, go_sem, Act.eval, *]) (Below.refl _ _) rfl
    · simp only [List.getElem?_toArray, List.getElem?_cons_succ, List.getElem?_cons_zero, Option.some.injEq] at ho
      subst ho
      refine ⟨rfl, ?_⟩
      have q69 : A_.tmps[69]? = some (.bool false) := hI.val_ (i := 9) rfl rfl (by decide) (hdep ⟨9, .guard⟩ (by simp) rfl)
      have e16 : A_.tmps[16]?.getD undef = .int .i64 x := by rw [hI.low 16 (by decide)]; rfl
      clear hI hdep
      exact .run ((wanted_some rfl rfl q69).trans rfl) (.int .i64 x) w3 (by simp [execOp, go_sem, Act.eval, e16]) (Below.refl _ _) rfl
    · simp only [List.getElem?_toArray, List.getElem?_cons_succ, List.getElem?_cons_zero, Option.some.injEq] at ho
      subst ho
      refine ⟨rfl, ?_⟩
      have q69 : A_.tmps[69]? = some (.bool false) := hI.val_ (i := 9) rfl rfl (by decide) (hdep ⟨9, .guard⟩ (by simp) rfl)
      have e72 : A_.tmps[72]?.getD undef = .int .i64 x := getD_of (hI.val_ (i := 12) rfl rfl (by decide) (hdep ⟨12, .data⟩ (by simp) rfl))
      clear hI hdep
      exact .run ((wanted_some rfl rfl q69).trans rfl) (.int .i64 (-x)) w3 (by simp [execOp, go_sem, Act.eval, e72, hng]) (Below.refl _ _) rfl
    · simp only [List.getElem?_toArray, List.getElem?_cons_succ, List.getElem?_cons_zero, Option.some.injEq] at ho
      subst ho
      refine ⟨rfl, ?_⟩
      have q69 : A_.tmps[69]? = some (.bool false) := hI.val_ (i := 9) rfl rfl (by decide) (hdep ⟨9, .guard⟩ (by simp) rfl)
      have e70 : A_.tmps[70]?.getD undef = .agg #[.slice E es.length ce, .slice A l.length ca] := getD_of (hI.val_ (i := 10) rfl rfl (by decide) (hdep ⟨10, .data⟩ (by simp) rfl))
      have e71 : A_.tmps[71]?.getD undef = .agg #[.int .i64 ac, .int .i64 ah, .int .i64 aj, .int .i64 ak, .int .i64 ai] := getD_of (hI.val_ (i := 11) rfl rfl (by decide) (hdep ⟨11, .data⟩ (by simp) rfl))
      have e73 : A_.tmps[73]?.getD undef = .int .i64 (-x) := getD_of (hI.val_ (i := 13) rfl rfl (by decide) (hdep ⟨13, .data⟩ (by simp) rfl))
      clear hI hdep
      exact .call ((wanted_some rfl rfl q69).trans rfl) 23 #[.agg #[.slice E es.length ce, .slice A l.length ca], .agg #[.int .i64 ac, .int .i64 ah, .int .i64 aj, .int .i64 ak, .int .i64 ai], .int .i64 (-x)] (by simp [go_sem, Act.eval, e70, e71, e73]) (RgX.tape_calls_lo hh.size rfl rfl (with_any ⟨ac, ah, aj, ak, ai⟩ (-x) w3 (HT7.out w3 hh)))
    · simp only [List.getElem?_toArray, List.getElem?_cons_succ, List.getElem?_cons_zero, Option.some.injEq] at ho
      subst ho
      refine ⟨rfl, ?_⟩
      have q69 : A_.tmps[69]? = some (.bool false) := hI.val_ (i := 9) rfl rfl (by decide) (hdep ⟨9, .guard⟩ (by simp) rfl)
      have e14 : A_.tmps[14]?.getD undef = .pointer (some ⟨ga, 0, none⟩) := by rw [hI.low 14 (by decide)]; rfl
      clear hI hdep
      obtain ⟨⟨⟨t0, t1⟩, p0, p1, p2, p3, p4⟩, ⟨q0, q1, q2, q3, q4⟩, u0, u1⟩ := HK7.out w3 hh
      exact .run ((wanted_some rfl rfl q69).trans rfl) (.agg #[.int .i64 ac, .int .i64 ah, .int .i64 aj, .int .i64 ak, .int .i64 ai]) w3 (by simp [execOp, go_sem, Act.eval, *]) (Below.refl _ _) rfl
    · simp only [List.getElem?_toArray, List.getElem?_cons_succ, List.getElem?_cons_zero, Option.some.injEq] at ho
      subst ho
      refine ⟨rfl, ?_⟩
      have q69 : A_.tmps[69]? = some (.bool false) := hI.val_ (i := 9) rfl rfl (by decide) (hdep ⟨9, .guard⟩ (by simp) rfl)
      obtain ⟨_, e74, E74, c74, A74, d74, rfl, h74⟩ := hI.get_ (i := 14) (j := 74) rfl rfl (by decide) (hdep ⟨14, .data⟩ (by simp) rfl)
      have e75 : A_.tmps[75]?.getD undef = .agg #[.int .i64 ac, .int .i64 ah, .int .i64 aj, .int .i64 ak, .int .i64 ai] := getD_of (hI.val_ (i := 15) rfl rfl (by decide) (hdep ⟨15, .data⟩ (by simp) rfl))
      clear hI hdep
      exact .call ((wanted_some rfl rfl q69).trans rfl) 21 #[.agg #[.slice E74 es.length c74, .slice A74 (TP.withA l ⟨ac, ah, aj, ak, ai⟩ (-x)).length d74], .agg #[.int .i64 ac, .int .i64 ah, .int .i64 aj, .int .i64 ak, .int .i64 ai]] (by simp [go_sem, Act.eval, e74, e75]) ((HG3.out ▸ get_any ⟨ac, ah, aj, ak, ai⟩ w3 (TapeIs.tin h74 (by omega) (by have := wl l ⟨ac, ah, aj, ak, ai⟩ (-x) 10 hl10 (by omega); omega))).mono fun _ _ ⟨h1_, h2_⟩ => ⟨⟨_, h1_, rfl⟩, h2_⟩)
    · simp only [List.getElem?_toArray, List.getElem?_cons_succ, List.getElem?_cons_zero, Option.some.injEq] at ho
      subst ho
      refine ⟨rfl, ?_⟩
      have q69 : A_.tmps[69]? = some (.bool false) := hI.val_ (i := 9) rfl rfl (by decide) (hdep ⟨9, .guard⟩ (by simp) rfl)
      have e76 : A_.tmps[76]?.getD undef = .int .i64 0 := getD_of (hI.val_ (i := 16) rfl rfl (by decide) (hdep ⟨16, .data⟩ (by simp) rfl))
      clear hI hdep
      exact .run ((wanted_some rfl rfl q69).trans rfl) (.bool false) w3 (by simp [execOp, go_sem, Act.eval, *]) (Below.refl _ _) rfl
    · simp only [List.getElem?_toArray, List.getElem?_cons_succ, List.getElem?_cons_zero, Option.some.injEq] at ho
      subst ho
      refine ⟨rfl, ?_⟩
      have e69 : A_.tmps[69]?.getD undef = .bool false := getD_of (hI.val_ (i := 9) rfl rfl (by decide) (hdep ⟨9, .data⟩ (by simp) rfl))
      have e77 : A_.tmps[77]?.getD undef = .bool false := getD_of (hI.val_ (i := 17) rfl rfl (by decide) (hdep ⟨17, .data⟩ (by simp) rfl))
      clear hI hdep
      exact .run rfl (.bool false) w3 (by simp [execOp, go_sem, Act.eval, e69, e77]) (Below.refl _ _) rfl
  case fin =>
  intro A_ w3 hs hd hlow hS hok
  obtain ⟨_, hy65, E65, c65, A65, d65, rfl, h65⟩ := hok 5 65 _ (by decide) rfl rfl
  obtain ⟨_, hy74, E74, c74, A74, d74, rfl, h74⟩ := hok 14 74 _ (by decide) rfl rfl
  obtain rfl : A_ = ⟨#[.slice a0 len0 cap0, .slice a1 len1 cap1, .int .i64 a2, .int .i64 a3, .int .i64 a4, .int .i64 a5, undef, undef, undef, undef, undef, undef, .bool false, .pointer (some ⟨gt, 0, none⟩), .pointer (some ⟨ga, 0, none⟩), .pointer (some ⟨gb, 0, none⟩), .int .i64 x, .int .i64 y, .pointer (some ⟨gu, 0, none⟩), undef, undef, .slice a0 len0 cap0, .slice a1 len1 cap1, .agg #[.slice E es.length ce, .slice A l.length ca], .int .i64 a2, quV { c := ac, h := ah, t := aj, k := ak, i := ai }, .int .i64 a3, quV { c := bc, h := bh, t := bj, k := bk, i := bi }, .int .i64 a4, .int .i64 x, .int .i64 a5, .int .i64 y, .agg #[.slice E es.length ce, .slice A l.length ca], .agg #[.int .i64 ac, .int .i64 ah, .int .i64 aj, .int .i64 ak, .int .i64 ai], .int .i64 x, .agg #[.slice Eu es.length cu, .slice Au lu.length du], .agg #[.slice Eu es.length cu, .slice Au lu.length du], .agg #[.int .i64 ac, .int .i64 ah, .int .i64 aj, .int .i64 ak, .int .i64 ai], .int .i64 x, .int .i64 x, .bool false, .bool false, .agg #[.slice Eu es.length cu, .slice Au lu.length du], .agg #[.int .i64 ac, .int .i64 ah, .int .i64 aj, .int .i64 ak, .int .i64 ai], .int .i64 y, .agg #[.slice E45 es.length c45, .slice A45 (TP.withA lu { c := ac, h := ah, t := aj, k := ak, i := ai } y).length d45], .agg #[.int .i64 ac, .int .i64 ah, .int .i64 aj, .int .i64 ak, .int .i64 ai], .int .i64 y, .int .i64 y, .bool false, .bool false, .bool false, .pointer (some ⟨gu, 0, none⟩), .slice Eu es.length cu, .int .i64 (es.length : Int), .pointer (some ⟨gt, 0, none⟩), .slice E es.length ce, .int .i64 (es.length : Int), .bool false, .bool false, .agg #[.slice Eu es.length cu, .slice Au lu.length du], .agg #[.int .i64 ac, .int .i64 ah, .int .i64 aj, .int .i64 ak, .int .i64 ai], .agg #[.slice E es.length ce, .slice A l.length ca], .agg #[.int .i64 ac, .int .i64 ah, .int .i64 aj, .int .i64 ak, .int .i64 ai], .int .i64 gl, .agg #[.slice E65 es.length c65, .slice A65 (TP.withA lu ⟨ac, ah, aj, ak, ai⟩ gl).length d65], .agg #[.slice E es.length ce, .slice A l.length ca], .bool true, .bool false, .bool false, .agg #[.slice E es.length ce, .slice A l.length ca], .agg #[.int .i64 ac, .int .i64 ah, .int .i64 aj, .int .i64 ak, .int .i64 ai], .int .i64 x, .int .i64 (-x), .agg #[.slice E74 es.length c74, .slice A74 (TP.withA l ⟨ac, ah, aj, ak, ai⟩ (-x)).length d74], .agg #[.int .i64 ac, .int .i64 ah, .int .i64 aj, .int .i64 ak, .int .i64 ai], .int .i64 0, .bool false, .bool false, undef, undef, undef, undef, undef, undef, undef, undef, undef, undef, undef, undef, undef, undef, undef, undef, undef, undef, undef, undef, undef, undef, undef, undef, undef, undef, undef, undef, undef, undef, undef, undef, undef, undef, undef, undef, undef, undef, undef, undef, undef, undef, undef, undef, undef, undef, undef, undef, undef, undef, undef, undef, undef], []⟩ := act_ext hd hs (fun j hj => match j, hj with | 0, _ => (hlow 0 (by decide)).trans rfl | 1, _ => (hlow 1 (by decide)).trans rfl | 2, _ => (hlow 2 (by decide)).trans rfl | 3, _ => (hlow 3 (by decide)).trans rfl | 4, _ => (hlow 4 (by decide)).trans rfl | 5, _ => (hlow 5 (by decide)).trans rfl | 6, _ => (hlow 6 (by decide)).trans rfl | 7, _ => (hlow 7 (by decide)).trans rfl | 8, _ => (hlow 8 (by decide)).trans rfl | 9, _ => (hlow 9 (by decide)).trans rfl | 10, _ => (hlow 10 (by decide)).trans rfl | 11, _ => (hlow 11 (by decide)).trans rfl | 12, _ => (hlow 12 (by decide)).trans rfl | 13, _ => (hlow 13 (by decide)).trans rfl | 14, _ => (hlow 14 (by decide)).trans rfl | 15, _ => (hlow 15 (by decide)).trans rfl | 16, _ => (hlow 16 (by decide)).trans rfl | 17, _ => (hlow 17 (by decide)).trans rfl | 18, _ => (hlow 18 (by decide)).trans rfl | 19, _ => (hlow 19 (by decide)).trans rfl | 20, _ => (hlow 20 (by decide)).trans rfl | 21, _ => (hlow 21 (by decide)).trans rfl | 22, _ => (hlow 22 (by decide)).trans rfl | 23, _ => (hlow 23 (by decide)).trans rfl | 24, _ => (hlow 24 (by decide)).trans rfl | 25, _ => (hlow 25 (by decide)).trans rfl | 26, _ => (hlow 26 (by decide)).trans rfl | 27, _ => (hlow 27 (by decide)).trans rfl | 28, _ => (hlow 28 (by decide)).trans rfl | 29, _ => (hlow 29 (by decide)).trans rfl | 30, _ => (hlow 30 (by decide)).trans rfl | 31, _ => (hlow 31 (by decide)).trans rfl | 32, _ => (hlow 32 (by decide)).trans rfl | 33, _ => (hlow 33 (by decide)).trans rfl | 34, _ => (hlow 34 (by decide)).trans rfl | 35, _ => (hlow 35 (by decide)).trans rfl | 36, _ => (hlow 36 (by decide)).trans rfl | 37, _ => (hlow 37 (by decide)).trans rfl | 38, _ => (hlow 38 (by decide)).trans rfl | 39, _ => (hlow 39 (by decide)).trans rfl | 40, _ => (hlow 40 (by decide)).trans rfl | 41, _ => (hlow 41 (by decide)).trans rfl | 42, _ => (hlow 42 (by decide)).trans rfl | 43, _ => (hlow 43 (by decide)).trans rfl | 44, _ => (hlow 44 (by decide)).trans rfl | 45, _ => (hlow 45 (by decide)).trans rfl | 46, _ => (hlow 46 (by decide)).trans rfl | 47, _ => (hlow 47 (by decide)).trans rfl | 48, _ => (hlow 48 (by decide)).trans rfl | 49, _ => (hlow 49 (by decide)).trans rfl | 50, _ => (hlow 50 (by decide)).trans rfl | 51, _ => (hlow 51 (by decide)).trans rfl | 52, _ => (hlow 52 (by decide)).trans rfl | 53, _ => (hlow 53 (by decide)).trans rfl | 54, _ => (hlow 54 (by decide)).trans rfl | 55, _ => (hlow 55 (by decide)).trans rfl | 56, _ => (hlow 56 (by decide)).trans rfl | 57, _ => (hlow 57 (by decide)).trans rfl | 58, _ => (hlow 58 (by decide)).trans rfl | 59, _ => (hlow 59 (by decide)).trans rfl | 60, _ => RgX.val_at (hok 0 60 _ (by decide) rfl rfl) | 61, _ => RgX.val_at (hok 1 61 _ (by decide) rfl rfl) | 62, _ => RgX.val_at (hok 2 62 _ (by decide) rfl rfl) | 63, _ => RgX.val_at (hok 3 63 _ (by decide) rfl rfl) | 64, _ => RgX.val_at (hok 4 64 _ (by decide) rfl rfl) | 65, _ => hy65 | 66, _ => RgX.val_at (hok 6 66 _ (by decide) rfl rfl) | 67, _ => RgX.val_at (hok 7 67 _ (by decide) rfl rfl) | 68, _ => RgX.val_at (hok 8 68 _ (by decide) rfl rfl) | 69, _ => RgX.val_at (hok 9 69 _ (by decide) rfl rfl) | 70, _ => RgX.val_at (hok 10 70 _ (by decide) rfl rfl) | 71, _ => RgX.val_at (hok 11 71 _ (by decide) rfl rfl) | 72, _ => RgX.val_at (hok 12 72 _ (by decide) rfl rfl) | 73, _ => RgX.val_at (hok 13 73 _ (by decide) rfl rfl) | 74, _ => hy74 | 75, _ => RgX.val_at (hok 15 75 _ (by decide) rfl rfl) | 76, _ => RgX.val_at (hok 16 76 _ (by decide) rfl rfl) | 77, _ => RgX.val_at (hok 17 77 _ (by decide) rfl rfl) | 78, _ => RgX.val_at (hok 18 78 _ (by decide) rfl rfl) | 79, _ => (hlow 79 (by decide)).trans rfl | 80, _ => (hlow 80 (by decide)).trans rfl | 81, _ => (hlow 81 (by decide)).trans rfl | 82, _ => (hlow 82 (by decide)).trans rfl | 83, _ => (hlow 83 (by decide)).trans rfl | 84, _ => (hlow 84 (by decide)).trans rfl | 85, _ => (hlow 85 (by decide)).trans rfl | 86, _ => (hlow 86 (by decide)).trans rfl | 87, _ => (hlow 87 (by decide)).trans rfl | 88, _ => (hlow 88 (by decide)).trans rfl | 89, _ => (hlow 89 (by decide)).trans rfl | 90, _ => (hlow 90 (by decide)).trans rfl | 91, _ => (hlow 91 (by decide)).trans rfl | 92, _ => (hlow 92 (by decide)).trans rfl | 93, _ => (hlow 93 (by decide)).trans rfl | 94, _ => (hlow 94 (by decide)).trans rfl | 95, _ => (hlow 95 (by decide)).trans rfl | 96, _ => (hlow 96 (by decide)).trans rfl | 97, _ => (hlow 97 (by decide)).trans rfl | 98, _ => (hlow 98 (by decide)).trans rfl | 99, _ => (hlow 99 (by decide)).trans rfl | 100, _ => (hlow 100 (by decide)).trans rfl | 101, _ => (hlow 101 (by decide)).trans rfl | 102, _ => (hlow 102 (by decide)).trans rfl | 103, _ => (hlow 103 (by decide)).trans rfl | 104, _ => (hlow 104 (by decide)).trans rfl | 105, _ => (hlow 105 (by decide)).trans rfl | 106, _ => (hlow 106 (by decide)).trans rfl | 107, _ => (hlow 107 (by decide)).trans rfl | 108, _ => (hlow 108 (by decide)).trans rfl | 109, _ => (hlow 109 (by decide)).trans rfl | 110, _ => (hlow 110 (by decide)).trans rfl | 111, _ => (hlow 111 (by decide)).trans rfl | 112, _ => (hlow 112 (by decide)).trans rfl | 113, _ => (hlow 113 (by decide)).trans rfl | 114, _ => (hlow 114 (by decide)).trans rfl | 115, _ => (hlow 115 (by decide)).trans rfl | 116, _ => (hlow 116 (by decide)).trans rfl | 117, _ => (hlow 117 (by decide)).trans rfl | 118, _ => (hlow 118 (by decide)).trans rfl | 119, _ => (hlow 119 (by decide)).trans rfl | 120, _ => (hlow 120 (by decide)).trans rfl | 121, _ => (hlow 121 (by decide)).trans rfl | 122, _ => (hlow 122 (by decide)).trans rfl | 123, _ => (hlow 123 (by decide)).trans rfl | 124, _ => (hlow 124 (by decide)).trans rfl | 125, _ => (hlow 125 (by decide)).trans rfl | 126, _ => (hlow 126 (by decide)).trans rfl | 127, _ => (hlow 127 (by decide)).trans rfl | 128, _ => (hlow 128 (by decide)).trans rfl | 129, _ => (hlow 129 (by decide)).trans rfl | 130, _ => (hlow 130 (by decide)).trans rfl | 131, _ => (hlow 131 (by decide)).trans rfl | n + 132, h => absurd h (by show ¬ n + 132 < 132; omega))
  clear hs hd hlow hok hy65 hy74
  obtain ⟨V9, hV9⟩ : ∃ V, V = w3 := ⟨_, rfl⟩
  subst hV9
  have HS9 := Lib.hid hS
  clear hS
  have HT9 := Lib.hid (fun (V : World) (hV : Below V9.heap.size V9 V) => HT7.out V (HS9.out.trans (hV.mono HS9.out.size)))
  have HU9 := Lib.hid (fun (V : World) (hV : Below V9.heap.size V9 V) => HU7.out V (HS9.out.trans (hV.mono HS9.out.size)))
  have HK9 := Lib.hid (fun (V : World) (hV : Below V9.heap.size V9 V) => HK7.out V (HS9.out.trans (hV.mono HS9.out.size)))
  have D9 := Lib.hid (D7.out.trans (HS9.out.mono D7.out.size))
  clear HT7 HU7 HK7 HS9 D7 HE1 HG3
  obtain ⟨⟨⟨t0, t1⟩, p0, p1, p2, p3, p4⟩, ⟨q0, q1, q2, q3, q4⟩, u0, u1⟩ := HK9.out V9 (Below.refl _ _)
  have hqq : ∀ V, (binOp .neq 30 (.agg #[.int .i64 ac, .int .i64 ah, .int .i64 aj, .int .i64 ak, .int .i64 ai]) (.agg #[.int .i64 bc, .int .i64 bh, .int .i64 bj, .int .i64 bk, .int .i64 bi])).run Try.prog V = .ok (.bool (!decide ((⟨ac, ah, aj, ak, ai⟩ : NM.Qu) = ⟨bc, bh, bj, bk, bi⟩))) V := fun V => eq_que' ac ah aj ak ai bc bh bj bk bi V
  obtain ⟨eq, heq⟩ : ∃ b : Bool, decide ((⟨ac, ah, aj, ak, ai⟩ : NM.Qu) = ⟨bc, bh, bj, bk, bi⟩) = b := ⟨_, rfl⟩
  rw [heq] at hqq
  go_upto_if 81 with (fail)
  clear hqq t0 t1 p0 p1 p2 p3 p4 q0 q1 q2 q3 q4 u0 u1
  go_cut [] from 82 to 103 (fun V => Hid (Below V9.heap.size V9 V))
  case first =>
    cases eq with
    | true =>
      go_wp2_with fail
      go_meet
      case rel => exact Below.refl _ _
    | false =>
      have hab : (⟨ac, ah, aj, ak, ai⟩ : NM.Qu) ≠ ⟨bc, bh, bj, bk, bi⟩ := of_decide_eq_false heq
      obtain ⟨gb', hgb⟩ : ∃ g, TP.getA l ⟨bc, bh, bj, bk, bi⟩ = g := ⟨_, rfl⟩
      have HGT := Lib.hid hgb
      have HGU := Lib.hid (show TP.getA lu ⟨bc, bh, bj, bk, bi⟩ = gb' by rw [← hlu, TP.get_with, if_neg hab]; exact hgb)
      have HE2 := Lib.hid (show decide (es = es ∧ TP.normA (TP.withA lu ⟨bc, bh, bj, bk, bi⟩ y) = TP.normA (TP.withA (TP.withA l ⟨bc, bh, bj, bk, bi⟩ y) ⟨ac, ah, aj, ak, ai⟩ x)) = true from decide_eq_true ⟨rfl, by rw [← hlu, TP.with_comm l hab]⟩)
      have hbb : (gb' != gb') = false := by simp
      clear hab hgb heq
      go_upto_region 12 with (fail)
      refine RgX.region 22 (fun i => ( 82 + i)) (fun ix_ => match ix_ with | 0 => .v (.agg #[.slice Eu es.length cu, .slice Au lu.length du]) | 1 => .v (.agg #[.int .i64 bc, .int .i64 bh, .int .i64 bj, .int .i64 bk, .int .i64 bi]) | 2 => .v (.int .i64 gb') | 3 => .v (.agg #[.slice E es.length ce, .slice A l.length ca]) | 4 => .v (.agg #[.int .i64 bc, .int .i64 bh, .int .i64 bj, .int .i64 bk, .int .i64 bi]) | 5 => .v (.int .i64 gb') | 6 => .v (.bool false) | 7 => .v (.bool false) | 8 => .v (.agg #[.slice Eu es.length cu, .slice Au lu.length du]) | 9 => .v (.agg #[.int .i64 bc, .int .i64 bh, .int .i64 bj, .int .i64 bk, .int .i64 bi]) | 10 => .v (.int .i64 y) | 11 => .tape V9.heap.size es (TP.withA lu ⟨bc, bh, bj, bk, bi⟩ y) es.length (TP.withA lu ⟨bc, bh, bj, bk, bi⟩ y).length | 12 => .v (.agg #[.slice E es.length ce, .slice A l.length ca]) | 13 => .v (.agg #[.int .i64 bc, .int .i64 bh, .int .i64 bj, .int .i64 bk, .int .i64 bi]) | 14 => .v (.int .i64 y) | 15 => .tape V9.heap.size es (TP.withA l ⟨bc, bh, bj, bk, bi⟩ y) es.length (TP.withA l ⟨bc, bh, bj, bk, bi⟩ y).length | 16 => .v (.agg #[.int .i64 ac, .int .i64 ah, .int .i64 aj, .int .i64 ak, .int .i64 ai]) | 17 => .v (.int .i64 x) | 18 => .tape V9.heap.size es (TP.withA (TP.withA l ⟨bc, bh, bj, bk, bi⟩ y) ⟨ac, ah, aj, ak, ai⟩ x) es.length (TP.withA (TP.withA l ⟨bc, bh, bj, bk, bi⟩ y) ⟨ac, ah, aj, ak, ai⟩ x).length | 19 => .v (.bool true) | 20 => .v (.bool false) | 21 => .v (.bool false) | _ => .any) (by kernel_rfl) rfl (by kernel_rfl)  (fun i hi => by show ( 82 + i) < 132; (repeat' split) <;> omega) (fun i j hi hj => by show ( 82 + i) = ( 82 + j) → i = j; (repeat' split) <;> omega) ?step ?fin
      case step =>
        intro L_ A_ w3 ix op_ hI ho hdep
        have hi : ix < 22 := (Array.getElem?_eq_some_iff.1 ho).1
        have hcase : ix = 0 ∨ ix = 1 ∨ ix = 2 ∨ ix = 3 ∨ ix = 4 ∨ ix = 5 ∨ ix = 6 ∨ ix = 7 ∨ ix = 8 ∨ ix = 9 ∨ ix = 10 ∨ ix = 11 ∨ ix = 12 ∨ ix = 13 ∨ ix = 14 ∨ ix = 15 ∨ ix = 16 ∨ ix = 17 ∨ ix = 18 ∨ ix = 19 ∨ ix = 20 ∨ ix = 21 := by omega
        have hh := hI.held
        clear hi
        rcases hcase with rfl | rfl | rfl | rfl | rfl | rfl | rfl | rfl | rfl | rfl | rfl | rfl | rfl | rfl | rfl | rfl | rfl | rfl | rfl | rfl | rfl | rfl
        · simp only [List.getElem?_toArray, List.getElem?_cons_zero, Option.some.injEq] at ho
          subst ho
          refine ⟨rfl, ?_⟩
          have e18 : A_.tmps[18]?.getD undef = .pointer (some ⟨gu, 0, none⟩) := by rw [hI.low 18 (by decide)]; rfl
          clear hI hdep
          obtain ⟨⟨⟨t0, t1⟩, p0, p1, p2, p3, p4⟩, ⟨q0, q1, q2, q3, q4⟩, u0, u1⟩ := HK9.out w3 hh
          exact .run rfl (.agg #[.slice Eu es.length cu, .slice Au lu.length du]) w3 (by simp [execOp, go_sem, Act.eval, *]) (Below.refl _ _) rfl
        · simp only [List.getElem?_toArray, List.getElem?_cons_succ, List.getElem?_cons_zero, Option.some.injEq] at ho
          subst ho
          refine ⟨rfl, ?_⟩
          have e15 : A_.tmps[15]?.getD undef = .pointer (some ⟨gb, 0, none⟩) := by rw [hI.low 15 (by decide)]; rfl
          clear hI hdep
          obtain ⟨⟨⟨t0, t1⟩, p0, p1, p2, p3, p4⟩, ⟨q0, q1, q2, q3, q4⟩, u0, u1⟩ := HK9.out w3 hh
          exact .run rfl (.agg #[.int .i64 bc, .int .i64 bh, .int .i64 bj, .int .i64 bk, .int .i64 bi]) w3 (by simp [execOp, go_sem, Act.eval, *]) (Below.refl _ _) rfl
        · simp only [List.getElem?_toArray, List.getElem?_cons_succ, List.getElem?_cons_zero, Option.some.injEq] at ho
          subst ho
          refine ⟨rfl, ?_⟩
          have e82 : A_.tmps[82]?.getD undef = .agg #[.slice Eu es.length cu, .slice Au lu.length du] := getD_of (hI.val_ (i := 0) rfl rfl (by decide) (hdep ⟨0, .data⟩ (by simp) rfl))
          have e83 : A_.tmps[83]?.getD undef = .agg #[.int .i64 bc, .int .i64 bh, .int .i64 bj, .int .i64 bk, .int .i64 bi] := getD_of (hI.val_ (i := 1) rfl rfl (by decide) (hdep ⟨1, .data⟩ (by simp) rfl))
          clear hI hdep
          exact .call rfl 21 #[.agg #[.slice Eu es.length cu, .slice Au lu.length du], .agg #[.int .i64 bc, .int .i64 bh, .int .i64 bj, .int .i64 bk, .int .i64 bi]] (by simp [go_sem, Act.eval, e82, e83]) ((HGU.out ▸ get_any ⟨bc, bh, bj, bk, bi⟩ w3 (HU9.out w3 hh)).mono fun _ _ ⟨h1_, h2_⟩ => ⟨⟨_, h1_, rfl⟩, h2_⟩)
        · simp only [List.getElem?_toArray, List.getElem?_cons_succ, List.getElem?_cons_zero, Option.some.injEq] at ho
          subst ho
          refine ⟨rfl, ?_⟩
          have e13 : A_.tmps[13]?.getD undef = .pointer (some ⟨gt, 0, none⟩) := by rw [hI.low 13 (by decide)]; rfl
          clear hI hdep
          obtain ⟨⟨⟨t0, t1⟩, p0, p1, p2, p3, p4⟩, ⟨q0, q1, q2, q3, q4⟩, u0, u1⟩ := HK9.out w3 hh
          exact .run rfl (.agg #[.slice E es.length ce, .slice A l.length ca]) w3 (by simp [execOp, go_sem, Act.eval, *]) (Below.refl _ _) rfl
        · simp only [List.getElem?_toArray, List.getElem?_cons_succ, List.getElem?_cons_zero, Option.some.injEq] at ho
          subst ho
          refine ⟨rfl, ?_⟩
          have e15 : A_.tmps[15]?.getD undef = .pointer (some ⟨gb, 0, none⟩) := by rw [hI.low 15 (by decide)]; rfl
          clear hI hdep
          obtain ⟨⟨⟨t0, t1⟩, p0, p1, p2, p3, p4⟩, ⟨q0, q1, q2, q3, q4⟩, u0, u1⟩ := HK9.out w3 hh
          exact .run rfl (.agg #[.int .i64 bc, .int .i64 bh, .int .i64 bj, .int .i64 bk, .int .i64 bi]) w3 (by simp [execOp, go_sem, Act.eval, *]) (Below.refl _ _) rfl
        · simp only [List.getElem?_toArray, List.getElem?_cons_succ, List.getElem?_cons_zero, Option.some.injEq] at ho
          subst ho
          refine ⟨rfl, ?_⟩
          have e85 : A_.tmps[85]?.getD undef = .agg #[.slice E es.length ce, .slice A l.length ca] := getD_of (hI.val_ (i := 3) rfl rfl (by decide) (hdep ⟨3, .data⟩ (by simp) rfl))
          have e86 : A_.tmps[86]?.getD undef = .agg #[.int .i64 bc, .int .i64 bh, .int .i64 bj, .int .i64 bk, .int .i64 bi] := getD_of (hI.val_ (i := 4) rfl rfl (by decide) (hdep ⟨4, .data⟩ (by simp) rfl))
          clear hI hdep
          exact .call rfl 21 #[.agg #[.slice E es.length ce, .slice A l.length ca], .agg #[.int .i64 bc, .int .i64 bh, .int .i64 bj, .int .i64 bk, .int .i64 bi]] (by simp [go_sem, Act.eval, e85, e86]) ((HGT.out ▸ get_any ⟨bc, bh, bj, bk, bi⟩ w3 (HT9.out w3 hh)).mono fun _ _ ⟨h1_, h2_⟩ => ⟨⟨_, h1_, rfl⟩, h2_⟩)
        · simp only [List.getElem?_toArray, List.getElem?_cons_succ, List.getElem?_cons_zero, Option.some.injEq] at ho
          subst ho
          refine ⟨rfl, ?_⟩
          have e84 : A_.tmps[84]?.getD undef = .int .i64 gb' := getD_of (hI.val_ (i := 2) rfl rfl (by decide) (hdep ⟨2, .data⟩ (by simp) rfl))
          have e87 : A_.tmps[87]?.getD undef = .int .i64 gb' := getD_of (hI.val_ (i := 5) rfl rfl (by decide) (hdep ⟨5, .data⟩ (by simp) rfl))
          clear hI hdep
          exact .run rfl (.bool false) w3 (by simp [execOp, go_sem, Act.eval, *]) (Below.refl _ _) rfl
        · simp only [List.getElem?_toArray, List.getElem?_cons_succ, List.getElem?_cons_zero, Option.some.injEq] at ho
          subst ho
          refine ⟨rfl, ?_⟩
          have e88 : A_.tmps[88]?.getD undef = .bool false := getD_of (hI.val_ (i := 6) rfl rfl (by decide) (hdep ⟨6, .data⟩ (by simp) rfl))
          clear hI hdep
          exact .run rfl (.bool false) w3 (by simp [execOp, go_sem, Act.eval, e88]) (Below.refl _ _) rfl
        · simp only [List.getElem?_toArray, List.getElem?_cons_succ, List.getElem?_cons_zero, Option.some.injEq] at ho
          subst ho
          refine ⟨rfl, ?_⟩
          have q89 : A_.tmps[89]? = some (.bool false) := hI.val_ (i := 7) rfl rfl (by decide) (hdep ⟨7, .guard⟩ (by simp) rfl)
          have e18 : A_.tmps[18]?.getD undef = .pointer (some ⟨gu, 0, none⟩) := by rw [hI.low 18 (by decide)]; rfl
          clear hI hdep
          obtain ⟨⟨⟨t0, t1⟩, p0, p1, p2, p3, p4⟩, ⟨q0, q1, q2, q3, q4⟩, u0, u1⟩ := HK9.out w3 hh
          exact .run ((wanted_some rfl rfl q89).trans rfl) (.agg #[.slice Eu es.length cu, .slice Au lu.length du]) w3 (by simp [execOp, go_sem, Act.eval, *]) (Below.refl _ _) rfl
        · simp only [List.getElem?_toArray, List.getElem?_cons_succ, List.getElem?_cons_zero, Option.some.injEq] at ho
          subst ho
          refine ⟨rfl, ?_⟩
          have q89 : A_.tmps[89]? = some (.bool false) := hI.val_ (i := 7) rfl rfl (by decide) (hdep ⟨7, .guard⟩ (by simp) rfl)
          have e15 : A_.tmps[15]?.getD undef = .pointer (some ⟨gb, 0, none⟩) := by rw [hI.low 15 (by decide)]; rfl
          clear hI hdep
          obtain ⟨⟨⟨t0, t1⟩, p0, p1, p2, p3, p4⟩, ⟨q0, q1, q2, q3, q4⟩, u0, u1⟩ := HK9.out w3 hh
          exact .run ((wanted_some rfl rfl q89).trans rfl) (.agg #[.int .i64 bc, .int .i64 bh, .int .i64 bj, .int .i64 bk, .int .i64 bi]) w3 (by simp [execOp, go_sem, Act.eval, *]) (Below.refl _ _) rfl
        · simp only [List.getElem?_toArray, List.getElem?_cons_succ, List.getElem?_cons_zero, Option.some.injEq] at ho
          subst ho
          refine ⟨rfl, ?_⟩
          have q89 : A_.tmps[89]? = some (.bool false) := hI.val_ (i := 7) rfl rfl (by decide) (hdep ⟨7, .guard⟩ (by simp) rfl)
          have e17 : A_.tmps[17]?.getD undef = .int .i64 y := by rw [hI.low 17 (by decide)]; rfl
          clear hI hdep
          exact .run ((wanted_some rfl rfl q89).trans rfl) (.int .i64 y) w3 (by simp [execOp, go_sem, Act.eval, e17]) (Below.refl _ _) rfl
        · simp only [List.getElem?_toArray, List.getElem?_cons_succ, List.getElem?_cons_zero, Option.some.injEq] at ho
          subst ho
          refine ⟨rfl, ?_⟩
          have q89 : A_.tmps[89]? = some (.bool false) := hI.val_ (i := 7) rfl rfl (by decide) (hdep ⟨7, .guard⟩ (by simp) rfl)
          have e90 : A_.tmps[90]?.getD undef = .agg #[.slice Eu es.length cu, .slice Au lu.length du] := getD_of (hI.val_ (i := 8) rfl rfl (by decide) (hdep ⟨8, .data⟩ (by simp) rfl))
          have e91 : A_.tmps[91]?.getD undef = .agg #[.int .i64 bc, .int .i64 bh, .int .i64 bj, .int .i64 bk, .int .i64 bi] := getD_of (hI.val_ (i := 9) rfl rfl (by decide) (hdep ⟨9, .data⟩ (by simp) rfl))
          have e92 : A_.tmps[92]?.getD undef = .int .i64 y := getD_of (hI.val_ (i := 10) rfl rfl (by decide) (hdep ⟨10, .data⟩ (by simp) rfl))
          clear hI hdep
          exact .call ((wanted_some rfl rfl q89).trans rfl) 23 #[.agg #[.slice Eu es.length cu, .slice Au lu.length du], .agg #[.int .i64 bc, .int .i64 bh, .int .i64 bj, .int .i64 bk, .int .i64 bi], .int .i64 y] (by simp [go_sem, Act.eval, e90, e91, e92]) (RgX.tape_calls_lo hh.size rfl rfl (with_any ⟨bc, bh, bj, bk, bi⟩ y w3 (HU9.out w3 hh)))
        · simp only [List.getElem?_toArray, List.getElem?_cons_succ, List.getElem?_cons_zero, Option.some.injEq] at ho
          subst ho
          refine ⟨rfl, ?_⟩
          have q89 : A_.tmps[89]? = some (.bool false) := hI.val_ (i := 7) rfl rfl (by decide) (hdep ⟨7, .guard⟩ (by simp) rfl)
          have e13 : A_.tmps[13]?.getD undef = .pointer (some ⟨gt, 0, none⟩) := by rw [hI.low 13 (by decide)]; rfl
          clear hI hdep
          obtain ⟨⟨⟨t0, t1⟩, p0, p1, p2, p3, p4⟩, ⟨q0, q1, q2, q3, q4⟩, u0, u1⟩ := HK9.out w3 hh
          exact .run ((wanted_some rfl rfl q89).trans rfl) (.agg #[.slice E es.length ce, .slice A l.length ca]) w3 (by simp [execOp, go_sem, Act.eval, *]) (Below.refl _ _) rfl
        · simp only [List.getElem?_toArray, List.getElem?_cons_succ, List.getElem?_cons_zero, Option.some.injEq] at ho
          subst ho
          refine ⟨rfl, ?_⟩
          have q89 : A_.tmps[89]? = some (.bool false) := hI.val_ (i := 7) rfl rfl (by decide) (hdep ⟨7, .guard⟩ (by simp) rfl)
          have e15 : A_.tmps[15]?.getD undef = .pointer (some ⟨gb, 0, none⟩) := by rw [hI.low 15 (by decide)]; rfl
          clear hI hdep
          obtain ⟨⟨⟨t0, t1⟩, p0, p1, p2, p3, p4⟩, ⟨q0, q1, q2, q3, q4⟩, u0, u1⟩ := HK9.out w3 hh
          exact .run ((wanted_some rfl rfl q89).trans rfl) (.agg #[.int .i64 bc, .int .i64 bh, .int .i64 bj, .int .i64 bk, .int .i64 bi]) w3 (by simp [execOp, go_sem, Act.eval, *]) (Below.refl _ _) rfl
        · simp only [List.getElem?_toArray, List.getElem?_cons_succ, List.getElem?_cons_zero, Option.some.injEq] at ho
          subst ho
          refine ⟨rfl, ?_⟩
          have q89 : A_.tmps[89]? = some (.bool false) := hI.val_ (i := 7) rfl rfl (by decide) (hdep ⟨7, .guard⟩ (by simp) rfl)
          have e17 : A_.tmps[17]?.getD undef = .int .i64 y := by rw [hI.low 17 (by decide)]; rfl
          clear hI hdep
          exact .run ((wanted_some rfl rfl q89).trans rfl) (.int .i64 y) w3 (by simp [execOp, go_sem, Act.eval, e17]) (Below.refl _ _) rfl
        · simp only [List.getElem?_toArray, List.getElem?_cons_succ, List.getElem?_cons_zero, Option.some.injEq] at ho
          subst ho
          refine ⟨rfl, ?_⟩
          have q89 : A_.tmps[89]? = some (.bool false) := hI.val_ (i := 7) rfl rfl (by decide) (hdep ⟨7, .guard⟩ (by simp) rfl)
          have e94 : A_.tmps[94]?.getD undef = .agg #[.slice E es.length ce, .slice A l.length ca] := getD_of (hI.val_ (i := 12) rfl rfl (by decide) (hdep ⟨12, .data⟩ (by simp) rfl))
          have e95 : A_.tmps[95]?.getD undef = .agg #[.int .i64 bc, .int .i64 bh, .int .i64 bj, .int .i64 bk, .int .i64 bi] := getD_of (hI.val_ (i := 13) rfl rfl (by decide) (hdep ⟨13, .data⟩ (by simp) rfl))
          have e96 : A_.tmps[96]?.getD undef = .int .i64 y := getD_of (hI.val_ (i := 14) rfl rfl (by decide) (hdep ⟨14, .data⟩ (by simp) rfl))
          clear hI hdep
          exact .call ((wanted_some rfl rfl q89).trans rfl) 23 #[.agg #[.slice E es.length ce, .slice A l.length ca], .agg #[.int .i64 bc, .int .i64 bh, .int .i64 bj, .int .i64 bk, .int .i64 bi], .int .i64 y] (by simp [go_sem, Act.eval, e94, e95, e96]) (RgX.tape_calls_lo hh.size rfl rfl (with_any ⟨bc, bh, bj, bk, bi⟩ y w3 (HT9.out w3 hh)))
        · simp only [List.getElem?_toArray, List.getElem?_cons_succ, List.getElem?_cons_zero, Option.some.injEq] at ho
          subst ho
          refine ⟨rfl, ?_⟩
          have q89 : A_.tmps[89]? = some (.bool false) := hI.val_ (i := 7) rfl rfl (by decide) (hdep ⟨7, .guard⟩ (by simp) rfl)
          have e14 : A_.tmps[14]?.getD undef = .pointer (some ⟨ga, 0, none⟩) := by rw [hI.low 14 (by decide)]; rfl
          clear hI hdep
          obtain ⟨⟨⟨t0, t1⟩, p0, p1, p2, p3, p4⟩, ⟨q0, q1, q2, q3, q4⟩, u0, u1⟩ := HK9.out w3 hh
          exact .run ((wanted_some rfl rfl q89).trans rfl) (.agg #[.int .i64 ac, .int .i64 ah, .int .i64 aj, .int .i64 ak, .int .i64 ai]) w3 (by simp [execOp, go_sem, Act.eval, *]) (Below.refl _ _) rfl
        · simp only [List.getElem?_toArray, List.getElem?_cons_succ, List.getElem?_cons_zero, Option.some.injEq] at ho
          subst ho
          refine ⟨rfl, ?_⟩
          have q89 : A_.tmps[89]? = some (.bool false) := hI.val_ (i := 7) rfl rfl (by decide) (hdep ⟨7, .guard⟩ (by simp) rfl)
          have e16 : A_.tmps[16]?.getD undef = .int .i64 x := by rw [hI.low 16 (by decide)]; rfl
          clear hI hdep
          exact .run ((wanted_some rfl rfl q89).trans rfl) (.int .i64 x) w3 (by simp [execOp, go_sem, Act.eval, e16]) (Below.refl _ _) rfl
        · simp only [List.getElem?_toArray, List.getElem?_cons_succ, List.getElem?_cons_zero, Option.some.injEq] at ho
          subst ho
          refine ⟨rfl, ?_⟩
          have q89 : A_.tmps[89]? = some (.bool false) := hI.val_ (i := 7) rfl rfl (by decide) (hdep ⟨7, .guard⟩ (by simp) rfl)
          obtain ⟨_, e97, E97, c97, A97, d97, rfl, h97⟩ := hI.get_ (i := 15) (j := 97) rfl rfl (by decide) (hdep ⟨15, .data⟩ (by simp) rfl)
          have e98 : A_.tmps[98]?.getD undef = .agg #[.int .i64 ac, .int .i64 ah, .int .i64 aj, .int .i64 ak, .int .i64 ai] := getD_of (hI.val_ (i := 16) rfl rfl (by decide) (hdep ⟨16, .data⟩ (by simp) rfl))
          have e99 : A_.tmps[99]?.getD undef = .int .i64 x := getD_of (hI.val_ (i := 17) rfl rfl (by decide) (hdep ⟨17, .data⟩ (by simp) rfl))
          clear hI hdep
          exact .call ((wanted_some rfl rfl q89).trans rfl) 23 #[.agg #[.slice E97 es.length c97, .slice A97 (TP.withA l ⟨bc, bh, bj, bk, bi⟩ y).length d97], .agg #[.int .i64 ac, .int .i64 ah, .int .i64 aj, .int .i64 ak, .int .i64 ai], .int .i64 x] (by simp [go_sem, Act.eval, e97, e98, e99]) (RgX.tape_calls_lo hh.size rfl rfl (with_any ⟨ac, ah, aj, ak, ai⟩ x w3 (TapeIs.tin h97 (by omega) (by have := wl l ⟨bc, bh, bj, bk, bi⟩ y 10 hl10 (by omega); omega))))
        · simp only [List.getElem?_toArray, List.getElem?_cons_succ, List.getElem?_cons_zero, Option.some.injEq] at ho
          subst ho
          refine ⟨rfl, ?_⟩
          have q89 : A_.tmps[89]? = some (.bool false) := hI.val_ (i := 7) rfl rfl (by decide) (hdep ⟨7, .guard⟩ (by simp) rfl)
          obtain ⟨_, e93, E93, c93, A93, d93, rfl, h93⟩ := hI.get_ (i := 11) (j := 93) rfl rfl (by decide) (hdep ⟨11, .data⟩ (by simp) rfl)
          obtain ⟨_, e100, E100, c100, A100, d100, rfl, h100⟩ := hI.get_ (i := 18) (j := 100) rfl rfl (by decide) (hdep ⟨18, .data⟩ (by simp) rfl)
          clear hI hdep
          exact .call ((wanted_some rfl rfl q89).trans rfl) 19 #[.agg #[.slice E93 es.length c93, .slice A93 (TP.withA lu ⟨bc, bh, bj, bk, bi⟩ y).length d93], .agg #[.slice E100 es.length c100, .slice A100 (TP.withA (TP.withA l ⟨bc, bh, bj, bk, bi⟩ y) ⟨ac, ah, aj, ak, ai⟩ x).length d100]] (by simp [go_sem, Act.eval, e93, e100]) ((HE2.out ▸ equalP_any w3 (TapeIs.tin h93 (by omega) (by have := wl lu ⟨bc, bh, bj, bk, bi⟩ y 11 hlun (by omega); omega)) (TapeIs.tin h100 (by omega) (by have := wl l ⟨bc, bh, bj, bk, bi⟩ y 10 hl10 (by omega); have := wl (TP.withA l ⟨bc, bh, bj, bk, bi⟩ y) ⟨ac, ah, aj, ak, ai⟩ x 11 this (by omega); omega))).mono fun _ _ ⟨h1_, h2_⟩ => ⟨⟨_, h1_, rfl⟩, h2_⟩)
        · simp only [List.getElem?_toArray, List.getElem?_cons_succ, List.getElem?_cons_zero, Option.some.injEq] at ho
          subst ho
          refine ⟨rfl, ?_⟩
          have q89 : A_.tmps[89]? = some (.bool false) := hI.val_ (i := 7) rfl rfl (by decide) (hdep ⟨7, .guard⟩ (by simp) rfl)
          have e101 : A_.tmps[101]?.getD undef = .bool true := getD_of (hI.val_ (i := 19) rfl rfl (by decide) (hdep ⟨19, .data⟩ (by simp) rfl))
          clear hI hdep
          exact .run ((wanted_some rfl rfl q89).trans rfl) (.bool false) w3 (by simp [execOp, go_sem, Act.eval, e101]) (Below.refl _ _) rfl
        · simp only [List.getElem?_toArray, List.getElem?_cons_succ, List.getElem?_cons_zero, Option.some.injEq] at ho
          subst ho
          refine ⟨rfl, ?_⟩
          have e89 : A_.tmps[89]?.getD undef = .bool false := getD_of (hI.val_ (i := 7) rfl rfl (by decide) (hdep ⟨7, .data⟩ (by simp) rfl))
          have e102 : A_.tmps[102]?.getD undef = .bool false := getD_of (hI.val_ (i := 20) rfl rfl (by decide) (hdep ⟨20, .data⟩ (by simp) rfl))
          clear hI hdep
          exact .run rfl (.bool false) w3 (by simp [execOp, go_sem, Act.eval, e89, e102]) (Below.refl _ _) rfl
      case fin =>
      intro A_ w3 hs hd hlow hS hok
      obtain ⟨_, hy93, E93, c93, A93, d93, rfl, h93⟩ := hok 11 93 _ (by decide) rfl rfl
      obtain ⟨_, hy97, E97, c97, A97, d97, rfl, h97⟩ := hok 15 97 _ (by decide) rfl rfl
      obtain ⟨_, hy100, E100, c100, A100, d100, rfl, h100⟩ := hok 18 100 _ (by decide) rfl rfl
      obtain rfl : A_ = ⟨#[.slice a0 len0 cap0, .slice a1 len1 cap1, .int .i64 a2, .int .i64 a3, .int .i64 a4, .int .i64 a5, undef, undef, undef, undef, undef, undef, .bool false, .pointer (some ⟨gt, 0, none⟩), .pointer (some ⟨ga, 0, none⟩), .pointer (some ⟨gb, 0, none⟩), .int .i64 x, .int .i64 y, .pointer (some ⟨gu, 0, none⟩), undef, undef, .slice a0 len0 cap0, .slice a1 len1 cap1, .agg #[.slice E es.length ce, .slice A l.length ca], .int .i64 a2, quV { c := ac, h := ah, t := aj, k := ak, i := ai }, .int .i64 a3, quV { c := bc, h := bh, t := bj, k := bk, i := bi }, .int .i64 a4, .int .i64 x, .int .i64 a5, .int .i64 y, .agg #[.slice E es.length ce, .slice A l.length ca], .agg #[.int .i64 ac, .int .i64 ah, .int .i64 aj, .int .i64 ak, .int .i64 ai], .int .i64 x, .agg #[.slice Eu es.length cu, .slice Au lu.length du], .agg #[.slice Eu es.length cu, .slice Au lu.length du], .agg #[.int .i64 ac, .int .i64 ah, .int .i64 aj, .int .i64 ak, .int .i64 ai], .int .i64 x, .int .i64 x, .bool false, .bool false, .agg #[.slice Eu es.length cu, .slice Au lu.length du], .agg #[.int .i64 ac, .int .i64 ah, .int .i64 aj, .int .i64 ak, .int .i64 ai], .int .i64 y, .agg #[.slice E45 es.length c45, .slice A45 (TP.withA lu { c := ac, h := ah, t := aj, k := ak, i := ai } y).length d45], .agg #[.int .i64 ac, .int .i64 ah, .int .i64 aj, .int .i64 ak, .int .i64 ai], .int .i64 y, .int .i64 y, .bool false, .bool false, .bool false, .pointer (some ⟨gu, 0, none⟩), .slice Eu es.length cu, .int .i64 (es.length : Int), .pointer (some ⟨gt, 0, none⟩), .slice E es.length ce, .int .i64 (es.length : Int), .bool false, .bool false, .agg #[.slice Eu es.length cu, .slice Au lu.length du], .agg #[.int .i64 ac, .int .i64 ah, .int .i64 aj, .int .i64 ak, .int .i64 ai], .agg #[.slice E es.length ce, .slice A l.length ca], .agg #[.int .i64 ac, .int .i64 ah, .int .i64 aj, .int .i64 ak, .int .i64 ai], .int .i64 gl, .agg #[.slice E65 es.length c65, .slice A65 (TP.withA lu { c := ac, h := ah, t := aj, k := ak, i := ai } gl).length d65], .agg #[.slice E es.length ce, .slice A l.length ca], .bool true, .bool false, .bool false, .agg #[.slice E es.length ce, .slice A l.length ca], .agg #[.int .i64 ac, .int .i64 ah, .int .i64 aj, .int .i64 ak, .int .i64 ai], .int .i64 x, .int .i64 (-x), .agg #[.slice E74 es.length c74, .slice A74 (TP.withA l { c := ac, h := ah, t := aj, k := ak, i := ai } (-x)).length d74], .agg #[.int .i64 ac, .int .i64 ah, .int .i64 aj, .int .i64 ak, .int .i64 ai], .int .i64 0, .bool false, .bool false, .agg #[.int .i64 ac, .int .i64 ah, .int .i64 aj, .int .i64 ak, .int .i64 ai], .agg #[.int .i64 bc, .int .i64 bh, .int .i64 bj, .int .i64 bk, .int .i64 bi], .bool !false, .agg #[.slice Eu es.length cu, .slice Au lu.length du], .agg #[.int .i64 bc, .int .i64 bh, .int .i64 bj, .int .i64 bk, .int .i64 bi], .int .i64 gb', .agg #[.slice E es.length ce, .slice A l.length ca], .agg #[.int .i64 bc, .int .i64 bh, .int .i64 bj, .int .i64 bk, .int .i64 bi], .int .i64 gb', .bool false, .bool false, .agg #[.slice Eu es.length cu, .slice Au lu.length du], .agg #[.int .i64 bc, .int .i64 bh, .int .i64 bj, .int .i64 bk, .int .i64 bi], .int .i64 y, .agg #[.slice E93 es.length c93, .slice A93 (TP.withA lu ⟨bc, bh, bj, bk, bi⟩ y).length d93], .agg #[.slice E es.length ce, .slice A l.length ca], .agg #[.int .i64 bc, .int .i64 bh, .int .i64 bj, .int .i64 bk, .int .i64 bi], .int .i64 y, .agg #[.slice E97 es.length c97, .slice A97 (TP.withA l ⟨bc, bh, bj, bk, bi⟩ y).length d97], .agg #[.int .i64 ac, .int .i64 ah, .int .i64 aj, .int .i64 ak, .int .i64 ai], .int .i64 x, .agg #[.slice E100 es.length c100, .slice A100 (TP.withA (TP.withA l ⟨bc, bh, bj, bk, bi⟩ y) ⟨ac, ah, aj, ak, ai⟩ x).length d100], .bool true, .bool false, .bool false, undef, undef, undef, undef, undef, undef, undef, undef, undef, undef, undef, undef, undef, undef, undef, undef, undef, undef, undef, undef, undef, undef, undef, undef, undef, undef, undef, undef], []⟩ := act_ext hd hs (fun j hj => match j, hj with | 0, _ => (hlow 0 (by decide)).trans rfl | 1, _ => (hlow 1 (by decide)).trans rfl | 2, _ => (hlow 2 (by decide)).trans rfl | 3, _ => (hlow 3 (by decide)).trans rfl | 4, _ => (hlow 4 (by decide)).trans rfl | 5, _ => (hlow 5 (by decide)).trans rfl | 6, _ => (hlow 6 (by decide)).trans rfl | 7, _ => (hlow 7 (by decide)).trans rfl | 8, _ => (hlow 8 (by decide)).trans rfl | 9, _ => (hlow 9 (by decide)).trans rfl | 10, _ => (hlow 10 (by decide)).trans rfl | 11, _ => (hlow 11 (by decide)).trans rfl | 12, _ => (hlow 12 (by decide)).trans rfl | 13, _ => (hlow 13 (by decide)).trans rfl | 14, _ => (hlow 14 (by decide)).trans rfl | 15, _ => (hlow 15 (by decide)).trans rfl | 16, _ => (hlow 16 (by decide)).trans rfl | 17, _ => (hlow 17 (by decide)).trans rfl | 18, _ => (hlow 18 (by decide)).trans rfl | 19, _ => (hlow 19 (by decide)).trans rfl | 20, _ => (hlow 20 (by decide)).trans rfl | 21, _ => (hlow 21 (by decide)).trans rfl | 22, _ => (hlow 22 (by decide)).trans rfl | 23, _ => (hlow 23 (by decide)).trans rfl | 24, _ => (hlow 24 (by decide)).trans rfl | 25, _ => (hlow 25 (by decide)).trans rfl | 26, _ => (hlow 26 (by decide)).trans rfl | 27, _ => (hlow 27 (by decide)).trans rfl | 28, _ => (hlow 28 (by decide)).trans rfl | 29, _ => (hlow 29 (by decide)).trans rfl | 30, _ => (hlow 30 (by decide)).trans rfl | 31, _ => (hlow 31 (by decide)).trans rfl | 32, _ => (hlow 32 (by decide)).trans rfl | 33, _ => (hlow 33 (by decide)).trans rfl | 34, _ => (hlow 34 (by decide)).trans rfl | 35, _ => (hlow 35 (by decide)).trans rfl | 36, _ => (hlow 36 (by decide)).trans rfl | 37, _ => (hlow 37 (by decide)).trans rfl | 38, _ => (hlow 38 (by decide)).trans rfl | 39, _ => (hlow 39 (by decide)).trans rfl | 40, _ => (hlow 40 (by decide)).trans rfl | 41, _ => (hlow 41 (by decide)).trans rfl | 42, _ => (hlow 42 (by decide)).trans rfl | 43, _ => (hlow 43 (by decide)).trans rfl | 44, _ => (hlow 44 (by decide)).trans rfl | 45, _ => (hlow 45 (by decide)).trans rfl | 46, _ => (hlow 46 (by decide)).trans rfl | 47, _ => (hlow 47 (by decide)).trans rfl | 48, _ => (hlow 48 (by decide)).trans rfl | 49, _ => (hlow 49 (by decide)).trans rfl | 50, _ => (hlow 50 (by decide)).trans rfl | 51, _ => (hlow 51 (by decide)).trans rfl | 52, _ => (hlow 52 (by decide)).trans rfl | 53, _ => (hlow 53 (by decide)).trans rfl | 54, _ => (hlow 54 (by decide)).trans rfl | 55, _ => (hlow 55 (by decide)).trans rfl | 56, _ => (hlow 56 (by decide)).trans rfl | 57, _ => (hlow 57 (by decide)).trans rfl | 58, _ => (hlow 58 (by decide)).trans rfl | 59, _ => (hlow 59 (by decide)).trans rfl | 60, _ => (hlow 60 (by decide)).trans rfl | 61, _ => (hlow 61 (by decide)).trans rfl | 62, _ => (hlow 62 (by decide)).trans rfl | 63, _ => (hlow 63 (by decide)).trans rfl | 64, _ => (hlow 64 (by decide)).trans rfl | 65, _ => (hlow 65 (by decide)).trans rfl | 66, _ => (hlow 66 (by decide)).trans rfl | 67, _ => (hlow 67 (by decide)).trans rfl | 68, _ => (hlow 68 (by decide)).trans rfl | 69, _ => (hlow 69 (by decide)).trans rfl | 70, _ => (hlow 70 (by decide)).trans rfl | 71, _ => (hlow 71 (by decide)).trans rfl | 72, _ => (hlow 72 (by decide)).trans rfl | 73, _ => (hlow 73 (by decide)).trans rfl | 74, _ => (hlow 74 (by decide)).trans rfl | 75, _ => (hlow 75 (by decide)).trans rfl | 76, _ => (hlow 76 (by decide)).trans rfl | 77, _ => (hlow 77 (by decide)).trans rfl | 78, _ => (hlow 78 (by decide)).trans rfl | 79, _ => (hlow 79 (by decide)).trans rfl | 80, _ => (hlow 80 (by decide)).trans rfl | 81, _ => (hlow 81 (by decide)).trans rfl | 82, _ => RgX.val_at (hok 0 82 _ (by decide) rfl rfl) | 83, _ => RgX.val_at (hok 1 83 _ (by decide) rfl rfl) | 84, _ => RgX.val_at (hok 2 84 _ (by decide) rfl rfl) | 85, _ => RgX.val_at (hok 3 85 _ (by decide) rfl rfl) | 86, _ => RgX.val_at (hok 4 86 _ (by decide) rfl rfl) | 87, _ => RgX.val_at (hok 5 87 _ (by decide) rfl rfl) | 88, _ => RgX.val_at (hok 6 88 _ (by decide) rfl rfl) | 89, _ => RgX.val_at (hok 7 89 _ (by decide) rfl rfl) | 90, _ => RgX.val_at (hok 8 90 _ (by decide) rfl rfl) | 91, _ => RgX.val_at (hok 9 91 _ (by decide) rfl rfl) | 92, _ => RgX.val_at (hok 10 92 _ (by decide) rfl rfl) | 93, _ => hy93 | 94, _ => RgX.val_at (hok 12 94 _ (by decide) rfl rfl) | 95, _ => RgX.val_at (hok 13 95 _ (by decide) rfl rfl) | 96, _ => RgX.val_at (hok 14 96 _ (by decide) rfl rfl) | 97, _ => hy97 | 98, _ => RgX.val_at (hok 16 98 _ (by decide) rfl rfl) | 99, _ => RgX.val_at (hok 17 99 _ (by decide) rfl rfl) | 100, _ => hy100 | 101, _ => RgX.val_at (hok 19 101 _ (by decide) rfl rfl) | 102, _ => RgX.val_at (hok 20 102 _ (by decide) rfl rfl) | 103, _ => RgX.val_at (hok 21 103 _ (by decide) rfl rfl) | 104, _ => (hlow 104 (by decide)).trans rfl | 105, _ => (hlow 105 (by decide)).trans rfl | 106, _ => (hlow 106 (by decide)).trans rfl | 107, _ => (hlow 107 (by decide)).trans rfl | 108, _ => (hlow 108 (by decide)).trans rfl | 109, _ => (hlow 109 (by decide)).trans rfl | 110, _ => (hlow 110 (by decide)).trans rfl | 111, _ => (hlow 111 (by decide)).trans rfl | 112, _ => (hlow 112 (by decide)).trans rfl | 113, _ => (hlow 113 (by decide)).trans rfl | 114, _ => (hlow 114 (by decide)).trans rfl | 115, _ => (hlow 115 (by decide)).trans rfl | 116, _ => (hlow 116 (by decide)).trans rfl | 117, _ => (hlow 117 (by decide)).trans rfl | 118, _ => (hlow 118 (by decide)).trans rfl | 119, _ => (hlow 119 (by decide)).trans rfl | 120, _ => (hlow 120 (by decide)).trans rfl | 121, _ => (hlow 121 (by decide)).trans rfl | 122, _ => (hlow 122 (by decide)).trans rfl | 123, _ => (hlow 123 (by decide)).trans rfl | 124, _ => (hlow 124 (by decide)).trans rfl | 125, _ => (hlow 125 (by decide)).trans rfl | 126, _ => (hlow 126 (by decide)).trans rfl | 127, _ => (hlow 127 (by decide)).trans rfl | 128, _ => (hlow 128 (by decide)).trans rfl | 129, _ => (hlow 129 (by decide)).trans rfl | 130, _ => (hlow 130 (by decide)).trans rfl | 131, _ => (hlow 131 (by decide)).trans rfl | n + 132, h => absurd h (by show ¬ n + 132 < 132; omega))
      clear hs hd hlow hok hy93 hy97 hy100
      have HSn := Lib.hid hS
      clear hS
      go_wp2_with fail
      go_meet
      case rel => exact HSn.out
  case rest =>
  have HC := hcut
  clear hcut heq
  have HTc := Lib.hid (fun (V : World) (hV : Below wc.heap.size wc V) => HT9.out V (HC.out.trans (hV.mono HC.out.size)))
  have HUc := Lib.hid (fun (V : World) (hV : Below wc.heap.size wc V) => HU9.out V (HC.out.trans (hV.mono HC.out.size)))
  have HKc := Lib.hid (fun (V : World) (hV : Below wc.heap.size wc V) => HK9.out V (HC.out.trans (hV.mono HC.out.size)))
  have Dc := Lib.hid (D9.out.trans (HC.out.mono D9.out.size))
  have hwl := TP.with_len l ⟨ac, ah, aj, ak, ai⟩ x
  have hgl0 := TP.getA_nn l ⟨ac, ah, aj, ak, ai⟩
  rw [hlu, hgl] at hwl
  rw [hgl] at hgl0
  have hnll := TP.norm_len l
  have HNL := Lib.hid (show TP.normA lu = lu by rw [← hlu]; exact TP.norm_norm _)
  obtain ⟨nl, hnl⟩ : ∃ n, (TP.normA l).length = n := ⟨_, rfl⟩
  rw [hnl] at hwl hnll
  have HNT := Lib.hid hnl
  have hwm : IntKind.i64.wrap ((es.length : Int) + nl - 1) = (es.length : Int) + nl - 1 := IntWalk.i64_in _ (by omega)
  have hwp : IntKind.i64.wrap ((es.length : Int) + nl + 1) = (es.length : Int) + nl + 1 := IntWalk.i64_in _ (by omega)
  obtain ⟨⟨⟨t0, t1⟩, p0, p1, p2, p3, p4⟩, ⟨q0, q1, q2, q3, q4⟩, u0, u1⟩ := HKc.out wc (Below.refl _ _)
  clear HT9 HU9 HK9 D9 HC hnl hlu hgl wl
  by_cases hg : 0 < gl <;> by_cases hx0 : x = 0
  · have dg : decide (0 < gl) = true := decide_eq_true hg
    have dx : (x == 0) = true := by simp [hx0]
    have dp : decide (0 < x) = false := decide_eq_false (by omega)
    rw [if_pos hg, if_neg (by omega : ¬ 0 < x)] at hwl
    have hpe : ((es.length : Int) + (lu.length : Int) == (es.length : Int) + nl - 1) = true := by rw [beq_iff_eq]; omega
    clear hg hx0 hwl
    go_wp2_with fail
    refine (get_any ⟨ac, ah, aj, ak, ai⟩ wc (HTc.out wc (Below.refl _ _))).mono ?_
    rintro e w14 ⟨rfl, b14⟩
    rw [HGL.out]
    have B14 := Lib.hid b14
    clear b14 t0 t1 p0 p1 p2 p3 p4 q0 q1 q2 q3 q4 u0 u1
    obtain ⟨⟨⟨t0, t1⟩, p0, p1, p2, p3, p4⟩, ⟨q0, q1, q2, q3, q4⟩, u0, u1⟩ := HKc.out w14 B14.out
    go_wp2_with fail
    refine (parts_any (ca := ca) w14 (HTc.out w14 B14.out)).mono ?_
    rintro e w15 ⟨rfl, b15⟩
    rw [HNT.out]
    have B15 := Lib.hid (B14.out.trans (b15.mono B14.out.size))
    clear b15 t0 t1 p0 p1 p2 p3 p4 q0 q1 q2 q3 q4 u0 u1
    obtain ⟨⟨⟨t0, t1⟩, p0, p1, p2, p3, p4⟩, ⟨q0, q1, q2, q3, q4⟩, u0, u1⟩ := HKc.out w15 B15.out
    go_wp2_with fail
    refine (parts_any (ca := du) w15 (HUc.out w15 B15.out)).mono ?_
    rintro e w16 ⟨rfl, b16⟩
    rw [HNL.out]
    have B16 := Lib.hid (B15.out.trans (b16.mono B15.out.size))
    clear b16 t0 t1 p0 p1 p2 p3 p4 q0 q1 q2 q3 q4 u0 u1
    have HLV := Lib.hid (lives_any w16)
    go_wp2_with fail
    refine HLV.out.mono ?_
    rintro e w17 ⟨rfl, b17⟩
    have B17 := Lib.hid (Dc.out.trans ((B16.out.trans (b17.mono B16.out.size)).mono Dc.out.size))
    clear b17
    go_wp2_with fail
    go_ret
    exact ⟨rfl, B17.out⟩
  · have dg : decide (0 < gl) = true := decide_eq_true hg
    have dx : (x == 0) = false := by simp [hx0]
    have dp : decide (0 < x) = true := decide_eq_true (by omega)
    rw [if_pos hg, if_pos (by omega : 0 < x)] at hwl
    have hpe : ((es.length : Int) + (lu.length : Int) == (es.length : Int) + nl) = true := by rw [beq_iff_eq]; omega
    clear hg hx0 hwl
    go_wp2_with fail
    refine (get_any ⟨ac, ah, aj, ak, ai⟩ wc (HTc.out wc (Below.refl _ _))).mono ?_
    rintro e w14 ⟨rfl, b14⟩
    rw [HGL.out]
    have B14 := Lib.hid b14
    clear b14 t0 t1 p0 p1 p2 p3 p4 q0 q1 q2 q3 q4 u0 u1
    obtain ⟨⟨⟨t0, t1⟩, p0, p1, p2, p3, p4⟩, ⟨q0, q1, q2, q3, q4⟩, u0, u1⟩ := HKc.out w14 B14.out
    go_wp2_with fail
    refine (parts_any (ca := ca) w14 (HTc.out w14 B14.out)).mono ?_
    rintro e w15 ⟨rfl, b15⟩
    rw [HNT.out]
    have B15 := Lib.hid (B14.out.trans (b15.mono B14.out.size))
    clear b15 t0 t1 p0 p1 p2 p3 p4 q0 q1 q2 q3 q4 u0 u1
    obtain ⟨⟨⟨t0, t1⟩, p0, p1, p2, p3, p4⟩, ⟨q0, q1, q2, q3, q4⟩, u0, u1⟩ := HKc.out w15 B15.out
    go_wp2_with fail
    refine (parts_any (ca := du) w15 (HUc.out w15 B15.out)).mono ?_
    rintro e w16 ⟨rfl, b16⟩
    rw [HNL.out]
    have B16 := Lib.hid (B15.out.trans (b16.mono B15.out.size))
    clear b16 t0 t1 p0 p1 p2 p3 p4 q0 q1 q2 q3 q4 u0 u1
    have HLV := Lib.hid (lives_any w16)
    go_wp2_with fail
    refine HLV.out.mono ?_
    rintro e w17 ⟨rfl, b17⟩
    have B17 := Lib.hid (Dc.out.trans ((B16.out.trans (b17.mono B16.out.size)).mono Dc.out.size))
    clear b17
    go_wp2_with fail
    go_ret
    exact ⟨rfl, B17.out⟩
  · have dg : decide (0 < gl) = false := decide_eq_false hg
    have dx : (x == 0) = true := by simp [hx0]
    have dp : decide (0 < x) = false := decide_eq_false (by omega)
    rw [if_neg hg, if_neg (by omega : ¬ 0 < x)] at hwl
    have hpe : ((es.length : Int) + (lu.length : Int) == (es.length : Int) + nl) = true := by rw [beq_iff_eq]; omega
    clear hg hx0 hwl
    go_wp2_with fail
    refine (get_any ⟨ac, ah, aj, ak, ai⟩ wc (HTc.out wc (Below.refl _ _))).mono ?_
    rintro e w14 ⟨rfl, b14⟩
    rw [HGL.out]
    have B14 := Lib.hid b14
    clear b14 t0 t1 p0 p1 p2 p3 p4 q0 q1 q2 q3 q4 u0 u1
    obtain ⟨⟨⟨t0, t1⟩, p0, p1, p2, p3, p4⟩, ⟨q0, q1, q2, q3, q4⟩, u0, u1⟩ := HKc.out w14 B14.out
    go_wp2_with fail
    refine (parts_any (ca := ca) w14 (HTc.out w14 B14.out)).mono ?_
    rintro e w15 ⟨rfl, b15⟩
    rw [HNT.out]
    have B15 := Lib.hid (B14.out.trans (b15.mono B14.out.size))
    clear b15 t0 t1 p0 p1 p2 p3 p4 q0 q1 q2 q3 q4 u0 u1
    obtain ⟨⟨⟨t0, t1⟩, p0, p1, p2, p3, p4⟩, ⟨q0, q1, q2, q3, q4⟩, u0, u1⟩ := HKc.out w15 B15.out
    go_wp2_with fail
    refine (parts_any (ca := du) w15 (HUc.out w15 B15.out)).mono ?_
    rintro e w16 ⟨rfl, b16⟩
    rw [HNL.out]
    have B16 := Lib.hid (B15.out.trans (b16.mono B15.out.size))
    clear b16 t0 t1 p0 p1 p2 p3 p4 q0 q1 q2 q3 q4 u0 u1
    have HLV := Lib.hid (lives_any w16)
    go_wp2_with fail
    refine HLV.out.mono ?_
    rintro e w17 ⟨rfl, b17⟩
    have B17 := Lib.hid (Dc.out.trans ((B16.out.trans (b17.mono B16.out.size)).mono Dc.out.size))
    clear b17
    go_wp2_with fail
    go_ret
    exact ⟨rfl, B17.out⟩
  · have dg : decide (0 < gl) = false := decide_eq_false hg
    have dx : (x == 0) = false := by simp [hx0]
    have dp : decide (0 < x) = true := decide_eq_true (by omega)
    rw [if_neg hg, if_pos (by omega : 0 < x)] at hwl
    have hpe : ((es.length : Int) + (lu.length : Int) == (es.length : Int) + nl + 1) = true := by rw [beq_iff_eq]; omega
    clear hg hx0 hwl
    go_wp2_with fail
    refine (get_any ⟨ac, ah, aj, ak, ai⟩ wc (HTc.out wc (Below.refl _ _))).mono ?_
    rintro e w14 ⟨rfl, b14⟩
    rw [HGL.out]
    have B14 := Lib.hid b14
    clear b14 t0 t1 p0 p1 p2 p3 p4 q0 q1 q2 q3 q4 u0 u1
    obtain ⟨⟨⟨t0, t1⟩, p0, p1, p2, p3, p4⟩, ⟨q0, q1, q2, q3, q4⟩, u0, u1⟩ := HKc.out w14 B14.out
    go_wp2_with fail
    refine (parts_any (ca := ca) w14 (HTc.out w14 B14.out)).mono ?_
    rintro e w15 ⟨rfl, b15⟩
    rw [HNT.out]
    have B15 := Lib.hid (B14.out.trans (b15.mono B14.out.size))
    clear b15 t0 t1 p0 p1 p2 p3 p4 q0 q1 q2 q3 q4 u0 u1
    obtain ⟨⟨⟨t0, t1⟩, p0, p1, p2, p3, p4⟩, ⟨q0, q1, q2, q3, q4⟩, u0, u1⟩ := HKc.out w15 B15.out
    go_wp2_with fail
    refine (parts_any (ca := du) w15 (HUc.out w15 B15.out)).mono ?_
    rintro e w16 ⟨rfl, b16⟩
    rw [HNL.out]
    have B16 := Lib.hid (B15.out.trans (b16.mono B15.out.size))
    clear b16 t0 t1 p0 p1 p2 p3 p4 q0 q1 q2 q3 q4 u0 u1
    have HLV := Lib.hid (lives_any w16)
    go_wp2_with fail
    refine HLV.out.mono ?_
    rintro e w17 ⟨rfl, b17⟩
    have B17 := Lib.hid (Dc.out.trans ((B16.out.trans (b17.mono B16.out.size)).mono Dc.out.size))
    clear b17
    go_wp2_with fail
    go_ret
    exact ⟨rfl, B17.out⟩
end Go.Proofs.Ytpjjckfgnflmlaa.LawTapeWith

namespace Go.Proofs.Ytpjjckfgnflmlaa.tapeWith
open Go.ChangeShapes Go.WideShapes Go.ChangeAt Go.RowKit
open Go.ChangeMaps (open_string shut_string)
set_option linter.unusedVariables false

theorem own : ownKnob Try.prog.godebug = none := by kernel_rfl
theorem laidOut : laidOutB Try.prog = true := by kernel_rfl

/-- WHAT THE WALK IS TOLD OF A SLICE OF INTEGERS THAT CAME IN: it is nil; or it leads to a row of 'cap' cells, the numbers 'zs' (the first 'len' are its elements, the rest its spare room), each fitting its kind. -/
def IsRow (k : IntKind) (w : World) (a : Option Addr) (len cap : Nat) (zs : List Int) : Prop :=
  (a = none ∧ len = 0 ∧ cap = 0 ∧ zs = []) ∨
  ∃ x, a = some x ∧ len ≤ cap ∧ cap ≤ maxLen ∧ zs.length = cap ∧ (∀ i, i < zs.length → w.cell? (x.add i) = some (.int k (zs.getD i 0))) ∧ ∀ n ∈ zs, (Lit.int k n).wf = true

/-! ### STEP 1: THE WALK: the Go text returns true, AND WRITES NOTHING THAT WAS THERE: 'Below w.heap.size w w'' (Derived/Below.lean: '.refl', '.alloc', '.drew', '.setCell' at a new block, '.trans'). Open each 'IsRow' by 'rcases' AHEAD of 'go_enter'; part every test ahead of the walk. -/
theorem walk (a0 : Option Addr) (len0 cap0 : Nat) (z0 : List Int) (a1 : Option Addr) (len1 cap1 : Nat) (z1 : List Int) (a2 : Int) (a3 : Int) (a4 : Int) (a5 : Int) (w : World) (w0 : IsRow .i64 w a0 len0 cap0 z0) (w1 : IsRow .i64 w a1 len1 cap1 z1) (w2 : (Lit.int .i64 a2).wf = true) (w3 : (Lit.int .i64 a3).wf = true) (w4 : (Lit.int .i64 a4).wf = true) (w5 : (Lit.int .i64 a5).wf = true) :
    Calls Try.prog 10 #[.slice a0 len0 cap0, .slice a1 len1 cap1, .int .i64 a2, .int .i64 a3, .int .i64 a4, .int .i64 a5] w fun e w' => e = .returned (.bool true) ∧ Below w.heap.size w w' := by
  exact LawTapeWith.walk a0 len0 cap0 z0 a1 len1 cap1 z1 a2 a3 a4 a5 w w0 w1 w2 w3 w4 w5

/-! ### THE ROW's STEP: WRITTEN OUT: LEAVE IT -/
set_option maxRecDepth 100000 in
theorem lifted (os : Os) (started : os.Started) (H : Type) (enc : TypeId × Value → H) :
    ReturnsInHanded {} Try.checked os 10 .any (Rows.tapeWithSpec.pre6 enc Try.prog Try.f10 Rows.tapeWithRow.domain false) (Rows.tapeWithSpec.post enc Try.prog Try.f10 false true false false) := by
  refine returnsInHanded_of_change (C := Try.checked) own started (by kernel_rfl) Try.func10
    (ChangeSpec.witness6 (enc := enc) (C := Try.checked) false ⟨#[], #[.slice none 0 0, .slice none 0 0, .int .i64 0, .int .i64 0, .int .i64 0, .int .i64 0], []⟩ 8 (by kernel_rfl) (by kernel_rfl) (by kernel_rfl) (by kernel_rfl)) ?_
  intro W base args ds gs before hval0 hW hcnd _
  have hval : ∀ (j : Nat) t v, Try.f10.params[j]? = some t → args[j]? = some v → Value.okWide Try.prog W .any base t v := hval0
  have hW' := hW
  obtain ⟨p, q, hA0, hV, rfl, hfz, hnd⟩ := hW
  have hA : DataW.TrodAll enc Try.prog W 0 (fun _ => true) true Try.f10.params.toList args.toList ds p := hA0
  rw [Try.params10] at hA hval
  obtain ⟨v0, vs0, d0, ds0, p0, q0, hargs, rfl, rfl, h0, r0⟩ := trodAll_cons hA
  obtain ⟨v1, vs1, d1, ds1, p1, q1, rfl, rfl, rfl, h1, r1⟩ := trodAll_cons r0
  obtain ⟨v2, vs2, d2, ds2, p2, q2, rfl, rfl, rfl, h2, r2⟩ := trodAll_cons r1
  obtain ⟨v3, vs3, d3, ds3, p3, q3, rfl, rfl, rfl, h3, r3⟩ := trodAll_cons r2
  obtain ⟨v4, vs4, d4, ds4, p4, q4, rfl, rfl, rfl, h4, r4⟩ := trodAll_cons r3
  obtain ⟨v5, vs5, d5, ds5, p5, q5, rfl, rfl, rfl, h5, r5⟩ := trodAll_cons r4
  obtain ⟨rfl, rfl, rfl⟩ := trodAll_nil r5
  obtain rfl : args = #[v0, v1, v2, v3, v4, v5] := by cases args; simp_all
  obtain ⟨rfl, rfl⟩ := trodVars_none hV
  obtain ⟨a0, len0, cap0, rfl⟩ := okWide_slice Try.underlying22 (hval 0 22 v0 rfl rfl)
  have k0 := h0
  have lt0 : ∀ x ∈ p0, x.block < W.heap.size := by obtain ⟨m, hm⟩ := k0; exact DataW.trod_lt m _ _ _ hm
  obtain ⟨z0, w0⟩ : ∃ zs, IsRow .i64 W a0 len0 cap0 zs := by
    obtain ⟨fuel, hf⟩ := h0
    rcases open_ints Try.underlying22 Try.underlying3 (by kernel_rfl) hf with ⟨hcs, _⟩ | ⟨x, l, c, zs, hcs, _, hl, hm, hz, _, hcell, hwz⟩
    · simp [Value.cells] at hcs
      obtain ⟨rfl, rfl, rfl⟩ := hcs
      exact ⟨[], .inl ⟨rfl, rfl, rfl, rfl⟩⟩
    · simp [Value.cells] at hcs
      obtain ⟨rfl, rfl, rfl⟩ := hcs
      exact ⟨zs, .inr ⟨_, rfl, hl, hm, by simpa using hz, hcell, hwz⟩⟩
  obtain ⟨a1, len1, cap1, rfl⟩ := okWide_slice Try.underlying22 (hval 1 22 v1 rfl rfl)
  have k1 := h1
  have lt1 : ∀ x ∈ p1, x.block < W.heap.size := by obtain ⟨m, hm⟩ := k1; exact DataW.trod_lt m _ _ _ hm
  obtain ⟨z1, w1⟩ : ∃ zs, IsRow .i64 W a1 len1 cap1 zs := by
    obtain ⟨fuel, hf⟩ := h1
    rcases open_ints Try.underlying22 Try.underlying3 (by kernel_rfl) hf with ⟨hcs, _⟩ | ⟨x, l, c, zs, hcs, _, hl, hm, hz, _, hcell, hwz⟩
    · simp [Value.cells] at hcs
      obtain ⟨rfl, rfl, rfl⟩ := hcs
      exact ⟨[], .inl ⟨rfl, rfl, rfl, rfl⟩⟩
    · simp [Value.cells] at hcs
      obtain ⟨rfl, rfl, rfl⟩ := hcs
      exact ⟨zs, .inr ⟨_, rfl, hl, hm, by simpa using hz, hcell, hwz⟩⟩
  obtain ⟨a2, rfl, rfl, rfl, w2⟩ := open_int Try.underlying3 (hval 2 3 v2 rfl rfl) h2
  obtain ⟨a3, rfl, rfl, rfl, w3⟩ := open_int Try.underlying3 (hval 3 3 v3 rfl rfl) h3
  obtain ⟨a4, rfl, rfl, rfl, w4⟩ := open_int Try.underlying3 (hval 4 3 v4 rfl rfl) h4
  obtain ⟨a5, rfl, rfl, rfl, w5⟩ := open_int Try.underlying3 (hval 5 3 v5 rfl rfl) h5
  clear hA0 hval0
  refine (walk a0 len0 cap0 z0 a1 len1 cap1 z1 a2 a3 a4 a5 W w0 w1 w2 w3 w4 w5).mono fun e W' ⟨he, bel⟩ => ?_
  subst he
  exact ⟨_, rfl, _, _, _, [], _, [], hW', trodAll_mk1 (shut_bool Try.underlying4 _), (trodAll_cons_mk (Below.trod laidOut (by kernel_rfl) (of_decide_eq_true (by kernel_rfl)) k0 bel lt0) (trodAll_cons_mk (Below.trod laidOut (by kernel_rfl) (of_decide_eq_true (by kernel_rfl)) k1 bel lt1) (trodAll_cons_mk (shut_int Try.underlying3 w2) (trodAll_cons_mk (shut_int Try.underlying3 w3) (trodAll_cons_mk (shut_int Try.underlying3 w4) (trodAll_cons_mk (shut_int Try.underlying3 w5) trodAll_mk0)))))), rfl, bel.frame _, fun h => by cases h⟩

theorem over : Rows.tapeWithRow.holds Try.pinned (OpenSpec.ofChange Rows.tapeWithSpec) :=
  OpenClaim.holds_of_wide 10 Try.f10 rfl rfl rfl rfl rfl rfl rfl ⟨rfl, rfl, rfl, rfl, rfl⟩ rfl rfl rfl rfl rfl (by kernel_rfl) Try.func10 (by kernel_rfl)
    (of_decide_eq_true (by kernel_rfl)) (by unfold Func.isWrapper; first | (rw [if_pos (by decide +kernel)]; kernel_rfl) | (rw [if_neg (by decide +kernel)]; exact ⟨rfl, rfl⟩))
    (fun os started H enc _ => lifted os started H enc)

/-- ████ THE STATEMENT ████ -/
theorem proved : Rows.TapeWithSaid := over
end Go.Proofs.Ytpjjckfgnflmlaa.tapeWith
