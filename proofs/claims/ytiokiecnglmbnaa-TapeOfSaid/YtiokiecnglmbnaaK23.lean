/-
  What the program's decoder reads: answers. No condition beyond the reader's shape.
-/
import Derived.Test.YtiokiecnglmbnaaK22
import Derived.Test.YtiokiecnglmbnaaK4
import Derived.Deep.Cut
import Derived.Deep.RegionLaw
import Derived.Deep.RegionWith

namespace Go.Proofs.Ytiokiecnglmbnaa
open Go Go.RowKit Go.Proofs
attribute [local go_sem] Oper.semAt_some

theorem row6D {V : World} {g : Nat} {t : TypeId} {x0 x1 x2 x3 x4 x5 : Value} (h : V.heap[g]? = some (.cells #[x0, x1, x2, x3, x4, x5] t (0, 0))) : ((V.cell? ⟨g, 0, none⟩ = some x0 ∧ V.cell? ⟨g, 1, none⟩ = some x1) ∧ (V.cell? ⟨g, 2, none⟩ = some x2 ∧ V.cell? ⟨g, 3, none⟩ = some x3)) ∧ V.cell? ⟨g, 4, none⟩ = some x4 ∧ V.cell? ⟨g, 5, none⟩ = some x5 :=
  ⟨⟨⟨cell_of_row _ _ 0 _ _ (0, 0) h, cell_of_row _ _ 1 _ _ (0, 0) h⟩, cell_of_row _ _ 2 _ _ (0, 0) h, cell_of_row _ _ 3 _ _ (0, 0) h⟩, cell_of_row _ _ 4 _ _ (0, 0) h, cell_of_row _ _ 5 _ _ (0, 0) h⟩
/-- A store into a cell of a row: the row, and the other blocks. -/
theorem set_rowD {V : World} {r i : Nat} {C : Array Value} {t : TypeId} {fr : Nat × Nat} (h : V.heap[r]? = some (.cells C t fr)) (u : Value) : (V.setCell ⟨r, i, none⟩ u).heap[r]? = some (.cells (C.setIfInBounds i u) t fr) := by
  obtain ⟨hlt, hk⟩ := Array.getElem?_eq_some_iff.1 h
  show (V.heap.modify r _)[r]? = _
  rw [Array.getElem?_eq_getElem (by rw [Array.size_modify]; exact hlt), Array.getElem_modify_self, hk]
  rfl
theorem set_otherD {V : World} {r i b : Nat} (u : Value) (h : b ≠ r) : (V.setCell ⟨r, i, none⟩ u).heap[b]? = V.heap[b]? := Below.heap_setCell V ⟨r, i, none⟩ u b h
theorem set_sizeD (V : World) (p : Addr) (u : Value) : (V.setCell p u).heap.size = V.heap.size := by simp [World.setCell]
theorem set1D {V : World} {r i : Nat} {C : Array Value} {t : TypeId} {fr : Nat × Nat} (h : V.heap[r]? = some (.cells C t fr)) (u : Value) :
    ∃ W, V.setCell ⟨r, i, none⟩ u = W ∧ W.heap[r]? = some (.cells (C.setIfInBounds i u) t fr) ∧ (∀ b, b ≠ r → W.heap[b]? = V.heap[b]?) ∧ W.heap.size = V.heap.size ∧ W.os = V.os ∧ W.tape = V.tape ∧ W.output = V.output :=
  ⟨_, rfl, set_rowD h u, fun _ hb => set_otherD u hb, set_sizeD _ _ _, rfl, rfl, rfl⟩
theorem set6D {V : World} {r : Nat} {z0 z1 z2 z3 z4 z5 : Value} {t : TypeId} {fr : Nat × Nat} (h : V.heap[r]? = some (.cells #[z0, z1, z2, z3, z4, z5] t fr)) (a0 a1 a2 a3 a4 a5 : Value) :
    ∃ W, ((((((V.setCell ⟨r, 0, none⟩ a0).setCell ⟨r, 1, none⟩ a1).setCell ⟨r, 2, none⟩ a2).setCell ⟨r, 3, none⟩ a3).setCell ⟨r, 4, none⟩ a4).setCell ⟨r, 5, none⟩ a5) = W ∧ W.heap[r]? = some (.cells #[a0, a1, a2, a3, a4, a5] t fr) ∧ (∀ b, b ≠ r → W.heap[b]? = V.heap[b]?) ∧ W.heap.size = V.heap.size ∧ (W.os = V.os ∧ W.tape = V.tape ∧ W.output = V.output) := by
  obtain ⟨W0, e0, k0, o0, s0, p0, q0, r0⟩ := set1D (i := 0) h a0
  rw [e0]
  clear e0
  obtain ⟨W1, e1, k1, o1, s1, p1, q1, r1⟩ := set1D (i := 1) k0 a1
  rw [e1]
  clear e1
  obtain ⟨W2, e2, k2, o2, s2, p2, q2, r2⟩ := set1D (i := 2) k1 a2
  rw [e2]
  clear e2
  obtain ⟨W3, e3, k3, o3, s3, p3, q3, r3⟩ := set1D (i := 3) k2 a3
  rw [e3]
  clear e3
  obtain ⟨W4, e4, k4, o4, s4, p4, q4, r4⟩ := set1D (i := 4) k3 a4
  rw [e4]
  clear e4
  obtain ⟨W5, e5, k5, o5, s5, p5, q5, r5⟩ := set1D (i := 5) k4 a5
  rw [e5]
  clear e5
  exact ⟨W5, rfl, k5, fun b hb => (o5 b hb).trans ((o4 b hb).trans ((o3 b hb).trans ((o2 b hb).trans ((o1 b hb).trans (o0 b hb))))), by omega, p5.trans (p4.trans (p3.trans (p2.trans (p1.trans p0)))), q5.trans (q4.trans (q3.trans (q2.trans (q1.trans q0)))), r5.trans (r4.trans (r3.trans (r2.trans (r1.trans r0))))⟩
set_option maxHeartbeats 4000000 in
set_option maxRecDepth 100000 in
theorem answer_anyD {B : Nat} (g : Nat) (s : St) (w : World) (h : InAt B w g s) :
    Calls Try.prog 80 #[.pointer (some ⟨g, 0, none⟩)] w fun e w' => e = .returned (anV (rdA s).1) ∧ InAt B w' g (rdA s).2 ∧ But g w w' := by
  have hgl := h.lt
  obtain ⟨xc, s1, e0⟩ : ∃ x z, rdI s = (x, z) := ⟨_, _, rfl⟩
  obtain ⟨xh, s2, e1⟩ : ∃ x z, rdI s1 = (x, z) := ⟨_, _, rfl⟩
  obtain ⟨xt, s3, e2⟩ : ∃ x z, rdI s2 = (x, z) := ⟨_, _, rfl⟩
  obtain ⟨xk, s4, e3⟩ : ∃ x z, rdI s3 = (x, z) := ⟨_, _, rfl⟩
  obtain ⟨xi, s5, e4⟩ : ∃ x z, rdI s4 = (x, z) := ⟨_, _, rfl⟩
  obtain ⟨y, s6, e5⟩ : ∃ x z, rdI s5 = (x, z) := ⟨_, _, rfl⟩
  have HE := Lib.hid (show rdA s = ((⟨xc, xh, xt, xk, xi⟩, y), s6) by
    unfold rdA
    simp only [rdZ, e0, e1, e2, e3, e4, e5]
    rfl)
  obtain ⟨U, hU⟩ : ∃ U, w.alloc (.cells #[.int .i64 0, .int .i64 0, .int .i64 0, .int .i64 0, .int .i64 0, .int .i64 0] 71) = U := ⟨_, rfl⟩
  have hb : Below w.heap.size w U := hU ▸ one_box w _
  have hsU : U.heap.size = w.heap.size + 1 := by rw [← hU]; simp
  have kr : U.heap[w.heap.size]? = some (.cells #[.int .i64 0, .int .i64 0, .int .i64 0, .int .i64 0, .int .i64 0, .int .i64 0] 71 (0, 0)) := by rw [← hU]; exact new_at rfl
  have HU := Lib.hid (And.intro (h.below hb) hb)
  have HR := Lib.hid kr
  have HEE := Lib.hid (And.intro (And.intro e0 (And.intro e1 e2)) (And.intro e3 (And.intro e4 e5)))
  clear hb kr h e0 e1 e2 e3 e4 e5
  rw [HE.out]
  go_enter Try.func80, Try.ntmps80
  go_wp2_with fail
  refine (cause_anyD g s s1 s2 s3 xc xh xt _ HU.out.1 HEE.out.1.1 HEE.out.1.2.1 HEE.out.1.2.2).mono ?_
  rintro e w1 ⟨rfl, h1, b1⟩
  have H1 := Lib.hid (And.intro h1 b1)
  clear h1 b1
  go_wp2_with fail
  refine (in_int g s3 _ H1.out.1).mono ?_
  rintro e w2 ⟨rfl, h2, b2⟩
  rw [HEE.out.2.1] at h2 ⊢
  have H2 := Lib.hid (And.intro h2 b2)
  clear h2 b2
  go_wp2_with fail
  refine (in_int g s4 _ H2.out.1).mono ?_
  rintro e w3 ⟨rfl, h3, b3⟩
  rw [HEE.out.2.2.1] at h3 ⊢
  have hb3 := but_trans H1.out.2 (but_trans H2.out.2 b3)
  have hs3 := hb3.size
  obtain ⟨w4, hw4⟩ : ∃ w4, w3.alloc (.cells #[.int .i64 xc, .int .i64 xh, .int .i64 xt, .int .i64 xk, .int .i64 xi] 30) = w4 := ⟨_, rfl⟩
  have k4 : w4.heap[w3.heap.size]? = some (.cells #[.int .i64 xc, .int .i64 xh, .int .i64 xt, .int .i64 xk, .int .i64 xi] 30 (0, 0)) := by rw [← hw4]; exact World.alloc_heap_new w3 _
  have hs4 : w4.heap.size = w3.heap.size + 1 := by rw [← hw4]; simp
  have hb34 : Below w3.heap.size w3 w4 := hw4 ▸ one_box w3 _
  have h4 := h3.below hb34
  have hres : w4.heap[w.heap.size]? = _ := (hb34.block _ (by omega)).trans ((hb3.block _ (by omega) (fun e => by injection e with e; omega)).trans HR.out)
  have hbw4 : But g w w4 := but_below (but_of HU.out.2 hb3) hb34
  have H4 := Lib.hid (And.intro h4 (And.intro hbw4 (And.intro k4 hres)))
  obtain ⟨g5, hg5⟩ : ∃ g5, w3.heap.size = g5 := ⟨_, rfl⟩
  rw [hg5] at H4 hs4
  have hg5w : w.heap.size < g5 := by omega
  have HW4 := Lib.hid (And.intro hw4 hg5)
  clear h3 b3 hb3 hb34 h4 hres hbw4 k4 hw4 hg5
  go_upto_region 2 with (fail)
  rw [HW4.out.1, HW4.out.2]
  clear HW4
  obtain ⟨c0, c1, c2, c3, c4⟩ := row5 H4.out.2.2.1
  have hi5 := in_int g s5 w4.drew (H4.out.1.below (Below.refl _ _).drew)
  rw [HEE.out.2.2.2] at hi5
  have HI5 := Lib.hid hi5
  clear hi5
  go_region_law (go_simp; go_at_call 94; refine HI5.out.mono ?_; clear HI5; rintro e w5 ⟨rfl, h5, b5⟩
                 have hd5 : But g w4 w5 := ⟨b5.os, b5.tape, b5.output, b5.size, b5.block⟩
                 obtain ⟨d0, d1, d2, d3, d4⟩ := row5 ((hd5.block _ (by omega) (fun e => by injection e with e; omega)).trans H4.out.2.2.1)
                 have hr5 := (hd5.block w.heap.size (by omega) (fun e => by injection e with e; omega)).trans H4.out.2.2.2
                 obtain ⟨⟨⟨q0, q1⟩, q2, q3⟩, q4, q5⟩ := row6D hr5
                 have hf : ∀ i, w5.frozen? ⟨w.heap.size, i, none⟩ = false := fun i => by simp [World.frozen?, hr5]
                 have f0 := hf 0
                 have f1 := hf 1
                 have f2 := hf 2
                 have f3 := hf 3
                 have f4 := hf 4
                 have f5 := hf 5
                 have H5 := Lib.hid (And.intro hr5 (And.intro h5 (but_trans H4.out.2.1 hd5)))
                 clear h5 b5 hd5 hf hr5)
  all_goals
    go_wp2_with fail
    obtain ⟨W9, hW9, k9, ho9, hz9, hos, htp, hop⟩ := set6D H5.out.1 (.int .i64 xc) (.int .i64 xh) (.int .i64 xt) (.int .i64 xk) (.int .i64 xi) (.int .i64 y)
    rw [hW9]
    obtain ⟨⟨⟨p0, p1⟩, p2, p3⟩, p4, p5⟩ := row6D k9
    refine bodyPost_ret (v := .agg #[.int .i64 xc, .int .i64 xh, .int .i64 xt, .int .i64 xk, .int .i64 xi, .int .i64 y]) (by simp [results, Try.results80, go_sem, p0, p1, p2, p3, p4, p5]) rfl ?_
    exact ⟨rfl, in_store H5.out.2.1 (by omega) H5.out.1 (by decide) ho9, but_store H5.out.2.2 (Nat.le_refl _) hz9 hos htp hop ho9⟩
end Go.Proofs.Ytiokiecnglmbnaa
