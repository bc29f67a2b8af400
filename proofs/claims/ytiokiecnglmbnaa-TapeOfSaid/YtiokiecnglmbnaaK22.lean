/-
  What the program's decoder reads: lengths, causes, events, answers. No condition beyond the reader's shape.
  What the program's decoder reads: events and answers. No condition beyond the reader's shape.
-/
import Derived.Test.YtiokiecnglmbnaaK3
import Derived.Test.YtiokiecnglmbnaaK4
import Derived.Test.YtiokiecnglmbnaaK5
import Derived.Test.YtiokiecnglmbnaaK18

namespace Go.Proofs.Ytiokiecnglmbnaa
open Go Go.RowKit Go.Proofs
attribute [local go_sem] Oper.semAt_some

theorem size_cause : (Try.prog.info? 28).map (·.size) = some 3 := by kernel_rfl
set_option maxHeartbeats 1000000 in
theorem length_any {B : Nat} (g : Nat) (most : Int) (s : St) (w : World) (h : InAt B w g s) (_ : 0 ≤ most) (_ : most < 1000000) :
    Calls Try.prog 77 #[.pointer (some ⟨g, 0, none⟩), .int .u64 most] w fun e w' => e = .returned (.int .u64 (rdC most s).1) ∧ InAt B w' g (rdC most s).2 ∧ But g w w' := by
  have HU := Lib.hid (in_uint g s w h)
  obtain ⟨n, hn⟩ : ∃ n, (rdU s).1 = n := ⟨_, rfl⟩
  obtain ⟨s1, hs1⟩ : ∃ s1, (rdU s).2 = s1 := ⟨_, rfl⟩
  rw [hn, hs1] at HU
  have HC := Lib.hid (show rdC most s = (n, if most < n then s1.fail 2 else s1) by unfold rdC; rw [hn, hs1])
  clear hn hs1 h
  by_cases hlt : most < n
  · go_enter Try.func77, Try.ntmps77
    go_wp2_with (first
      | (go_at_call 93; refine HU.out.mono ?_; rintro e w1 ⟨rfl, h1, b1⟩; have H1 := Lib.hid (And.intro h1 b1); clear h1 b1)
      | (go_at_call 81; refine (in_fail g _ 2 _ H1.out.1 rfl ⟨by decide, by decide⟩).mono ?_; rintro e w2 ⟨rfl, h2, b2⟩; have H2 := Lib.hid (And.intro h2 b2); clear h2 b2))
    go_ret
    rw [HC.out, if_pos hlt]
    exact ⟨rfl, H2.out.1, but_trans H1.out.2 H2.out.2⟩
  · go_enter Try.func77, Try.ntmps77
    go_wp2_with (go_at_call 93; refine HU.out.mono ?_; rintro e w1 ⟨rfl, h1, b1⟩; have H1 := Lib.hid (And.intro h1 b1); clear h1 b1)
    go_ret
    rw [HC.out, if_neg (by omega)]
    exact ⟨rfl, H1.out.1, H1.out.2⟩
theorem InAt.more {B g : Nat} {w w' : World} {s : St} (h : InAt B w g s) (hb : Below w.heap.size w w') : InAt B w' g s := h.below hb
set_option maxHeartbeats 2000000 in
set_option maxRecDepth 100000 in
theorem cause_anyD {B : Nat} (g : Nat) (s s1 s2 s3 : St) (x0 x1 x2 : Int) (w : World) (h : InAt B w g s) (e0 : rdI s = (x0, s1)) (e1 : rdI s1 = (x1, s2)) (e2 : rdI s2 = (x2, s3)) :
    Calls Try.prog 95 #[.pointer (some ⟨g, 0, none⟩)] w fun e w' => e = .returned (.agg #[.int .i64 x0, .int .i64 x1, .int .i64 x2]) ∧ InAt B w' g s3 ∧ But g w w' := by
  have hgl := h.lt
  obtain ⟨U, hU⟩ : ∃ U, w.alloc (.cells #[.int .i64 0, .int .i64 0, .int .i64 0] 28) = U := ⟨_, rfl⟩
  have hb : Below w.heap.size w U := hU ▸ one_box w _
  have kr : U.heap[w.heap.size]? = some (.cells #[.int .i64 0, .int .i64 0, .int .i64 0] 28 (0, 0)) := by rw [← hU]; exact new_at rfl
  have HU := Lib.hid (And.intro (h.below hb) hb)
  have HR := Lib.hid kr
  have HE := Lib.hid (And.intro e0 (And.intro e1 e2))
  clear hb kr h e0 e1 e2
  go_enter Try.func95, Try.ntmps95
  go_wp2_with fail
  refine (in_int g s _ HU.out.1).mono ?_
  rintro e w1 ⟨rfl, h1, b1⟩
  rw [HE.out.1] at h1 ⊢
  have H1 := Lib.hid (And.intro h1 b1)
  clear h1 b1
  go_wp2_with fail
  refine (in_int g s1 _ H1.out.1).mono ?_
  rintro e w2 ⟨rfl, h2, b2⟩
  rw [HE.out.2.1] at h2 ⊢
  have H2 := Lib.hid (And.intro h2 b2)
  clear h2 b2
  go_wp2_with fail
  refine (in_int g s2 _ H2.out.1).mono ?_
  rintro e w3 ⟨rfl, h3, b3⟩
  rw [HE.out.2.2] at h3 ⊢
  have hb3 := but_trans H1.out.2 (but_trans H2.out.2 b3)
  have hres : w3.heap[w.heap.size]? = _ := (hb3.block _ (by have := HU.out.2.size; rw [← hU]; simp) (fun e => by injection e with e; omega)).trans HR.out
  have H3 := Lib.hid (And.intro h3 hb3)
  clear h3 b3 hb3
  go_wp2_with (refine RgX.wpList_store_seg rfl 28 _ _ rfl w.heap.size 0 (.agg #[.int .i64 x0, .int .i64 x1, .int .i64 x2]) rfl rfl 28 _ hres (by rw [size_cause]; rfl) (by show 0 + 3 ≤ 3; omega) (by simp [Value.cells, Value.oneCell']) #[.int .i64 x0, .int .i64 x1, .int .i64 x2] rfl ?_; intro W4 k4 ho4 hz4 hb4)
  have r0 := cell_of_row _ _ 0 _ _ (0, 0) k4
  have r1 := cell_of_row _ _ 1 _ _ (0, 0) k4
  have r2 := cell_of_row _ _ 2 _ _ (0, 0) k4
  refine bodyPost_ret (v := .agg #[.int .i64 x0, .int .i64 x1, .int .i64 x2]) (by simp [results, Try.results95, go_sem, r0, r1, r2]) rfl ?_
  have hg4 : w3.grownBy W4 (some w.heap.size) := ⟨hb4.os, hb4.tape, hb4.output, by omega, fun b _ hne => ho4 b (fun e => hne (by rw [e]))⟩
  refine ⟨rfl, H3.out.1.grown hg4 (fun e => by injection e with e; omega) (fun b e => .inr (fun C hC => by injection e with e; subst e; rw [hres] at hC; injection hC with hC; injection hC with _ hC; cases hC)), ?_⟩
  have hbw : But g w w3 := ⟨H3.out.2.os.trans HU.out.2.os, H3.out.2.tape.trans HU.out.2.tape, H3.out.2.output.trans HU.out.2.output, Nat.le_trans HU.out.2.size H3.out.2.size, fun b hb hne => (H3.out.2.block b (Nat.lt_of_lt_of_le hb HU.out.2.size) hne).trans (HU.out.2.block b hb)⟩
  exact ⟨hb4.os.trans hbw.os, hb4.tape.trans hbw.tape, hb4.output.trans hbw.output, by have := hbw.size; omega, fun b hb hne => (ho4 b (by omega)).trans (hbw.block b hb hne)⟩
end Go.Proofs.Ytiokiecnglmbnaa

namespace Go.Proofs.Ytiokiecnglmbnaa
open Go Go.RowKit Go.Proofs
attribute [local go_sem] Oper.semAt_some

theorem size_eventD : (Try.prog.info? 47).map (·.size) = some 8 := by kernel_rfl
theorem size_msgD : (Try.prog.info? 45).map (·.size) = some 5 := by kernel_rfl
theorem size_answerD : (Try.prog.info? 71).map (·.size) = some 6 := by kernel_rfl
theorem row8D {V : World} {g : Nat} {t : TypeId} {x0 x1 x2 x3 x4 x5 x6 x7 : Value} (h : V.heap[g]? = some (.cells #[x0, x1, x2, x3, x4, x5, x6, x7] t (0, 0))) : ((V.cell? ⟨g, 0, none⟩ = some x0 ∧ V.cell? ⟨g, 1, none⟩ = some x1) ∧ (V.cell? ⟨g, 2, none⟩ = some x2 ∧ V.cell? ⟨g, 3, none⟩ = some x3)) ∧ (V.cell? ⟨g, 4, none⟩ = some x4 ∧ V.cell? ⟨g, 5, none⟩ = some x5) ∧ V.cell? ⟨g, 6, none⟩ = some x6 ∧ V.cell? ⟨g, 7, none⟩ = some x7 :=
  ⟨⟨⟨cell_of_row _ _ 0 _ _ (0, 0) h, cell_of_row _ _ 1 _ _ (0, 0) h⟩, cell_of_row _ _ 2 _ _ (0, 0) h, cell_of_row _ _ 3 _ _ (0, 0) h⟩, ⟨cell_of_row _ _ 4 _ _ (0, 0) h, cell_of_row _ _ 5 _ _ (0, 0) h⟩, cell_of_row _ _ 6 _ _ (0, 0) h, cell_of_row _ _ 7 _ _ (0, 0) h⟩
theorem but_of {g : Nat} {a b c : World} (h : Below a.heap.size a b) (k : But g b c) : But g a c := ⟨k.os.trans h.os, k.tape.trans h.tape, k.output.trans h.output, Nat.le_trans h.size k.size, fun b hb hne => (k.block b (Nat.lt_of_lt_of_le hb h.size) hne).trans (h.block b hb)⟩
/-- A store into a block made since. -/
theorem but_store {g r : Nat} {a b c : World} (h : But g a b) (hr : a.heap.size ≤ r) (hs : c.heap.size = b.heap.size) (ho : c.os = b.os) (ht : c.tape = b.tape) (hp : c.output = b.output) (hb : ∀ k, k ≠ r → c.heap[k]? = b.heap[k]?) : But g a c :=
  ⟨ho.trans h.os, ht.trans h.tape, hp.trans h.output, by have := h.size; omega, fun k hk hne => (hb k (by omega)).trans (h.block k hk hne)⟩
theorem in_store {B g r : Nat} {b c : World} {s : St} {C : Array Value} {t : TypeId} {fr : Nat × Nat} (h : InAt B b g s) (hne : g ≠ r) (hr : b.heap[r]? = some (.cells C t fr)) (ht : t ≠ 5) (hb : ∀ k, k ≠ r → c.heap[k]? = b.heap[k]?) : InAt B c g s :=
  h.keep (hb g hne) fun k D _ hD => hb k (fun e => by subst e; rw [hr] at hD; injection hD with hD; injection hD with _ hD; exact ht hD)
set_option maxHeartbeats 4000000 in
set_option maxRecDepth 100000 in
theorem event_anyD {B : Nat} (g : Nat) (s : St) (w : World) (h : InAt B w g s) :
    Calls Try.prog 79 #[.pointer (some ⟨g, 0, none⟩)] w fun e w' => e = .returned (evV (rdE s).1) ∧ InAt B w' g (rdE s).2 ∧ But g w w' := by
  have hgl := h.lt
  obtain ⟨xk, s1, e0⟩ : ∃ x s1, rdI s = (x, s1) := ⟨_, _, rfl⟩
  obtain ⟨xn, s2, e1⟩ : ∃ x z, rdI s1 = (x, z) := ⟨_, _, rfl⟩
  obtain ⟨xa, s3, e2⟩ : ∃ x z, rdI s2 = (x, z) := ⟨_, _, rfl⟩
  obtain ⟨xc, s4, e3⟩ : ∃ x z, rdI s3 = (x, z) := ⟨_, _, rfl⟩
  obtain ⟨xh, s5, e4⟩ : ∃ x z, rdI s4 = (x, z) := ⟨_, _, rfl⟩
  obtain ⟨xt, s6, e5⟩ : ∃ x z, rdI s5 = (x, z) := ⟨_, _, rfl⟩
  obtain ⟨xi, s7, e6⟩ : ∃ x z, rdI s6 = (x, z) := ⟨_, _, rfl⟩
  obtain ⟨xp, s8, e7⟩ : ∃ x z, rdI s7 = (x, z) := ⟨_, _, rfl⟩
  have HE := Lib.hid (show rdE s = (⟨xk, xn, xa, ⟨xc, xh, xt, xi, xp⟩⟩, s8) by
    unfold rdE
    simp only [rdZ, e0, e1, e2, e3, e4, e5, e6, e7]
    rfl)
  obtain ⟨U, hU⟩ : ∃ U, w.alloc (.cells #[.int .i64 0, .int .i64 0, .int .i64 0, .int .i64 0, .int .i64 0, .int .i64 0, .int .i64 0, .int .i64 0] 47) = U := ⟨_, rfl⟩
  have hb : Below w.heap.size w U := hU ▸ one_box w _
  have hsU : U.heap.size = w.heap.size + 1 := by rw [← hU]; simp
  have kr : U.heap[w.heap.size]? = some (.cells #[.int .i64 0, .int .i64 0, .int .i64 0, .int .i64 0, .int .i64 0, .int .i64 0, .int .i64 0, .int .i64 0] 47 (0, 0)) := by rw [← hU]; exact new_at rfl
  have HU := Lib.hid (And.intro (h.below hb) hb)
  have HR := Lib.hid kr
  have HEE := Lib.hid (And.intro (And.intro e0 (And.intro e1 e2)) (And.intro (And.intro e3 (And.intro e4 e5)) (And.intro e6 e7)))
  clear hb kr h e0 e1 e2 e3 e4 e5 e6 e7
  rw [HE.out]
  go_enter Try.func79, Try.ntmps79
  go_wp2_with fail
  refine (in_int g s _ HU.out.1).mono ?_
  rintro e w1 ⟨rfl, h1, b1⟩
  rw [HEE.out.1.1] at h1 ⊢
  have H1 := Lib.hid (And.intro h1 b1)
  clear h1 b1
  go_wp2_with fail
  refine (in_int g s1 _ H1.out.1).mono ?_
  rintro e w2 ⟨rfl, h2, b2⟩
  rw [HEE.out.1.2.1] at h2 ⊢
  have H2 := Lib.hid (And.intro h2 b2)
  clear h2 b2
  go_wp2_with fail
  refine (in_int g s2 _ H2.out.1).mono ?_
  rintro e w3 ⟨rfl, h3, b3⟩
  rw [HEE.out.1.2.2] at h3 ⊢
  have hb3 := but_trans H1.out.2 (but_trans H2.out.2 b3)
  have hs3 := hb3.size
  obtain ⟨w4, hw4⟩ : ∃ w4, w3.alloc (.cells #[.int .i64 xk, .int .i64 xn, .int .i64 xa, .int .i64 0, .int .i64 0, .int .i64 0, .int .i64 0, .int .i64 0] 47) = w4 := ⟨_, rfl⟩
  have k4 : w4.heap[w3.heap.size]? = some (.cells #[.int .i64 xk, .int .i64 xn, .int .i64 xa, .int .i64 0, .int .i64 0, .int .i64 0, .int .i64 0, .int .i64 0] 47 (0, 0)) := by rw [← hw4]; exact World.alloc_heap_new w3 _
  have hs4 : w4.heap.size = w3.heap.size + 1 := by rw [← hw4]; simp
  have hb34 : Below w3.heap.size w3 w4 := hw4 ▸ one_box w3 _
  have h4 := h3.below hb34
  have hres : w4.heap[w.heap.size]? = _ := (hb34.block _ (by omega)).trans ((hb3.block _ (by omega) (fun e => by injection e with e; omega)).trans HR.out)
  have hbw4 : But g w w4 := but_below (but_of HU.out.2 hb3) hb34
  have H4 := Lib.hid (And.intro h4 (And.intro hbw4 (And.intro k4 hres)))
  obtain ⟨g5, hg5⟩ : ∃ g5, w3.heap.size = g5 := ⟨_, rfl⟩
  rw [hg5] at H4 hs4
  have hg5w : w.heap.size < g5 := by omega
  have HW4 := Lib.hid (And.intro hw4 hg5)
  clear h3 b3 hb3 hb34 h4 hres hbw4 k4 hw4 hg5
  go_wp2_with fail
  rw [HW4.out.1, HW4.out.2]
  clear HW4
  refine (cause_anyD g s3 s4 s5 s6 xc xh xt _ H4.out.1 HEE.out.2.1.1 HEE.out.2.1.2.1 HEE.out.2.1.2.2).mono ?_
  rintro e w5 ⟨rfl, h5, b5⟩
  have H5 := Lib.hid (And.intro h5 b5)
  clear h5 b5
  go_wp2_with fail
  refine (in_int g s6 _ H5.out.1).mono ?_
  rintro e w6 ⟨rfl, h6, b6⟩
  rw [HEE.out.2.2.1] at h6 ⊢
  have H6 := Lib.hid (And.intro h6 b6)
  clear h6 b6
  go_wp2_with fail
  refine (in_int g s7 _ H6.out.1).mono ?_
  rintro e w7 ⟨rfl, h7, b7⟩
  rw [HEE.out.2.2.2] at h7 ⊢
  have hb7 := but_trans H5.out.2 (but_trans H6.out.2 b7)
  have hs7 := hb7.size
  have hbx : w7.heap[g5]? = _ := (hb7.block _ (by omega) (fun e => by injection e with e; omega)).trans H4.out.2.2.1
  have hres : w7.heap[w.heap.size]? = _ := (hb7.block _ (by omega) (fun e => by injection e with e; omega)).trans H4.out.2.2.2
  have H7 := Lib.hid (And.intro h7 (but_trans H4.out.2.1 hb7))
  clear h7 b7 hb7
  go_wp2_with (first
    | (refine RgX.wpList_store_seg rfl 45 _ _ rfl g5 3 (.agg #[.int .i64 xc, .int .i64 xh, .int .i64 xt, .int .i64 xi, .int .i64 xp]) rfl rfl 47 _ hbx (by rw [size_msgD]; rfl) (by show 3 + 5 ≤ 8; omega) (by simp [Value.cells, Value.oneCell']) #[.int .i64 xk, .int .i64 xn, .int .i64 xa, .int .i64 xc, .int .i64 xh, .int .i64 xt, .int .i64 xi, .int .i64 xp] rfl ?_; intro W8 k8 ho8 hz8 hb8; have hres8 : W8.heap[w.heap.size]? = _ := (ho8 _ (by omega)).trans hres; have h8 := in_store H7.out.1 (by omega) hbx (by decide) ho8; have b8 := but_store H7.out.2 (by omega) hz8 hb8.os hb8.tape hb8.output ho8; obtain ⟨⟨⟨r0, r1⟩, r2, r3⟩, ⟨r4, r5⟩, r6, r7⟩ := row8D k8; have H8 := Lib.hid (And.intro h8 b8); clear h8 b8)
    | (refine RgX.wpList_store_seg rfl 47 _ _ rfl w.heap.size 0 (.agg #[.int .i64 xk, .int .i64 xn, .int .i64 xa, .int .i64 xc, .int .i64 xh, .int .i64 xt, .int .i64 xi, .int .i64 xp]) rfl rfl 47 _ hres8 (by rw [size_eventD]; rfl) (by show 0 + 8 ≤ 8; omega) (by simp [Value.cells, Value.oneCell']) #[.int .i64 xk, .int .i64 xn, .int .i64 xa, .int .i64 xc, .int .i64 xh, .int .i64 xt, .int .i64 xi, .int .i64 xp] rfl ?_; intro W9 k9 ho9 hz9 hb9))
  obtain ⟨⟨⟨q0, q1⟩, q2, q3⟩, ⟨q4, q5⟩, q6, q7⟩ := row8D k9
  refine bodyPost_ret (v := .agg #[.int .i64 xk, .int .i64 xn, .int .i64 xa, .int .i64 xc, .int .i64 xh, .int .i64 xt, .int .i64 xi, .int .i64 xp]) (by simp [results, Try.results79, go_sem, q0, q1, q2, q3, q4, q5, q6, q7]) rfl ?_
  exact ⟨rfl, in_store H8.out.1 (by omega) hres8 (by decide) ho9, but_store H8.out.2 (Nat.le_refl _) hz9 hb9.os hb9.tape hb9.output ho9⟩
end Go.Proofs.Ytiokiecnglmbnaa
