/-
  The printer: handlers (written by wip/gen/prhd.py).
-/
import Derived.Test.YtlfpaemfhanpiaaGreatDoorK18

namespace Go.Proofs.YtlfpaemfhanpiaaGreatDoor
open Go Go.RowKit Go.Proofs
attribute [local go_sem] Oper.semAt_some

/-- The printer between two calls of a function whose argument lies in a box of that type. -/
def Sb (T : TypeId) (lo g : Nat) (W : World) (C : Array Value) (x : PS.Bs) (V : World) : Prop := PrV lo V g x ∧ QT lo (W.alloc (.cells C T)) V ∧ lo ≤ W.heap.size ∧ TB lo W
section
variable {T : TypeId} {lo g hi : Nat} {W V V' : World} {C : Array Value} {v : Value} {x y : PS.Bs} {t : TY.Nd}
theorem Sb.start (h : PrV lo W g x) (hl : lo ≤ W.heap.size) (hT : TB lo W) (C : Array Value) : Sb T lo g W C x (W.alloc (.cells C T)) := ⟨h.alloc _, QT.refl _ _, hl, hT⟩
theorem Sb.below (h : Sb T lo g W C x V) (hb : Below V.heap.size V V') : Sb T lo g W C x V' := ⟨h.1.keep hb, h.2.1.trans (QT.of_below hb), h.2.2⟩
theorem Sb.step (h : Sb T lo g W C x V) (h1 : PrV lo V' g y) (h2 : QT lo V V') : Sb T lo g W C y V' := ⟨h1, h.2.1.trans h2, h.2.2⟩
theorem Sb.row (h : Sb T lo g W C x V) (h1 : T ≠ 5) (h2 : T ≠ 51) : V.heap[W.heap.size]? = some (.cells C T (0, 0)) := h.2.1.ty _ _ _ (World.alloc_heap_new W _) h1 h2
theorem Sb.all (h : Sb T lo g W C x V) : QT lo W V := (QT.of_below ((Below.refl _ _).alloc (Nat.le_refl _) _)).trans h.2.1
theorem Sb.nd (h : Sb T lo g W C x V) (hv : NdV W hi t v) : NdV V hi t v := h.all.nd hv
theorem Sb.tb (h : Sb T lo g W C x V) : TB lo V := h.2.2.2.qt h.all
theorem Sb.low (h : Sb T lo g W C x V) : lo ≤ V.heap.size := Nat.le_trans h.2.2.1 h.all.size
theorem Sb.fin (h : Sb T lo g W C x V) : PrV lo V g x ∧ QT lo W V := ⟨h.1, h.all⟩
theorem Sb.hd {c0 c1 c2 c3 c4 : Value} (h : Sb 48 lo g W #[c0, c1, c2, c3, c4] x V) : V.cell? ⟨W.heap.size, 0, none⟩ = some c0 ∧ V.cell? ⟨W.heap.size, 1, none⟩ = some c1 ∧ V.cell? ⟨W.heap.size, 2, none⟩ = some c2 ∧ V.cell? ⟨W.heap.size, 3, none⟩ = some c3 ∧ V.cell? ⟨W.heap.size, 4, none⟩ = some c4 := by
  have h := h.row (by decide) (by decide)
  exact ⟨cell_of_row _ _ 0 _ _ (0, 0) h, cell_of_row _ _ 1 _ _ (0, 0) h, cell_of_row _ _ 2 _ _ (0, 0) h, cell_of_row _ _ 3 _ _ (0, 0) h, cell_of_row _ _ 4 _ _ (0, 0) h⟩
end
def HdC (n : Nat) (t : TY.Nd) : Prop := ∀ (lo g hi : Nat) (W : World) (x : PS.Bs) (k q : Int) (s : ByteArray) (A : Option Addr) (m d : Nat), NdV W hi t (ndv k q s (.slice A m d)) → PrV lo W g x → TB lo W → lo ≤ W.heap.size → (PP.joins x (PP.tH false (n, t))).length ≤ 100000 →
  Calls Tryz.prog 21 #[.pointer (some ⟨g, 0, none⟩), .agg #[.int .i64 (n : Int), .int .i64 k, .int .i64 q, .string s, .slice A m d]] W fun e w' => e = .returned (.tuple #[]) ∧ PrV lo w' g (PP.joins x (PP.tH false (n, t))) ∧ QT lo W w'
set_option maxRecDepth 100000 in
set_option maxHeartbeats 4000000 in
theorem hd_start (t : TY.Nd) (hB : BlC t) (n : Nat) (h0 : n = 0) : HdC n t := by
  intro lo g hi W x k q s A m d hv hP hT hl hlen
  have S0 := Lib.hid (Sb.start (T := 48) hP hl hT #[.int .i64 ((n : Nat) : Int), .int .i64 k, .int .i64 q, .string s, .slice A m d])
  have HV := Lib.hid hv
  have hbt : PP.tH false (n, t) = [PS.wOn] ++ [PS.wStart] ++ PP.tS false t := by
    unfold PP.tH
    simp [h0]
  rw [hbt] at hlen ⊢
  rw [PP.joins_append, PP.joins_append] at hlen ⊢
  have L3 := Lib.hid hlen
  have L2 := Lib.hid (len_in L3.out)
  have L1 := Lib.hid (len_in L2.out)
  have HB := Lib.hid hB
  have f0 : ((n : Int) == 0) = true := by simp; omega
  clear h0
  obtain ⟨B0, hB0⟩ : ∃ U, (W.alloc (.cells #[.int .i64 ((n : Nat) : Int), .int .i64 k, .int .i64 q, .string s, .slice A m d] 48)) = U := ⟨_, rfl⟩
  rw [hB0] at S0
  obtain ⟨a0, a1, a2, a3, a4⟩ := S0.out.hd
  clear hv hP hT hl hlen hbt hB
  go_enter Tryz.func21, Tryz.ntmps21
  go_wp2_with fail
  refine (put_new [PS.wOn] 1 _ rfl (by omega) rfl S0.out.1 S0.out.low (by decide) L1.out).mono ?_
  rintro e w1 ⟨rfl, h1, h2⟩
  have S1 := Lib.hid (S0.out.step h1 h2)
  obtain ⟨b0, b1, b2, b3, b4⟩ := S1.out.hd
  clear h1 h2 a0 a1 a2 a3 a4 hB0
  go_wp2_with fail
  refine (put_new [PS.wStart] 1 _ rfl (by omega) rfl S1.out.1 S1.out.low (by decide) L2.out).mono ?_
  rintro e w3 ⟨rfl, h1, h2⟩
  have S3 := Lib.hid (S1.out.step h1 h2)
  obtain ⟨c0, c1, c2, c3, c4⟩ := S3.out.hd
  clear h1 h2 b0 b1 b2 b3 b4
  go_wp2_with fail
  refine (HB.out lo g hi _ _ _ (S3.out.nd HV.out) S3.out.1 S3.out.tb S3.out.low L3.out).mono ?_
  rintro e w4 ⟨rfl, h1, h2⟩
  have S4 := Lib.hid (S3.out.step h1 h2)
  clear h1 h2 c0 c1 c2 c3 c4
  go_wp2_with fail
  go_end0
  exact ⟨rfl, S4.out.fin⟩
set_option maxRecDepth 100000 in
set_option maxHeartbeats 4000000 in
theorem hd_request (t : TY.Nd) (hB : BlC t) (n : Nat) (h0 : n = 1) : HdC n t := by
  intro lo g hi W x k q s A m d hv hP hT hl hlen
  have S0 := Lib.hid (Sb.start (T := 48) hP hl hT #[.int .i64 ((n : Nat) : Int), .int .i64 k, .int .i64 q, .string s, .slice A m d])
  have HV := Lib.hid hv
  have hbt : PP.tH false (n, t) = [PS.wOn] ++ [PS.wRequest] ++ PP.tS false t := by
    unfold PP.tH
    simp [h0]
  rw [hbt] at hlen ⊢
  rw [PP.joins_append, PP.joins_append] at hlen ⊢
  have L3 := Lib.hid hlen
  have L2 := Lib.hid (len_in L3.out)
  have L1 := Lib.hid (len_in L2.out)
  have HB := Lib.hid hB
  have f0 : ((n : Int) == 0) = false := by simp; omega
  have f1 : ((n : Int) == 1) = true := by simp; omega
  clear h0
  obtain ⟨B0, hB0⟩ : ∃ U, (W.alloc (.cells #[.int .i64 ((n : Nat) : Int), .int .i64 k, .int .i64 q, .string s, .slice A m d] 48)) = U := ⟨_, rfl⟩
  rw [hB0] at S0
  obtain ⟨a0, a1, a2, a3, a4⟩ := S0.out.hd
  clear hv hP hT hl hlen hbt hB
  go_enter Tryz.func21, Tryz.ntmps21
  go_wp2_with fail
  refine (put_new [PS.wOn] 1 _ rfl (by omega) rfl S0.out.1 S0.out.low (by decide) L1.out).mono ?_
  rintro e w1 ⟨rfl, h1, h2⟩
  have S1 := Lib.hid (S0.out.step h1 h2)
  obtain ⟨b0, b1, b2, b3, b4⟩ := S1.out.hd
  clear h1 h2 a0 a1 a2 a3 a4 hB0
  go_wp2_with fail
  refine (put_new [PS.wRequest] 1 _ rfl (by omega) rfl S1.out.1 S1.out.low (by decide) L2.out).mono ?_
  rintro e w3 ⟨rfl, h1, h2⟩
  have S3 := Lib.hid (S1.out.step h1 h2)
  obtain ⟨c0, c1, c2, c3, c4⟩ := S3.out.hd
  clear h1 h2 b0 b1 b2 b3 b4
  go_wp2_with fail
  refine (HB.out lo g hi _ _ _ (S3.out.nd HV.out) S3.out.1 S3.out.tb S3.out.low L3.out).mono ?_
  rintro e w4 ⟨rfl, h1, h2⟩
  have S4 := Lib.hid (S3.out.step h1 h2)
  clear h1 h2 c0 c1 c2 c3 c4
  go_wp2_with fail
  go_end0
  exact ⟨rfl, S4.out.fin⟩
set_option maxRecDepth 100000 in
set_option maxHeartbeats 4000000 in
theorem hd_timer (t : TY.Nd) (hB : BlC t) (n : Nat) (h0 : 2 ≤ n) (h1 : n < 10) : HdC n t := by
  intro lo g hi W x k q s A m d hv hP hT hl hlen
  have S0 := Lib.hid (Sb.start (T := 48) hP hl hT #[.int .i64 ((n : Nat) : Int), .int .i64 k, .int .i64 q, .string s, .slice A m d])
  have HV := Lib.hid hv
  have hbt : PP.tH false (n, t) = [PS.wOn] ++ [PS.wTimer, PP.dec ((n - 2 : Nat) : Int)] ++ PP.tS false t := by
    unfold PP.tH
    simp [show ¬ n = 0 by omega, show ¬ n = 1 by omega, show ¬ 10 ≤ n by omega]
    rfl
  rw [hbt] at hlen ⊢
  rw [PP.joins_append, PP.joins_append] at hlen ⊢
  have L3 := Lib.hid hlen
  have L2 := Lib.hid (len_in L3.out)
  have L1 := Lib.hid (len_in L2.out)
  have HB := Lib.hid hB
  have f0 : ((n : Int) == 0) = false := by simp; omega
  have f1 : ((n : Int) == 1) = false := by simp; omega
  have f2 : decide ((n : Int) < 10) = true := decide_eq_true (by omega)
  have f3 : IntKind.i64.wrap ((n : Int) - 2) = ((n - 2 : Nat) : Int) := by rw [IntWalk.i64_in _ (by omega)]; omega
  obtain ⟨B0, hB0⟩ : ∃ U, (W.alloc (.cells #[.int .i64 ((n : Nat) : Int), .int .i64 k, .int .i64 q, .string s, .slice A m d] 48)) = U := ⟨_, rfl⟩
  rw [hB0] at S0
  obtain ⟨a0, a1, a2, a3, a4⟩ := S0.out.hd
  clear hv hP hT hl hlen hbt hB
  go_enter Tryz.func21, Tryz.ntmps21
  go_wp2_with fail
  refine (put_new [PS.wOn] 1 _ rfl (by omega) rfl S0.out.1 S0.out.low (by decide) L1.out).mono ?_
  rintro e w1 ⟨rfl, h1, h2⟩
  have S1 := Lib.hid (S0.out.step h1 h2)
  obtain ⟨b0, b1, b2, b3, b4⟩ := S1.out.hd
  clear h1 h2 a0 a1 a2 a3 a4 hB0
  go_wp2_with fail
  refine (itoa_any ((n - 2 : Nat) : Int) (by omega) (by omega) _ S1.out.tb).mono ?_
  rintro e w2 ⟨rfl, h2⟩
  have S2 := Lib.hid (S1.out.below h2)
  obtain ⟨x0, x1, x2, x3, x4⟩ := S2.out.hd
  clear h2 b0 b1 b2 b3 b4
  go_wp2_with fail
  refine (put_new [PS.wTimer, PP.dec ((n - 2 : Nat) : Int)] 2 _ rfl (by omega) rfl S2.out.1 S2.out.low (put_ne (n := ((n - 2 : Nat) : Int)) (by omega) (by omega) (by decide)) L2.out).mono ?_
  rintro e w3 ⟨rfl, h1, h2⟩
  have S3 := Lib.hid (S2.out.step h1 h2)
  obtain ⟨c0, c1, c2, c3, c4⟩ := S3.out.hd
  clear h1 h2 x0 x1 x2 x3 x4
  go_wp2_with fail
  refine (HB.out lo g hi _ _ _ (S3.out.nd HV.out) S3.out.1 S3.out.tb S3.out.low L3.out).mono ?_
  rintro e w4 ⟨rfl, h1, h2⟩
  have S4 := Lib.hid (S3.out.step h1 h2)
  clear h1 h2 c0 c1 c2 c3 c4
  go_wp2_with fail
  go_end0
  exact ⟨rfl, S4.out.fin⟩
set_option maxRecDepth 100000 in
set_option maxHeartbeats 4000000 in
theorem hd_message (t : TY.Nd) (hB : BlC t) (n : Nat) (h0 : 10 ≤ n) (h1 : n < 1000) : HdC n t := by
  intro lo g hi W x k q s A m d hv hP hT hl hlen
  have S0 := Lib.hid (Sb.start (T := 48) hP hl hT #[.int .i64 ((n : Nat) : Int), .int .i64 k, .int .i64 q, .string s, .slice A m d])
  have HV := Lib.hid hv
  have hbt : PP.tH false (n, t) = [PS.wOn] ++ [PS.wMessage, PP.dec ((n - 10 : Nat) : Int)] ++ PP.tS false t := by
    unfold PP.tH
    simp [show ¬ n = 0 by omega, show ¬ n = 1 by omega, show 10 ≤ n by omega]
    rfl
  rw [hbt] at hlen ⊢
  rw [PP.joins_append, PP.joins_append] at hlen ⊢
  have L3 := Lib.hid hlen
  have L2 := Lib.hid (len_in L3.out)
  have L1 := Lib.hid (len_in L2.out)
  have HB := Lib.hid hB
  have f0 : ((n : Int) == 0) = false := by simp; omega
  have f1 : ((n : Int) == 1) = false := by simp; omega
  have f2 : decide ((n : Int) < 10) = false := decide_eq_false (by omega)
  have f3 : IntKind.i64.wrap ((n : Int) - 10) = ((n - 10 : Nat) : Int) := by rw [IntWalk.i64_in _ (by omega)]; omega
  obtain ⟨B0, hB0⟩ : ∃ U, (W.alloc (.cells #[.int .i64 ((n : Nat) : Int), .int .i64 k, .int .i64 q, .string s, .slice A m d] 48)) = U := ⟨_, rfl⟩
  rw [hB0] at S0
  obtain ⟨a0, a1, a2, a3, a4⟩ := S0.out.hd
  clear hv hP hT hl hlen hbt hB
  go_enter Tryz.func21, Tryz.ntmps21
  go_wp2_with fail
  refine (put_new [PS.wOn] 1 _ rfl (by omega) rfl S0.out.1 S0.out.low (by decide) L1.out).mono ?_
  rintro e w1 ⟨rfl, h1, h2⟩
  have S1 := Lib.hid (S0.out.step h1 h2)
  obtain ⟨b0, b1, b2, b3, b4⟩ := S1.out.hd
  clear h1 h2 a0 a1 a2 a3 a4 hB0
  go_wp2_with fail
  refine (itoa_any ((n - 10 : Nat) : Int) (by omega) (by omega) _ S1.out.tb).mono ?_
  rintro e w2 ⟨rfl, h2⟩
  have S2 := Lib.hid (S1.out.below h2)
  obtain ⟨x0, x1, x2, x3, x4⟩ := S2.out.hd
  clear h2 b0 b1 b2 b3 b4
  go_wp2_with fail
  refine (put_new [PS.wMessage, PP.dec ((n - 10 : Nat) : Int)] 2 _ rfl (by omega) rfl S2.out.1 S2.out.low (put_ne (n := ((n - 10 : Nat) : Int)) (by omega) (by omega) (by decide)) L2.out).mono ?_
  rintro e w3 ⟨rfl, h1, h2⟩
  have S3 := Lib.hid (S2.out.step h1 h2)
  obtain ⟨c0, c1, c2, c3, c4⟩ := S3.out.hd
  clear h1 h2 x0 x1 x2 x3 x4
  go_wp2_with fail
  refine (HB.out lo g hi _ _ _ (S3.out.nd HV.out) S3.out.1 S3.out.tb S3.out.low L3.out).mono ?_
  rintro e w4 ⟨rfl, h1, h2⟩
  have S4 := Lib.hid (S3.out.step h1 h2)
  clear h1 h2 c0 c1 c2 c3 c4
  go_wp2_with fail
  go_end0
  exact ⟨rfl, S4.out.fin⟩
theorem handler_pr {n d : Nat} {t : TY.Nd} (hn : n < 1000) (h : PP.WS true d t) : HdC n t := by
  have hB := block_any' h
  by_cases h0 : n = 0
  · exact hd_start t hB n h0
  by_cases h1 : n = 1
  · exact hd_request t hB n h1
  by_cases h2 : n < 10
  · exact hd_timer t hB n (by omega) h2
  · exact hd_message t hB n (by omega) hn
end Go.Proofs.YtlfpaemfhanpiaaGreatDoor
