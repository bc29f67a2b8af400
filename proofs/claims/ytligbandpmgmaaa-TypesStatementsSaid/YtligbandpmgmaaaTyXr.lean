/-
  The reference's source: expr at every depth; Expr. Condition: the numbers are integers.
-/
import Derived.Test.YtligbandpmgmaaaTyXq
import Derived.Test.YtligbandpmgmaaaTyIn
namespace Go.Proofs.Ytligbandpmgmaaa
open Go Go.RowKit Go.Proofs Go.Shelf
attribute [local go_sem] Oper.semAt_some

/-- How many numbers an expression of depth d takes at most. -/
def eb : Nat → Nat
  | 0 => 3
  | d + 1 => 3 + 2 * eb d
theorem expr_any (L : List Int) : ∀ d : Nat, d ≤ 100 → EAt L (d : Int) (TY.genE L d) (eb d)
  | 0, _ => expr_leaf L _
  | d + 1, h => by
    have hs : EAt L (((d + 1 : Nat) : Int) - 1) (TY.genE L d) (eb d) := by
      rw [show (((d + 1 : Nat) : Int) - 1) = (d : Int) by omega]
      exact expr_any L d (by omega)
    exact expr_more L (d + 1) (TY.genE L d) (eb d) (by omega) h hs
/-- The expression that the numbers give. -/
def exprT (zs : List Int) : TY.Nd := (TY.genE (zs.take 40) 4 (1 + TY.nxt (zs.take 40) 0 2) 1).1
theorem src_new {w0 w1 : World} {A : Option Addr} {c : Nat} {L : List Int} (hc : L.length ≤ c) (hm : c ≤ maxLen) (ho : w1.ownsRow w0.heap.size 3 1 (.slice A L.length c) L.length (L.map (Value.int .i64))) (hl : L.length ≤ 1000000) (hz : ∀ z ∈ L, I64 z) :
    SrcV (w1.alloc (.cells #[.slice A L.length c, .int .i64 0] 43)) w1.heap.size w1.heap.size L 0 :=
  ⟨Nat.le_refl _, A, c, World.alloc_heap_new w1 _, hc, hm, hl, (Ints.of_own rfl ho).alloc (Nat.le_refl _) _, hz⟩
theorem fin0 {V : World} {g B : Nat} {x0 x1 x2 x3 : Value} (hb : V.heap[g]? = some (.cells #[x0, x1, x2, x3] 25 (0, 0))) (hB : g < B) {t : TY.Nd} (k n : Int) (s : ByteArray) (K : Value) (ht : Nw B V t (ndv k n s K)) {U : World} (hU : (((V.setCell ⟨g, 0, none⟩ (.int .i64 k)).setCell ⟨g, 1, none⟩ (.int .i64 n)).setCell ⟨g, 2, none⟩ (.string s)).setCell ⟨g, 3, none⟩ K = U) :
    U.heap[g]? = some (.cells #[.int .i64 k, .int .i64 n, .string s, K] 25 (0, 0)) ∧ Nw B U t (ndv k n s K) ∧ Chg (· = g) V U := by
  subst hU
  have keep : ∀ j, j ≠ g → ((((V.setCell ⟨g, 0, none⟩ (.int .i64 k)).setCell ⟨g, 1, none⟩ (.int .i64 n)).setCell ⟨g, 2, none⟩ (.string s)).setCell ⟨g, 3, none⟩ K).heap[j]? = V.heap[j]? := fun j hg => (Below.heap_setCell _ _ _ _ hg).trans ((Below.heap_setCell _ _ _ _ hg).trans ((Below.heap_setCell _ _ _ _ hg).trans (Below.heap_setCell _ _ _ _ hg)))
  have hc : Chg (· = g) V ((((V.setCell ⟨g, 0, none⟩ (.int .i64 k)).setCell ⟨g, 1, none⟩ (.int .i64 n)).setCell ⟨g, 2, none⟩ (.string s)).setCell ⟨g, 3, none⟩ K) :=
    ((((Chg.refl (· = g) V).setCell (p := ⟨g, 0, none⟩) (fun _ => rfl) _).setCell (p := ⟨g, 1, none⟩) (fun _ => rfl) _).setCell (p := ⟨g, 2, none⟩) (fun _ => rfl) _).setCell (p := ⟨g, 3, none⟩) (fun _ => rfl) _
  refine ⟨?_, ht.keep (fun c h1 _ => keep c (by omega)) hc.size, hc⟩
  simp only [World.setCell, Array.getElem?_modify]
  simp [hb]
set_option maxRecDepth 100000 in
set_option maxHeartbeats 4000000 in
theorem Expr_any (a : Option Addr) (n c : Nat) (zs : List Int) (W : World) (hS : Slc .i64 W a n c zs) (hz : ∀ z ∈ zs, I64 z) :
    Calls Try.prog 4 #[.slice a n c] W fun r w' => ∃ v, r = .returned v ∧ Nw W.heap.size w' (exprT zs) v ∧ Below W.heap.size W w' := by
  obtain ⟨W0, hW0⟩ : ∃ U, W.alloc (.cells #[.int .i64 0, .int .i64 0, .string ⟨#[]⟩, .slice none 0 0] 25) = U := ⟨_, rfl⟩
  have hb0 : Below W.heap.size W W0 := by rw [← hW0]; exact (Below.refl _ _).alloc (Nat.le_refl _) _
  have z0 : W0.heap.size = W.heap.size + 1 := by rw [← hW0, World.size_alloc]
  have hbox : W0.heap[W.heap.size]? = some (.cells #[.int .i64 0, .int .i64 0, .string ⟨#[]⟩, .slice none 0 0] 25 (0, 0)) := by
    rw [← hW0]
    exact World.alloc_heap_new W _
  have hI := ints_any a n c zs 40 (by decide) (by decide) W0 (hS.below hb0)
  unfold exprT
  obtain ⟨L, hL⟩ : ∃ L, zs.take 40 = L := ⟨_, rfl⟩
  rw [show Int.toNat 40 = 40 from rfl, hL] at hI
  rw [hL]
  have hLz : ∀ z ∈ L, I64 z := fun z h => hz z (List.mem_of_mem_take (hL ▸ h))
  have hLl : L.length ≤ 40 := by rw [← hL, List.length_take]; omega
  obtain ⟨x, hx⟩ : ∃ x, TY.nxt L 0 2 = x := ⟨_, rfl⟩
  have hx2 : x < 2 := hx ▸ TY.nxt_lt _ _ (by decide)
  rw [hx]
  have HI := Lib.hid hI
  have HNX := Lib.hid (show ∀ V b, SrcV V b b L 0 → Calls Try.prog 12 #[.pointer (some ⟨b, 0, none⟩), .int .i64 2] V fun e w' => e = .returned (.int .i64 (x : Int)) ∧ SrcV w' b b L 1 ∧ Chg (· = b) V w' from fun V b h => by
    have := next_any V b b L 0 2 h (by decide) (by decide) (by decide)
    rw [hx] at this
    exact this)
  have HEX := Lib.hid (show ∀ V b, SrcV V b b L 1 → Calls Try.prog 11 #[.pointer (some ⟨b, 0, none⟩), .int .i64 (1 + (x : Int)), .int .i64 4] V fun r w' => ∃ v, r = .returned v ∧ Nw V.heap.size w' (TY.genE L 4 (1 + x) 1).1 v ∧ SrcV w' b b L (TY.genE L 4 (1 + x) 1).2 ∧ (TY.genE L 4 (1 + x) 1).2 ≤ 1 + eb 4 ∧ Chg (· = b) V w' from fun V b h => expr_any L 4 (by decide) V b b 1 (1 + x) (1 + (x : Int)) (by omega) h (by decide) (by omega))
  have HW0 := Lib.hid hW0
  have HB0 := Lib.hid hb0
  have HBX := Lib.hid hbox
  have HLZ := Lib.hid hLz
  obtain ⟨t, ht⟩ : ∃ t, (TY.genE L 4 (1 + x) 1).1 = t := ⟨_, rfl⟩
  obtain ⟨j, hj⟩ : ∃ j, (TY.genE L 4 (1 + x) 1).2 = j := ⟨_, rfl⟩
  rw [ht, hj] at HEX
  rw [ht]
  clear hI hW0 hb0 hbox hLz hL hx hz hS ht hj
  go_enter Try.func4, Try.ntmps4
  go_wp2_with (first
    | (rw [HW0.out]; go_at_call 10; refine HI.out.mono ?_; clear HI; rintro e w1 ⟨A, m, c1, rfl, hl, hlst, hown, hb1⟩; subst hl; have HS1 := Lib.hid (src_new hlst.2.1 hlst.2.2.1 hown (by omega) HLZ.out); have HB1 := Lib.hid hb1; have hz1 := hb1.size; clear hlst hown hb1)
    | (go_at_call 12; refine (HNX.out _ _ HS1.out).mono ?_; clear HNX; rintro e w2 ⟨rfl, S2, C2⟩; replace S2 := Lib.hid S2; replace C2 := Lib.hid C2)
    | (go_at_call 11; refine (HEX.out _ _ S2.out).mono ?_; clear HEX; rintro r w3 ⟨v, rfl, V3, _, _, C3⟩; obtain ⟨k1, n1, s1, A1, m1, d1, rfl⟩ := V3.shape; replace V3 := Lib.hid V3; replace C3 := Lib.hid C3
       have hb3 : w3.heap[W.heap.size]? = some (.cells #[.int .i64 0, .int .i64 0, .string ⟨#[]⟩, .slice none 0 0] 25 (0, 0)) := by
         have e0 : (w1.alloc (.cells #[.slice A L.length c1, .int .i64 0] 43)).heap[W.heap.size]? = w1.heap[W.heap.size]? := Below.heap_alloc w1 _ _ (by omega)
         have y2 := C2.out.size
         rw [World.size_alloc] at y2
         exact (C3.out.block _ (by omega) (by omega)).trans ((C2.out.block _ (by rw [World.size_alloc]; omega) (by omega)).trans (e0.trans ((HB1.out.block _ (by omega)).trans HBX.out)))
       have q0 := cell_of_row w3 _ 0 _ _ (0, 0) hb3
       have q1 := cell_of_row w3 _ 1 _ _ (0, 0) hb3
       have q2 := cell_of_row w3 _ 2 _ _ (0, 0) hb3
       have q3 := cell_of_row w3 _ 3 _ _ (0, 0) hb3
       have p0 : w3.frozen? ⟨W.heap.size, 0, none⟩ = false := by simp [World.frozen?, hb3]
       have p1 : w3.frozen? ⟨W.heap.size, 1, none⟩ = false := by simp [World.frozen?, hb3]
       have p2 : w3.frozen? ⟨W.heap.size, 2, none⟩ = false := by simp [World.frozen?, hb3]
       have p3 : w3.frozen? ⟨W.heap.size, 3, none⟩ = false := by simp [World.frozen?, hb3]
       replace hb3 := Lib.hid hb3))
  have hs2 := C2.out.size
  rw [World.size_alloc] at hs2
  have hs3 := C3.out.size
  have hB : Below W.heap.size W w3 := ((HB0.out.trans (HB1.out.mono (by omega))).alloc (by omega) _).trans ((C2.out.below (fun g _ e => by omega) (by rw [World.size_alloc]; omega)).trans (C3.out.below (fun g _ e => by omega) (by omega)))
  have HB := Lib.hid hB
  clear hB
  obtain ⟨U, hU⟩ : ∃ U, (((w3.setCell ⟨W.heap.size, 0, none⟩ (.int .i64 k1)).setCell ⟨W.heap.size, 1, none⟩ (.int .i64 n1)).setCell ⟨W.heap.size, 2, none⟩ (.string s1)).setCell ⟨W.heap.size, 3, none⟩ (.slice A1 m1 d1) = U := ⟨_, rfl⟩
  rw [hU]
  obtain ⟨f1, f2, f3⟩ := fin0 hb3.out (show W.heap.size < w2.heap.size by omega) k1 n1 s1 (.slice A1 m1 d1) V3.out hU
  refine bodyPost_ret (ret_N rfl _ rfl f1) rfl ?_
  exact ⟨_, rfl, f2.lower (by omega), HB.out.trans (f3.below (fun g _ e => by omega) (by omega))⟩
end Go.Proofs.Ytligbandpmgmaaa
