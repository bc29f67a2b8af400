/-
  The walk of the law TypesStatements. No condition beyond the arguments' readings.
-/
import Derived.Test.YtligbandpmgmaaaTyRg
import Derived.Test.YtligbandpmgmaaaTyOv
import Derived.Test.YtligbandpmgmaaaAround
import Derived.Deep.RegionHeld3
namespace Go.Proofs.Ytligbandpmgmaaa.LawTypesStatements
open Go Go.RowKit Go.Proofs Go.Shelf
attribute [local go_sem] Oper.semAt_some

/-- What the slots of the region are to hold. -/
def spT (n m : TY.Nd) (k3 n3 : Int) (s3 : ByteArray) (A3 : Option Addr) (m3 c3 : Nat) (k4 n4 : Int) (s4 : ByteArray) (A4 : Option Addr) (m4 c4 : Nat) (a2 q : Int) : Nat → Sp
  | 0 => .val (.agg #[.int .i64 k3, .int .i64 n3, .string s3, .slice A3 m3 c3])
  | 1 => .val (.agg #[.int .i64 11, .int .i64 0, .string ⟨#[]⟩, .slice none 0 0])
  | 2 => .val (.agg #[.int .i64 11, .int .i64 0, .string ⟨#[]⟩, .slice none 0 0])
  | 3 => .kids [n, e0, e0]
  | 4 => .tree (.mk 2 0 ⟨#[]⟩ [n, e0, e0])
  | 5 => .val (.agg #[.int .i64 k3, .int .i64 n3, .string s3, .slice A3 m3 c3])
  | 6 => .val (.agg #[.int .i64 11, .int .i64 0, .string ⟨#[]⟩, .slice none 0 0])
  | 7 => .kids [n, e0]
  | 8 => .tree (.mk 3 0 ⟨#[]⟩ [n, e0])
  | 9 => .val (.agg #[.int .i64 k3, .int .i64 n3, .string s3, .slice A3 m3 c3])
  | 10 => .kids [n]
  | 11 => .tree (.mk 1 0 sVa [n])
  | 12 => .val (.agg #[.int .i64 k3, .int .i64 n3, .string s3, .slice A3 m3 c3])
  | 13 => .kids [n]
  | 14 => .tree (.mk 9 0 ⟨#[]⟩ [n])
  | 15 => .val (.agg #[.int .i64 k3, .int .i64 n3, .string s3, .slice A3 m3 c3])
  | 16 => .val (.agg #[.int .i64 k4, .int .i64 n4, .string s4, .slice A4 m4 c4])
  | 17 => .kids [n, m]
  | 18 => .tree (.mk 8 0 ⟨#[]⟩ [n, m])
  | 19 => .val (.int .i64 a2)
  | 20 => .val (.int .i64 q)
  | 21 => .val (.agg #[.int .i64 k3, .int .i64 n3, .string s3, .slice A3 m3 c3])
  | 22 => .val (.agg #[.int .i64 k4, .int .i64 n4, .string s4, .slice A4 m4 c4])
  | 23 => .val (.agg #[.int .i64 k3, .int .i64 n3, .string s3, .slice A3 m3 c3])
  | 24 => .kids [n, m, n]
  | 25 => .tree (.mk 4 q ⟨#[]⟩ [n, m, n])
  | 26 => .val (.agg #[.int .i64 k3, .int .i64 n3, .string s3, .slice A3 m3 c3])
  | 27 => .kids [n]
  | 28 => .tree (.mk 16 0 ⟨#[]⟩ [n])
  | 29 => .kids [.mk 2 0 ⟨#[]⟩ [n, e0, e0], .mk 3 0 ⟨#[]⟩ [n, e0], .mk 1 0 sVa [n], .mk 9 0 ⟨#[]⟩ [n], .mk 8 0 ⟨#[]⟩ [n, m], .mk 4 q ⟨#[]⟩ [n, m, n], .mk 16 0 ⟨#[]⟩ [n]]
  | 30 => .kids [.mk 2 0 ⟨#[]⟩ [n, e0, e0], .mk 3 0 ⟨#[]⟩ [n, e0], .mk 1 0 sVa [n], .mk 9 0 ⟨#[]⟩ [n], .mk 8 0 ⟨#[]⟩ [n, m], .mk 4 q ⟨#[]⟩ [n, m, n], .mk 16 0 ⟨#[]⟩ [n]]
  | _ => .val undef
def slT (i : Nat) : Nat := if i = 30 then 12 else 25 + i
theorem slT_inj (i j : Nat) (hi : i < 31) (hj : j < 31) (h : slT i = slT j) : i = j := by
  unfold slT at h
  split at h <;> split at h <;> omega
/-- The frame's slots, one by one. -/
theorem arr_form {t : Array Value} {n : Nat} (h : t.size = n) : t = ((List.range n).map fun j => t[j]?.getD undef).toArray := by
  subst h
  apply Array.ext
  · simp
  · intro i h1 h2
    simp [h1]
def sevenT (n m : TY.Nd) (q : Int) : List TY.Nd := [.mk 2 0 ⟨#[]⟩ [n, e0, e0], .mk 3 0 ⟨#[]⟩ [n, e0], .mk 1 0 sVa [n], .mk 9 0 ⟨#[]⟩ [n], .mk 8 0 ⟨#[]⟩ [n, m], .mk 4 q ⟨#[]⟩ [n, m, n], .mk 16 0 ⟨#[]⟩ [n]]
theorem nat_one {x : Nat} {p : Bool} (h : ((x : Int) == 1) = p) : (if x = 1 then 1 else 0 : Nat) = if p = true then 1 else 0 := by
  subst h
  by_cases e : x = 1
  · subst e; rfl
  · rw [if_neg e, if_neg]
    intro h2
    rw [beq_iff_eq] at h2
    omega
theorem dec_one {x : Nat} {p : Bool} {k : Nat} (h : ((x : Int) == (k : Int)) = p) : decide (x = k) = p := by
  subst h
  rw [Bool.eq_iff_iff, decide_eq_true_iff, beq_iff_eq]
  omega
/-- The six statements are right as the types of their expressions say; the seventh tree is a draw. -/
theorem six_ok {n m : TY.Nd} {x y : Nat} {p1 p2 r1 : Bool} (q : Int) (un : TY.undec (Nms 10) n = false) (um : TY.undec (Nms 10) m = false) (hx : TY.tyOf n = x) (hy : TY.tyOf m = y) (hp1 : ((x : Int) == 1) = p1) (hp2 : ((x : Int) == 2) = p2) (hr1 : ((y : Int) == 1) = r1) :
    ∀ j : Nat, j ≤ 6 → ∃ t, (sevenT n m q)[j]? = some t ∧ (j < 6 → ∃ bb, [p2, p2, p1, p1, p1 && r1, p1 && r1][j]? = some bb ∧ oneOk t = bb) ∧ (j = 6 → t = .mk 16 0 ⟨#[]⟩ [n]) := by
  have d1 : decide (TY.tyOf n = 1) = p1 := by rw [hx]; exact dec_one (k := 1) hp1
  have d2 : decide (TY.tyOf n = 2) = p2 := by rw [hx]; exact dec_one (k := 2) hp2
  have e1 : decide (TY.tyOf m = 1) = r1 := by rw [hy]; exact dec_one (k := 1) hr1
  intro j hj
  match j, hj with
  | 0, _ => exact ⟨_, rfl, fun _ => ⟨_, rfl, (ok_if un).trans d2⟩, fun h => by omega⟩
  | 1, _ => exact ⟨_, rfl, fun _ => ⟨_, rfl, (ok_while un).trans d2⟩, fun h => by omega⟩
  | 2, _ => exact ⟨_, rfl, fun _ => ⟨_, rfl, (ok_assign un).trans d1⟩, fun h => by omega⟩
  | 3, _ => exact ⟨_, rfl, fun _ => ⟨_, rfl, (ok_fail un).trans d1⟩, fun h => by omega⟩
  | 4, _ => exact ⟨_, rfl, fun _ => ⟨_, rfl, by rw [ok_reply un um, d1, e1]⟩, fun h => by omega⟩
  | 5, _ => exact ⟨_, rfl, fun _ => ⟨_, rfl, by rw [ok_send un um, d1, e1]⟩, fun h => by omega⟩
  | 6, _ => exact ⟨_, rfl, fun h => by omega, fun _ => rfl⟩
theorem want_cell (a b c : Bool) {j : Nat} {bb : Bool} (h : [a, a, b, b, c, c][j]? = some bb) : (#[Value.bool a, .bool a, .bool b, .bool b, .bool c, .bool c] : Array Value)[j]? = some (.bool bb) := by
  match j, h with
  | 0, h => injection h with h; subst h; rfl
  | 1, h => injection h with h; subst h; rfl
  | 2, h => injection h with h; subst h; rfl
  | 3, h => injection h with h; subst h; rfl
  | 4, h => injection h with h; subst h; rfl
  | 5, h => injection h with h; subst h; rfl
  | j + 6, h => simp at h
set_option maxRecDepth 100000 in
set_option maxHeartbeats 8000000 in
theorem walk (a0 : Option Addr) (len0 cap0 : Nat) (z0 : List Int) (a1 : Option Addr) (len1 cap1 : Nat) (z1 : List Int) (a2 : Int) (w : World) (w0 : Row .i64 w a0 len0 cap0 z0) (w1 : Row .i64 w a1 len1 cap1 z1) (w2 : (Lit.int .i64 a2).wf = true) :
    Calls Try.prog 3 #[.slice a0 len0 cap0, .slice a1 len1 cap1, .int .i64 a2] w fun e w' => e = .returned (.bool true) ∧ Below w.heap.size w w' := by
  have hb2 := bounds_i64 w2
  obtain ⟨_, _, _, hwf0⟩ := w0.ints
  obtain ⟨_, _, _, hwf1⟩ := w1.ints
  have HX := Lib.hid (Expr_any a0 len0 cap0 _ w w0.slc (i64_of hwf0))
  have HY := Lib.hid (fun (V : World) (hV : Below w.heap.size w V) => Expr_any a1 len1 cap1 _ V (w1.slc.below hV) (i64_of hwf1))
  obtain ⟨n, hn⟩ : ∃ t, exprT (z0.take len0) = t := ⟨_, rfl⟩
  obtain ⟨m, hm⟩ : ∃ t, exprT (z1.take len1) = t := ⟨_, rfl⟩
  rw [hn] at HX
  rw [hm] at HY
  have ha2 : I64 a2 := ⟨by omega, by omega⟩
  have un := Lib.hid (hn ▸ exprT_vn (z0.take len0))
  have um := Lib.hid (hm ▸ exprT_vn (z1.take len1))
  clear hn hm w0 w1 w2 hwf0 hwf1 hb2
  go_enter Try.func3, Try.ntmps3
  go_wp2_with (first
    | (go_at_call 4; refine HX.out.mono ?_; clear HX; rintro r w3 ⟨v3, rfl, V3, hb3⟩; obtain ⟨k3, n3, s3, A3, m3, c3, rfl⟩ := V3.shape; replace V3 := Lib.hid V3; have HB3 := Lib.hid hb3; have hs3 := hb3.size; clear hb3)
    | (go_at_call 4; refine (HY.out _ (HB3.out.alloc hs3 _)).mono ?_; clear HY; rintro r w4 ⟨v4, rfl, V4, hb4⟩; obtain ⟨k4, n4, s4, A4, m4, c4, rfl⟩ := V4.shape; replace V4 := Lib.hid V4; have HB4 := Lib.hid (show Below w3.heap.size w3 w4 from ((Below.refl w3.heap.size w3).alloc (Nat.le_refl _) _).trans (hb4.mono (by rw [World.size_alloc]; omega))); have hs4 := hb4.size; have HE3 := Lib.hid ((hb4.block w3.heap.size (by rw [World.size_alloc]; omega)).trans (World.alloc_heap_new w3 _)); rw [World.size_alloc] at hs4; have QN := Lib.hid (cells4 ((Below.heap_alloc w4 (.cells #[.int .i64 k4, .int .i64 n4, .string s4, .slice A4 m4 c4] 25) w3.heap.size (by omega)).trans HE3.out)); obtain ⟨q0, q1, q2, q3, _, _, _, _⟩ := QN.out; clear hb4 QN))
  obtain ⟨W5, hW5⟩ : ∃ U, w4.alloc (.cells #[.int .i64 k4, .int .i64 n4, .string s4, .slice A4 m4 c4] 25) = U := ⟨_, rfl⟩
  have z5 : W5.heap.size = w4.heap.size + 1 := by rw [← hW5, World.size_alloc]
  have b45 : Below w4.heap.size w4 W5 := by rw [← hW5]; exact (Below.refl _ _).alloc (Nat.le_refl _) _
  have b35 : Below w3.heap.size w3 W5 := HB4.out.trans (b45.mono (by omega))
  have e4 : W5.heap[w4.heap.size]? = some (.cells #[.int .i64 k4, .int .i64 n4, .string s4, .slice A4 m4 c4] 25 (0, 0)) := by rw [← hW5]; exact World.alloc_heap_new w4 _
  have e3 : W5.heap[w3.heap.size]? = some (.cells #[.int .i64 k3, .int .i64 n3, .string s3, .slice A3 m3 c3] 25 (0, 0)) := (b45.block _ (by omega)).trans HE3.out
  have x3 : NdV W5 W5.heap.size n (ndv k3 n3 s3 (.slice A3 m3 c3)) := V3.out W5 (fun c _ hc => b35.block c hc) _ b35.size
  have x4 : NdV W5 W5.heap.size m (ndv k4 n4 s4 (.slice A4 m4 c4)) := V4.out W5 (fun c _ hc => b45.block c hc) _ b45.size
  have hBW5 : Below w.heap.size w W5 := HB3.out.trans (b35.mono hs3)
  obtain ⟨x, hx⟩ : ∃ t, TY.tyOf n = t := ⟨_, rfl⟩
  obtain ⟨y, hy⟩ : ∃ t, TY.tyOf m = t := ⟨_, rfl⟩
  have TN := Lib.hid (fun (V : World) (hV : Below W5.heap.size W5 V) => hx ▸ TypeOf_any n V W5.heap.size _ (x3.under hV (Nat.le_refl _)) hV.size)
  have TM := Lib.hid (fun (V : World) (hV : Below W5.heap.size W5 V) => hy ▸ TypeOf_any m V W5.heap.size _ (x4.under hV (Nat.le_refl _)) hV.size)
  have E3 := Lib.hid e3
  have E4 := Lib.hid e4
  have X3 := Lib.hid x3
  have X4 := Lib.hid x4
  have HBW5 := Lib.hid hBW5
  have HW5 := Lib.hid hW5
  obtain ⟨c30, c31, c32, c33, _, _, _, _⟩ := cells4 e3
  clear hW5 b45 b35 e3 e4 x3 x4 hBW5 V3 V4 HB3 HB4 HE3
  clear q0 q1 q2 q3
  rw [HW5.out]
  refine (TN.out _ (Below.refl _ _)).mono ?_
  rintro e w6 ⟨rfl, hb6⟩
  have E46 := Lib.hid ((hb6.block _ (by omega)).trans E4.out)
  obtain ⟨c40, c41, c42, c43, _, _, _, _⟩ := cells4 E46.out
  have HB6 := Lib.hid hb6
  clear hb6
  go_wp2_with fail
  refine (TM.out _ HB6.out).mono ?_
  rintro e w7 ⟨rfl, hb7⟩
  have HB7 := Lib.hid (HB6.out.trans (hb7.mono HB6.out.size))
  clear hb7 HB6 E46 c40 c41 c42 c43 c30 c31 c32 c33 TN TM HW5
  go_wp2_with fail
  obtain ⟨q, hq⟩ : ∃ q, around a2 30 = q := ⟨_, rfl⟩
  have HQ := Lib.hid (show ∀ U, Calls Try.prog 6 #[.int .i64 a2, .int .i64 30] U fun e w' => e = .returned (.int .i64 q) ∧ Below U.heap.size U w' from fun U => hq ▸ (around_any a2 30 ha2 (by decide) (by decide) U).mono fun _ _ h => ⟨h.1, h.2 ▸ Below.refl _ _⟩)
  obtain ⟨W8, hW8⟩ : ∃ U, w7.alloc (.cells #[.int .i64 11, .int .i64 0, .string ⟨#[]⟩, .slice none 0 0] 25) = U := ⟨_, rfl⟩
  have z8 : W8.heap.size = w7.heap.size + 1 := by rw [← hW8, World.size_alloc]
  have b78 : Below w7.heap.size w7 W8 := by rw [← hW8]; exact (Below.refl _ _).alloc (Nat.le_refl _) _
  have s57 := HB7.out.size
  have b58 : Below W5.heap.size W5 W8 := HB7.out.trans (b78.mono s57)
  have F3 := (b58.block w3.heap.size (by omega)).trans E3.out
  have F4 := (b58.block w4.heap.size (by omega)).trans E4.out
  have F5 : W8.heap[w7.heap.size]? = some (.cells #[.int .i64 11, .int .i64 0, .string ⟨#[]⟩, .slice none 0 0] 25 (0, 0)) := by rw [← hW8]; exact World.alloc_heap_new w7 _
  have Y3 : NdV W8 W8.heap.size n (ndv k3 n3 s3 (.slice A3 m3 c3)) := X3.out.under b58 b58.size
  have Y4 : NdV W8 W8.heap.size m (ndv k4 n4 s4 (.slice A4 m4 c4)) := X4.out.under b58 b58.size
  have HB8 := Lib.hid (HBW5.out.trans (b58.mono HBW5.out.size))
  rw [hW8]
  have l3 : w3.heap.size < W8.heap.size := by omega
  have l4 : w4.heap.size < W8.heap.size := by omega
  have l5 : w7.heap.size < W8.heap.size := by omega
  clear HB7 E3 E4 X3 X4 HBW5 hW8 z5 z8 b78 b58 s57 hs3 hs4 hq
  refine region_run 31 25 12 slT (spT n m k3 n3 s3 A3 m3 c3 k4 n4 s4 A4 m4 c4 a2 q) (by kernel_rfl) rfl (by kernel_rfl) ?step ?fin
  case step =>
    intro listed a w' i hI hi hdep
    have hsl : ∀ i, i < 31 → slT i < 99 ∧ (25 ≤ slT i ∨ slT i = 12) := fun i hi => by unfold slT; split <;> omega
    have p7 : a.tmps[7]?.getD undef = .pointer (some ⟨w3.heap.size, 0, none⟩) := by rw [hI.low 7 (by decide) (by decide)]; rfl
    have p8 : a.tmps[8]?.getD undef = .pointer (some ⟨w4.heap.size, 0, none⟩) := by rw [hI.low 8 (by decide) (by decide)]; rfl
    have p11 : a.tmps[11]?.getD undef = .pointer (some ⟨w7.heap.size, 0, none⟩) := by rw [hI.low 11 (by decide) (by decide)]; rfl
    have p2 : a.tmps[2]?.getD undef = .int .i64 a2 := by rw [hI.low 2 (by decide) (by decide)]; rfl
    have hBl : Below W8.heap.size W8 w' := (Below.refl _ W8).drew.trans hI.below
    have c3_ := cells4 ((hBl.block w3.heap.size l3).trans F3)
    have c4_ := cells4 ((hBl.block w4.heap.size l4).trans F4)
    have c5_ := cells4 ((hBl.block w7.heap.size l5).trans F5)
    have G3 : NdV w' w'.heap.size n (ndv k3 n3 s3 (.slice A3 m3 c3)) := Y3.under hBl hBl.size
    have G4 : NdV w' w'.heap.size m (ndv k4 n4 s4 (.slice A4 m4 c4)) := Y4.under hBl hBl.size
    have G5 : NdV w' w'.heap.size e0 (ndv 11 0 ⟨#[]⟩ (.slice none 0 0)) := NdV.leaf _ _ _ _ _ (by decide)
    clear F3 F4 F5 Y3 Y4
    have hcase : i = 0 ∨ i = 1 ∨ i = 2 ∨ i = 3 ∨ i = 4 ∨ i = 5 ∨ i = 6 ∨ i = 7 ∨ i = 8 ∨ i = 9 ∨ i = 10 ∨ i = 11 ∨ i = 12 ∨ i = 13 ∨ i = 14 ∨ i = 15 ∨ i = 16 ∨ i = 17 ∨ i = 18 ∨ i = 19 ∨ i = 20 ∨ i = 21 ∨ i = 22 ∨ i = 23 ∨ i = 24 ∨ i = 25 ∨ i = 26 ∨ i = 27 ∨ i = 28 ∨ i = 29 ∨ i = 30 := by omega
    clear hi
    rcases hcase with rfl | rfl | rfl | rfl | rfl | rfl | rfl | rfl | rfl | rfl | rfl | rfl | rfl | rfl | rfl | rfl | rfl | rfl | rfl | rfl | rfl | rfl | rfl | rfl | rfl | rfl | rfl | rfl | rfl | rfl | rfl
    · obtain ⟨d0, d1, d2, d3, _, _, _, _⟩ := c3_
      exact st_run hsl slT_inj hI (by decide) rfl rfl rfl (v := .agg #[.int .i64 k3, .int .i64 n3, .string s3, .slice A3 m3 c3]) (by simp [execOp, go_sem, Act.eval, p7, d0, d1, d2, d3]) (Below.refl _ _) rfl
    · obtain ⟨d0, d1, d2, d3, _, _, _, _⟩ := c5_
      exact st_run hsl slT_inj hI (by decide) rfl rfl rfl (v := .agg #[.int .i64 11, .int .i64 0, .string ⟨#[]⟩, .slice none 0 0]) (by simp [execOp, go_sem, Act.eval, p11, d0, d1, d2, d3]) (Below.refl _ _) rfl
    · obtain ⟨d0, d1, d2, d3, _, _, _, _⟩ := c5_
      exact st_run hsl slT_inj hI (by decide) rfl rfl rfl (v := .agg #[.int .i64 11, .int .i64 0, .string ⟨#[]⟩, .slice none 0 0]) (by simp [execOp, go_sem, Act.eval, p11, d0, d1, d2, d3]) (Below.refl _ _) rfl
    · have f0 : a.tmps[25]?.getD undef = .agg #[.int .i64 k3, .int .i64 n3, .string s3, .slice A3 m3 c3] := hI.ok 0 (by decide) (hdep _ rfl ⟨0, .data⟩ (by simp) rfl)
      have f1 : a.tmps[26]?.getD undef = .agg #[.int .i64 11, .int .i64 0, .string ⟨#[]⟩, .slice none 0 0] := hI.ok 1 (by decide) (hdep _ rfl ⟨1, .data⟩ (by simp) rfl)
      have f2 : a.tmps[27]?.getD undef = .agg #[.int .i64 11, .int .i64 0, .string ⟨#[]⟩, .slice none 0 0] := hI.ok 2 (by decide) (hdep _ rfl ⟨2, .data⟩ (by simp) rfl)
      have hbn : Below w'.heap.size w' (w'.alloc (.cells #[.int .i64 k3, .int .i64 n3, .string s3, .slice A3 m3 c3, .int .i64 11, .int .i64 0, .string ⟨#[]⟩, .slice none 0 0, .int .i64 11, .int .i64 0, .string ⟨#[]⟩, .slice none 0 0] 25)) := (Below.refl _ _).alloc (Nat.le_refl _) _
      exact st_run hsl slT_inj hI (by decide) rfl rfl rfl (v := .slice (some ⟨w'.heap.size, 0, none⟩) 3 3) (w' := w'.alloc (.cells #[.int .i64 k3, .int .i64 n3, .string s3, .slice A3 m3 c3, .int .i64 11, .int .i64 0, .string ⟨#[]⟩, .slice none 0 0, .int .i64 11, .int .i64 0, .string ⟨#[]⟩, .slice none 0 0] 25)) (by simp [execOp, go_sem, Act.eval, f0, f1, f2]) hbn (kids_of (l := [n, e0, e0]) (World.alloc_heap_new _ _) (by simp) fun i t ht => by
        match i, ht with
        | 0, ht => injection ht with ht; subst ht; exact ⟨_, _, _, _, rfl, rfl, rfl, rfl, G3.under hbn hbn.size⟩
        | 1, ht => injection ht with ht; subst ht; exact ⟨_, _, _, _, rfl, rfl, rfl, rfl, G5.under hbn hbn.size⟩
        | 2, ht => injection ht with ht; subst ht; exact ⟨_, _, _, _, rfl, rfl, rfl, rfl, G5.under hbn hbn.size⟩
        | i + 3, ht => simp at ht)
    · obtain ⟨A, c, e, hk⟩ : (Sp.kids [n, e0, e0]).ok w' (a.tmps[28]?.getD undef) := hI.ok 3 (by decide) (hdep _ rfl ⟨3, .data⟩ (by simp) rfl)
      rw [e] at hk
      exact st_run hsl slT_inj hI (by decide) rfl rfl rfl (v := ndv 2 0 ⟨#[]⟩ (.slice A 3 c)) (by simp [execOp, go_sem, Act.eval, e]) (Below.refl _ _) (hk 2 0 ⟨#[]⟩ (by decide))
    · obtain ⟨d0, d1, d2, d3, _, _, _, _⟩ := c3_
      exact st_run hsl slT_inj hI (by decide) rfl rfl rfl (v := .agg #[.int .i64 k3, .int .i64 n3, .string s3, .slice A3 m3 c3]) (by simp [execOp, go_sem, Act.eval, p7, d0, d1, d2, d3]) (Below.refl _ _) rfl
    · obtain ⟨d0, d1, d2, d3, _, _, _, _⟩ := c5_
      exact st_run hsl slT_inj hI (by decide) rfl rfl rfl (v := .agg #[.int .i64 11, .int .i64 0, .string ⟨#[]⟩, .slice none 0 0]) (by simp [execOp, go_sem, Act.eval, p11, d0, d1, d2, d3]) (Below.refl _ _) rfl
    · have f5 : a.tmps[30]?.getD undef = .agg #[.int .i64 k3, .int .i64 n3, .string s3, .slice A3 m3 c3] := hI.ok 5 (by decide) (hdep _ rfl ⟨5, .data⟩ (by simp) rfl)
      have f6 : a.tmps[31]?.getD undef = .agg #[.int .i64 11, .int .i64 0, .string ⟨#[]⟩, .slice none 0 0] := hI.ok 6 (by decide) (hdep _ rfl ⟨6, .data⟩ (by simp) rfl)
      have hbn : Below w'.heap.size w' (w'.alloc (.cells #[.int .i64 k3, .int .i64 n3, .string s3, .slice A3 m3 c3, .int .i64 11, .int .i64 0, .string ⟨#[]⟩, .slice none 0 0] 25)) := (Below.refl _ _).alloc (Nat.le_refl _) _
      exact st_run hsl slT_inj hI (by decide) rfl rfl rfl (v := .slice (some ⟨w'.heap.size, 0, none⟩) 2 2) (w' := w'.alloc (.cells #[.int .i64 k3, .int .i64 n3, .string s3, .slice A3 m3 c3, .int .i64 11, .int .i64 0, .string ⟨#[]⟩, .slice none 0 0] 25)) (by simp [execOp, go_sem, Act.eval, f5, f6]) hbn (kids_of (l := [n, e0]) (World.alloc_heap_new _ _) (by simp) fun i t ht => by
        match i, ht with
        | 0, ht => injection ht with ht; subst ht; exact ⟨_, _, _, _, rfl, rfl, rfl, rfl, G3.under hbn hbn.size⟩
        | 1, ht => injection ht with ht; subst ht; exact ⟨_, _, _, _, rfl, rfl, rfl, rfl, G5.under hbn hbn.size⟩
        | i + 2, ht => simp at ht)
    · obtain ⟨A, c, e, hk⟩ : (Sp.kids [n, e0]).ok w' (a.tmps[32]?.getD undef) := hI.ok 7 (by decide) (hdep _ rfl ⟨7, .data⟩ (by simp) rfl)
      rw [e] at hk
      exact st_run hsl slT_inj hI (by decide) rfl rfl rfl (v := ndv 3 0 ⟨#[]⟩ (.slice A 2 c)) (by simp [execOp, go_sem, Act.eval, e]) (Below.refl _ _) (hk 3 0 ⟨#[]⟩ (by decide))
    · obtain ⟨d0, d1, d2, d3, _, _, _, _⟩ := c3_
      exact st_run hsl slT_inj hI (by decide) rfl rfl rfl (v := .agg #[.int .i64 k3, .int .i64 n3, .string s3, .slice A3 m3 c3]) (by simp [execOp, go_sem, Act.eval, p7, d0, d1, d2, d3]) (Below.refl _ _) rfl
    · have f9 : a.tmps[34]?.getD undef = .agg #[.int .i64 k3, .int .i64 n3, .string s3, .slice A3 m3 c3] := hI.ok 9 (by decide) (hdep _ rfl ⟨9, .data⟩ (by simp) rfl)
      have hbn : Below w'.heap.size w' (w'.alloc (.cells #[.int .i64 k3, .int .i64 n3, .string s3, .slice A3 m3 c3] 25)) := (Below.refl _ _).alloc (Nat.le_refl _) _
      exact st_run hsl slT_inj hI (by decide) rfl rfl rfl (v := .slice (some ⟨w'.heap.size, 0, none⟩) 1 1) (w' := w'.alloc (.cells #[.int .i64 k3, .int .i64 n3, .string s3, .slice A3 m3 c3] 25)) (by simp [execOp, go_sem, Act.eval, f9]) hbn (kids_of (l := [n]) (World.alloc_heap_new _ _) (by simp) fun i t ht => by
        match i, ht with
        | 0, ht => injection ht with ht; subst ht; exact ⟨_, _, _, _, rfl, rfl, rfl, rfl, G3.under hbn hbn.size⟩
        | i + 1, ht => simp at ht)
    · obtain ⟨A, c, e, hk⟩ : (Sp.kids [n]).ok w' (a.tmps[35]?.getD undef) := hI.ok 10 (by decide) (hdep _ rfl ⟨10, .data⟩ (by simp) rfl)
      rw [e] at hk
      exact st_run hsl slT_inj hI (by decide) rfl rfl rfl (v := ndv 1 0 sVa (.slice A 1 c)) (by simp [execOp, go_sem, Act.eval, e]) (Below.refl _ _) (hk 1 0 sVa (by decide))
    · obtain ⟨d0, d1, d2, d3, _, _, _, _⟩ := c3_
      exact st_run hsl slT_inj hI (by decide) rfl rfl rfl (v := .agg #[.int .i64 k3, .int .i64 n3, .string s3, .slice A3 m3 c3]) (by simp [execOp, go_sem, Act.eval, p7, d0, d1, d2, d3]) (Below.refl _ _) rfl
    · have f12 : a.tmps[37]?.getD undef = .agg #[.int .i64 k3, .int .i64 n3, .string s3, .slice A3 m3 c3] := hI.ok 12 (by decide) (hdep _ rfl ⟨12, .data⟩ (by simp) rfl)
      have hbn : Below w'.heap.size w' (w'.alloc (.cells #[.int .i64 k3, .int .i64 n3, .string s3, .slice A3 m3 c3] 25)) := (Below.refl _ _).alloc (Nat.le_refl _) _
      exact st_run hsl slT_inj hI (by decide) rfl rfl rfl (v := .slice (some ⟨w'.heap.size, 0, none⟩) 1 1) (w' := w'.alloc (.cells #[.int .i64 k3, .int .i64 n3, .string s3, .slice A3 m3 c3] 25)) (by simp [execOp, go_sem, Act.eval, f12]) hbn (kids_of (l := [n]) (World.alloc_heap_new _ _) (by simp) fun i t ht => by
        match i, ht with
        | 0, ht => injection ht with ht; subst ht; exact ⟨_, _, _, _, rfl, rfl, rfl, rfl, G3.under hbn hbn.size⟩
        | i + 1, ht => simp at ht)
    · obtain ⟨A, c, e, hk⟩ : (Sp.kids [n]).ok w' (a.tmps[38]?.getD undef) := hI.ok 13 (by decide) (hdep _ rfl ⟨13, .data⟩ (by simp) rfl)
      rw [e] at hk
      exact st_run hsl slT_inj hI (by decide) rfl rfl rfl (v := ndv 9 0 ⟨#[]⟩ (.slice A 1 c)) (by simp [execOp, go_sem, Act.eval, e]) (Below.refl _ _) (hk 9 0 ⟨#[]⟩ (by decide))
    · obtain ⟨d0, d1, d2, d3, _, _, _, _⟩ := c3_
      exact st_run hsl slT_inj hI (by decide) rfl rfl rfl (v := .agg #[.int .i64 k3, .int .i64 n3, .string s3, .slice A3 m3 c3]) (by simp [execOp, go_sem, Act.eval, p7, d0, d1, d2, d3]) (Below.refl _ _) rfl
    · obtain ⟨d0, d1, d2, d3, _, _, _, _⟩ := c4_
      exact st_run hsl slT_inj hI (by decide) rfl rfl rfl (v := .agg #[.int .i64 k4, .int .i64 n4, .string s4, .slice A4 m4 c4]) (by simp [execOp, go_sem, Act.eval, p8, d0, d1, d2, d3]) (Below.refl _ _) rfl
    · have f15 : a.tmps[40]?.getD undef = .agg #[.int .i64 k3, .int .i64 n3, .string s3, .slice A3 m3 c3] := hI.ok 15 (by decide) (hdep _ rfl ⟨15, .data⟩ (by simp) rfl)
      have f16 : a.tmps[41]?.getD undef = .agg #[.int .i64 k4, .int .i64 n4, .string s4, .slice A4 m4 c4] := hI.ok 16 (by decide) (hdep _ rfl ⟨16, .data⟩ (by simp) rfl)
      have hbn : Below w'.heap.size w' (w'.alloc (.cells #[.int .i64 k3, .int .i64 n3, .string s3, .slice A3 m3 c3, .int .i64 k4, .int .i64 n4, .string s4, .slice A4 m4 c4] 25)) := (Below.refl _ _).alloc (Nat.le_refl _) _
      exact st_run hsl slT_inj hI (by decide) rfl rfl rfl (v := .slice (some ⟨w'.heap.size, 0, none⟩) 2 2) (w' := w'.alloc (.cells #[.int .i64 k3, .int .i64 n3, .string s3, .slice A3 m3 c3, .int .i64 k4, .int .i64 n4, .string s4, .slice A4 m4 c4] 25)) (by simp [execOp, go_sem, Act.eval, f15, f16]) hbn (kids_of (l := [n, m]) (World.alloc_heap_new _ _) (by simp) fun i t ht => by
        match i, ht with
        | 0, ht => injection ht with ht; subst ht; exact ⟨_, _, _, _, rfl, rfl, rfl, rfl, G3.under hbn hbn.size⟩
        | 1, ht => injection ht with ht; subst ht; exact ⟨_, _, _, _, rfl, rfl, rfl, rfl, G4.under hbn hbn.size⟩
        | i + 2, ht => simp at ht)
    · obtain ⟨A, c, e, hk⟩ : (Sp.kids [n, m]).ok w' (a.tmps[42]?.getD undef) := hI.ok 17 (by decide) (hdep _ rfl ⟨17, .data⟩ (by simp) rfl)
      rw [e] at hk
      exact st_run hsl slT_inj hI (by decide) rfl rfl rfl (v := ndv 8 0 ⟨#[]⟩ (.slice A 2 c)) (by simp [execOp, go_sem, Act.eval, e]) (Below.refl _ _) (hk 8 0 ⟨#[]⟩ (by decide))
    · exact st_run hsl slT_inj hI (by decide) rfl rfl rfl (v := .int .i64 a2) (by simp [execOp, go_sem, Act.eval, p2]) (Below.refl _ _) rfl
    · have f19 : a.tmps[44]?.getD undef = .int .i64 a2 := hI.ok 19 (by decide) (hdep _ rfl ⟨19, .data⟩ (by simp) rfl)
      exact st_call hsl slT_inj hI (by decide) rfl rfl rfl (f := 6) (args := #[.int .i64 a2, .int .i64 30]) (by simp [execOp, go_sem, Act.eval, f19]) ((HQ.out _).mono fun _ _ h => ⟨h.1, h.2, rfl⟩)
    · obtain ⟨d0, d1, d2, d3, _, _, _, _⟩ := c3_
      exact st_run hsl slT_inj hI (by decide) rfl rfl rfl (v := .agg #[.int .i64 k3, .int .i64 n3, .string s3, .slice A3 m3 c3]) (by simp [execOp, go_sem, Act.eval, p7, d0, d1, d2, d3]) (Below.refl _ _) rfl
    · obtain ⟨d0, d1, d2, d3, _, _, _, _⟩ := c4_
      exact st_run hsl slT_inj hI (by decide) rfl rfl rfl (v := .agg #[.int .i64 k4, .int .i64 n4, .string s4, .slice A4 m4 c4]) (by simp [execOp, go_sem, Act.eval, p8, d0, d1, d2, d3]) (Below.refl _ _) rfl
    · obtain ⟨d0, d1, d2, d3, _, _, _, _⟩ := c3_
      exact st_run hsl slT_inj hI (by decide) rfl rfl rfl (v := .agg #[.int .i64 k3, .int .i64 n3, .string s3, .slice A3 m3 c3]) (by simp [execOp, go_sem, Act.eval, p7, d0, d1, d2, d3]) (Below.refl _ _) rfl
    · have f21 : a.tmps[46]?.getD undef = .agg #[.int .i64 k3, .int .i64 n3, .string s3, .slice A3 m3 c3] := hI.ok 21 (by decide) (hdep _ rfl ⟨21, .data⟩ (by simp) rfl)
      have f22 : a.tmps[47]?.getD undef = .agg #[.int .i64 k4, .int .i64 n4, .string s4, .slice A4 m4 c4] := hI.ok 22 (by decide) (hdep _ rfl ⟨22, .data⟩ (by simp) rfl)
      have f23 : a.tmps[48]?.getD undef = .agg #[.int .i64 k3, .int .i64 n3, .string s3, .slice A3 m3 c3] := hI.ok 23 (by decide) (hdep _ rfl ⟨23, .data⟩ (by simp) rfl)
      have hbn : Below w'.heap.size w' (w'.alloc (.cells #[.int .i64 k3, .int .i64 n3, .string s3, .slice A3 m3 c3, .int .i64 k4, .int .i64 n4, .string s4, .slice A4 m4 c4, .int .i64 k3, .int .i64 n3, .string s3, .slice A3 m3 c3] 25)) := (Below.refl _ _).alloc (Nat.le_refl _) _
      exact st_run hsl slT_inj hI (by decide) rfl rfl rfl (v := .slice (some ⟨w'.heap.size, 0, none⟩) 3 3) (w' := w'.alloc (.cells #[.int .i64 k3, .int .i64 n3, .string s3, .slice A3 m3 c3, .int .i64 k4, .int .i64 n4, .string s4, .slice A4 m4 c4, .int .i64 k3, .int .i64 n3, .string s3, .slice A3 m3 c3] 25)) (by simp [execOp, go_sem, Act.eval, f21, f22, f23]) hbn (kids_of (l := [n, m, n]) (World.alloc_heap_new _ _) (by simp) fun i t ht => by
        match i, ht with
        | 0, ht => injection ht with ht; subst ht; exact ⟨_, _, _, _, rfl, rfl, rfl, rfl, G3.under hbn hbn.size⟩
        | 1, ht => injection ht with ht; subst ht; exact ⟨_, _, _, _, rfl, rfl, rfl, rfl, G4.under hbn hbn.size⟩
        | 2, ht => injection ht with ht; subst ht; exact ⟨_, _, _, _, rfl, rfl, rfl, rfl, G3.under hbn hbn.size⟩
        | i + 3, ht => simp at ht)
    · obtain ⟨A, c, e, hk⟩ : (Sp.kids [n, m, n]).ok w' (a.tmps[49]?.getD undef) := hI.ok 24 (by decide) (hdep _ rfl ⟨24, .data⟩ (by simp) rfl)
      rw [e] at hk
      have eq : a.tmps[45]?.getD undef = .int .i64 q := hI.ok 20 (by decide) (hdep _ rfl ⟨20, .data⟩ (by simp) rfl)
      exact st_run hsl slT_inj hI (by decide) rfl rfl rfl (v := ndv 4 q ⟨#[]⟩ (.slice A 3 c)) (by simp [execOp, go_sem, Act.eval, e, eq]) (Below.refl _ _) (hk 4 q ⟨#[]⟩ (by decide))
    · obtain ⟨d0, d1, d2, d3, _, _, _, _⟩ := c3_
      exact st_run hsl slT_inj hI (by decide) rfl rfl rfl (v := .agg #[.int .i64 k3, .int .i64 n3, .string s3, .slice A3 m3 c3]) (by simp [execOp, go_sem, Act.eval, p7, d0, d1, d2, d3]) (Below.refl _ _) rfl
    · have f26 : a.tmps[51]?.getD undef = .agg #[.int .i64 k3, .int .i64 n3, .string s3, .slice A3 m3 c3] := hI.ok 26 (by decide) (hdep _ rfl ⟨26, .data⟩ (by simp) rfl)
      have hbn : Below w'.heap.size w' (w'.alloc (.cells #[.int .i64 k3, .int .i64 n3, .string s3, .slice A3 m3 c3] 25)) := (Below.refl _ _).alloc (Nat.le_refl _) _
      exact st_run hsl slT_inj hI (by decide) rfl rfl rfl (v := .slice (some ⟨w'.heap.size, 0, none⟩) 1 1) (w' := w'.alloc (.cells #[.int .i64 k3, .int .i64 n3, .string s3, .slice A3 m3 c3] 25)) (by simp [execOp, go_sem, Act.eval, f26]) hbn (kids_of (l := [n]) (World.alloc_heap_new _ _) (by simp) fun i t ht => by
        match i, ht with
        | 0, ht => injection ht with ht; subst ht; exact ⟨_, _, _, _, rfl, rfl, rfl, rfl, G3.under hbn hbn.size⟩
        | i + 1, ht => simp at ht)
    · obtain ⟨A, c, e, hk⟩ : (Sp.kids [n]).ok w' (a.tmps[52]?.getD undef) := hI.ok 27 (by decide) (hdep _ rfl ⟨27, .data⟩ (by simp) rfl)
      rw [e] at hk
      exact st_run hsl slT_inj hI (by decide) rfl rfl rfl (v := ndv 16 0 ⟨#[]⟩ (.slice A 1 c)) (by simp [execOp, go_sem, Act.eval, e]) (Below.refl _ _) (hk 16 0 ⟨#[]⟩ (by decide))
    · have t4 : NdV w' w'.heap.size (.mk 2 0 ⟨#[]⟩ [n, e0, e0]) (a.tmps[29]?.getD undef) := hI.ok 4 (by decide) (hdep _ rfl ⟨4, .data⟩ (by simp) rfl)
      obtain ⟨A_4, c_4, _, f4, _⟩ := t4.open_
      rw [f4] at t4
      have t8 : NdV w' w'.heap.size (.mk 3 0 ⟨#[]⟩ [n, e0]) (a.tmps[33]?.getD undef) := hI.ok 8 (by decide) (hdep _ rfl ⟨8, .data⟩ (by simp) rfl)
      obtain ⟨A_8, c_8, _, f8, _⟩ := t8.open_
      rw [f8] at t8
      have t11 : NdV w' w'.heap.size (.mk 1 0 sVa [n]) (a.tmps[36]?.getD undef) := hI.ok 11 (by decide) (hdep _ rfl ⟨11, .data⟩ (by simp) rfl)
      obtain ⟨A_11, c_11, _, f11, _⟩ := t11.open_
      rw [f11] at t11
      have t14 : NdV w' w'.heap.size (.mk 9 0 ⟨#[]⟩ [n]) (a.tmps[39]?.getD undef) := hI.ok 14 (by decide) (hdep _ rfl ⟨14, .data⟩ (by simp) rfl)
      obtain ⟨A_14, c_14, _, f14, _⟩ := t14.open_
      rw [f14] at t14
      have t18 : NdV w' w'.heap.size (.mk 8 0 ⟨#[]⟩ [n, m]) (a.tmps[43]?.getD undef) := hI.ok 18 (by decide) (hdep _ rfl ⟨18, .data⟩ (by simp) rfl)
      obtain ⟨A_18, c_18, _, f18, _⟩ := t18.open_
      rw [f18] at t18
      have t25 : NdV w' w'.heap.size (.mk 4 q ⟨#[]⟩ [n, m, n]) (a.tmps[50]?.getD undef) := hI.ok 25 (by decide) (hdep _ rfl ⟨25, .data⟩ (by simp) rfl)
      obtain ⟨A_25, c_25, _, f25, _⟩ := t25.open_
      rw [f25] at t25
      have t28 : NdV w' w'.heap.size (.mk 16 0 ⟨#[]⟩ [n]) (a.tmps[53]?.getD undef) := hI.ok 28 (by decide) (hdep _ rfl ⟨28, .data⟩ (by simp) rfl)
      obtain ⟨A_28, c_28, _, f28, _⟩ := t28.open_
      rw [f28] at t28
      have hbn : Below w'.heap.size w' (w'.alloc (.cells #[.int .i64 2, .int .i64 0, .string ⟨#[]⟩, .slice A_4 3 c_4, .int .i64 3, .int .i64 0, .string ⟨#[]⟩, .slice A_8 2 c_8, .int .i64 1, .int .i64 0, .string sVa, .slice A_11 1 c_11, .int .i64 9, .int .i64 0, .string ⟨#[]⟩, .slice A_14 1 c_14, .int .i64 8, .int .i64 0, .string ⟨#[]⟩, .slice A_18 2 c_18, .int .i64 4, .int .i64 q, .string ⟨#[]⟩, .slice A_25 3 c_25, .int .i64 16, .int .i64 0, .string ⟨#[]⟩, .slice A_28 1 c_28] 25)) := (Below.refl _ _).alloc (Nat.le_refl _) _
      exact st_run hsl slT_inj hI (by decide) rfl rfl rfl (v := .slice (some ⟨w'.heap.size, 0, none⟩) 7 7) (w' := w'.alloc (.cells #[.int .i64 2, .int .i64 0, .string ⟨#[]⟩, .slice A_4 3 c_4, .int .i64 3, .int .i64 0, .string ⟨#[]⟩, .slice A_8 2 c_8, .int .i64 1, .int .i64 0, .string sVa, .slice A_11 1 c_11, .int .i64 9, .int .i64 0, .string ⟨#[]⟩, .slice A_14 1 c_14, .int .i64 8, .int .i64 0, .string ⟨#[]⟩, .slice A_18 2 c_18, .int .i64 4, .int .i64 q, .string ⟨#[]⟩, .slice A_25 3 c_25, .int .i64 16, .int .i64 0, .string ⟨#[]⟩, .slice A_28 1 c_28] 25)) (by simp [execOp, go_sem, Act.eval, f4, f8, f11, f14, f18, f25, f28]) hbn (kids_of (l := [.mk 2 0 ⟨#[]⟩ [n, e0, e0], .mk 3 0 ⟨#[]⟩ [n, e0], .mk 1 0 sVa [n], .mk 9 0 ⟨#[]⟩ [n], .mk 8 0 ⟨#[]⟩ [n, m], .mk 4 q ⟨#[]⟩ [n, m, n], .mk 16 0 ⟨#[]⟩ [n]]) (World.alloc_heap_new _ _) (by simp) fun i t ht => by
        match i, ht with
        | 0, ht => injection ht with ht; subst ht; exact ⟨_, _, _, _, rfl, rfl, rfl, rfl, t4.under hbn hbn.size⟩
        | 1, ht => injection ht with ht; subst ht; exact ⟨_, _, _, _, rfl, rfl, rfl, rfl, t8.under hbn hbn.size⟩
        | 2, ht => injection ht with ht; subst ht; exact ⟨_, _, _, _, rfl, rfl, rfl, rfl, t11.under hbn hbn.size⟩
        | 3, ht => injection ht with ht; subst ht; exact ⟨_, _, _, _, rfl, rfl, rfl, rfl, t14.under hbn hbn.size⟩
        | 4, ht => injection ht with ht; subst ht; exact ⟨_, _, _, _, rfl, rfl, rfl, rfl, t18.under hbn hbn.size⟩
        | 5, ht => injection ht with ht; subst ht; exact ⟨_, _, _, _, rfl, rfl, rfl, rfl, t25.under hbn hbn.size⟩
        | 6, ht => injection ht with ht; subst ht; exact ⟨_, _, _, _, rfl, rfl, rfl, rfl, t28.under hbn hbn.size⟩
        | i + 7, ht => simp at ht)
    · have e := hI.ok 29 (by decide) (hdep _ rfl ⟨29, .data⟩ (by simp) rfl)
      exact st_run hsl slT_inj hI (by decide) rfl rfl rfl (v := a.tmps[54]?.getD undef) (by simp [execOp, go_sem, Act.eval]) (Below.refl _ _) e
  case fin =>
    intro a w8 hsz hdf hlow hBl hok
    obtain ⟨A, c, h12, hk7⟩ : (Sp.kids (sevenT n m q)).ok w8 (a.tmps[12]?.getD undef) := hok 30 (by decide)
    rw [h12] at hk7
    replace hk7 := hk7 0 0 ⟨#[]⟩ (by decide)
    have hB8 : Below W8.heap.size W8 w8 := (Below.refl _ W8).drew.trans hBl
    obtain ⟨tm, dfs⟩ := a
    simp only at hsz hdf hlow h12
    obtain ⟨U, hU⟩ : ∃ U : Nat → Value, tm = #[.slice a0 len0 cap0, .slice a1 len1 cap1, .int .i64 a2, U 3, U 4, U 5, .bool false, .pointer (some ⟨w3.heap.size, 0, none⟩), .pointer (some ⟨w4.heap.size, 0, none⟩), .int .i64 (x : Int), .int .i64 (y : Int), .pointer (some ⟨w7.heap.size, 0, none⟩), .slice A 7 c, U 13, U 14, U 15, U 16, U 17, U 18, U 19, U 20, U 21, U 22, U 23, U 24, U 25, U 26, U 27, U 28, U 29, U 30, U 31, U 32, U 33, U 34, U 35, U 36, U 37, U 38, U 39, U 40, U 41, U 42, U 43, U 44, U 45, U 46, U 47, U 48, U 49, U 50, U 51, U 52, U 53, U 54, U 55, U 56, U 57, U 58, U 59, U 60, U 61, U 62, U 63, U 64, U 65, U 66, U 67, U 68, U 69, U 70, U 71, U 72, U 73, U 74, U 75, U 76, U 77, U 78, U 79, U 80, U 81, U 82, U 83, U 84, U 85, U 86, U 87, U 88, U 89, U 90, U 91, U 92, U 93, U 94, U 95, U 96, U 97, U 98] := by
      refine ⟨fun j => tm[j]?.getD undef, ?_⟩
      refine (arr_form hsz).trans ?_
      have k0 : tm[0]?.getD undef = .slice a0 len0 cap0 := by rw [hlow 0 (by decide) (by decide)]; rfl
      have k1 : tm[1]?.getD undef = .slice a1 len1 cap1 := by rw [hlow 1 (by decide) (by decide)]; rfl
      have k2 : tm[2]?.getD undef = .int .i64 a2 := by rw [hlow 2 (by decide) (by decide)]; rfl
      have k6 : tm[6]?.getD undef = .bool false := by rw [hlow 6 (by decide) (by decide)]; rfl
      have k7 : tm[7]?.getD undef = .pointer (some ⟨w3.heap.size, 0, none⟩) := by rw [hlow 7 (by decide) (by decide)]; rfl
      have k8 : tm[8]?.getD undef = .pointer (some ⟨w4.heap.size, 0, none⟩) := by rw [hlow 8 (by decide) (by decide)]; rfl
      have k9 : tm[9]?.getD undef = .int .i64 (x : Int) := by rw [hlow 9 (by decide) (by decide)]; rfl
      have k10 : tm[10]?.getD undef = .int .i64 (y : Int) := by rw [hlow 10 (by decide) (by decide)]; rfl
      have k11 : tm[11]?.getD undef = .pointer (some ⟨w7.heap.size, 0, none⟩) := by rw [hlow 11 (by decide) (by decide)]; rfl
      show #[tm[0]?.getD undef, tm[1]?.getD undef, tm[2]?.getD undef, tm[3]?.getD undef, tm[4]?.getD undef, tm[5]?.getD undef, tm[6]?.getD undef, tm[7]?.getD undef, tm[8]?.getD undef, tm[9]?.getD undef, tm[10]?.getD undef, tm[11]?.getD undef, tm[12]?.getD undef, tm[13]?.getD undef, tm[14]?.getD undef, tm[15]?.getD undef, tm[16]?.getD undef, tm[17]?.getD undef, tm[18]?.getD undef, tm[19]?.getD undef, tm[20]?.getD undef, tm[21]?.getD undef, tm[22]?.getD undef, tm[23]?.getD undef, tm[24]?.getD undef, tm[25]?.getD undef, tm[26]?.getD undef, tm[27]?.getD undef, tm[28]?.getD undef, tm[29]?.getD undef, tm[30]?.getD undef, tm[31]?.getD undef, tm[32]?.getD undef, tm[33]?.getD undef, tm[34]?.getD undef, tm[35]?.getD undef, tm[36]?.getD undef, tm[37]?.getD undef, tm[38]?.getD undef, tm[39]?.getD undef, tm[40]?.getD undef, tm[41]?.getD undef, tm[42]?.getD undef, tm[43]?.getD undef, tm[44]?.getD undef, tm[45]?.getD undef, tm[46]?.getD undef, tm[47]?.getD undef, tm[48]?.getD undef, tm[49]?.getD undef, tm[50]?.getD undef, tm[51]?.getD undef, tm[52]?.getD undef, tm[53]?.getD undef, tm[54]?.getD undef, tm[55]?.getD undef, tm[56]?.getD undef, tm[57]?.getD undef, tm[58]?.getD undef, tm[59]?.getD undef, tm[60]?.getD undef, tm[61]?.getD undef, tm[62]?.getD undef, tm[63]?.getD undef, tm[64]?.getD undef, tm[65]?.getD undef, tm[66]?.getD undef, tm[67]?.getD undef, tm[68]?.getD undef, tm[69]?.getD undef, tm[70]?.getD undef, tm[71]?.getD undef, tm[72]?.getD undef, tm[73]?.getD undef, tm[74]?.getD undef, tm[75]?.getD undef, tm[76]?.getD undef, tm[77]?.getD undef, tm[78]?.getD undef, tm[79]?.getD undef, tm[80]?.getD undef, tm[81]?.getD undef, tm[82]?.getD undef, tm[83]?.getD undef, tm[84]?.getD undef, tm[85]?.getD undef, tm[86]?.getD undef, tm[87]?.getD undef, tm[88]?.getD undef, tm[89]?.getD undef, tm[90]?.getD undef, tm[91]?.getD undef, tm[92]?.getD undef, tm[93]?.getD undef, tm[94]?.getD undef, tm[95]?.getD undef, tm[96]?.getD undef, tm[97]?.getD undef, tm[98]?.getD undef] = _
      rw [k0, k1, k2, k6, k7, k8, k9, k10, k11, h12]
      rfl
    subst hU hdf
    clear hlow hsz h12 hok hBl F3 F4 F5 Y3 Y4 l3 l4 l5
    have LV := Lib.hid (fun V => lives_any V)
    obtain ⟨p1, hp1⟩ : ∃ p, ((x : Int) == 1) = p := ⟨_, rfl⟩
    obtain ⟨p2, hp2⟩ : ∃ p, ((x : Int) == 2) = p := ⟨_, rfl⟩
    obtain ⟨r1, hr1⟩ : ∃ p, ((y : Int) == 1) = p := ⟨_, rfl⟩
    have SIX := Lib.hid (six_ok q un.out um.out hx hy hp1 hp2 hr1)
    have TD := Lib.hid (ty_draw n)
    rw [hx, nat_one hp1] at TD
    obtain ⟨A', c', vs, e, hvl, hlc, hcm, hlm, _, hkd, hkids⟩ := hk7.open_
    injection e with e
    injection e with e
    injection e with _ e
    injection e with _ e
    injection e with _ e
    injection e with e _
    injection e with eA _ ec
    subst eA ec
    obtain ⟨t0, ht0⟩ : ∃ t, (sevenT n m q)[0]? = some t := ⟨_, rfl⟩
    obtain ⟨v0, hv0⟩ : ∃ v, vs[0]? = some v := ⟨vs[0]'(by rw [hvl]; show 0 < 7; decide), List.getElem?_eq_getElem _⟩
    obtain ⟨ba, oa, _, _, _, _, _, _, eA, hba, _⟩ := hkd.tree hv0 (hkids 0 t0 v0 ht0 hv0)
    subst eA
    have HKD := Lib.hid hkd
    have HKI := Lib.hid hkids
    have hvl7 : vs.length = 7 := hvl
    have HB9 := Lib.hid (HB8.out.trans (hB8.mono HB8.out.size))
    clear ht0 hv0 hkd hkids hvl hlc hcm hlm hk7 hB8 HB8 HQ un um hx hy ha2
    cases p1
    all_goals go_wp2_with fail
    · obtain ⟨W9, hW9⟩ : ∃ U, w8.alloc (.cells #[.bool p2, .bool p2, .bool false, .bool false, .bool false, .bool false] 4) = U := ⟨_, rfl⟩
      rw [hW9]
      have z9 : W9.heap.size = w8.heap.size + 1 := by rw [← hW9, World.size_alloc]
      have b9 : Below w8.heap.size w8 W9 := by rw [← hW9]; exact (Below.refl _ _).alloc (Nat.le_refl _) _
      have f9 : W9.heap[w8.heap.size]? = some (.cells #[.bool p2, .bool p2, .bool false, .bool false, .bool false, .bool false] 4 (0, 0)) := by rw [← hW9]; exact World.alloc_heap_new w8 _
      have B9 := Lib.hid b9
      have F9 := Lib.hid f9
      clear hW9 b9 f9
      go_loopw [15] (fun i V => ∃ j : Nat, j ≤ 6 ∧ i = .int .i64 (j : Int) ∧ Hid (Below W9.heap.size W9 V)) (fun i _ => 6 - (intOf i).toNat)
      case atStart => exact ⟨0, by omega, rfl, Below.refl _ _⟩
      case round =>
        obtain ⟨j, hj, rfl, hBl⟩ := hrel
        obtain ⟨t, ht, hok, ht6⟩ := SIX.out j hj
        obtain ⟨vj, hvj⟩ : ∃ v, vs[j]? = some v := ⟨vs[j]'(by omega), List.getElem?_eq_getElem _⟩
        have hnv := HKI.out j t vj ht hvj
        obtain ⟨b', o', kj, nj, sj, Aj, lj, cj, eA, hbh, rfl, c0, c1, c2', c3⟩ := HKD.out.tree hvj hnv
        injection eA with eA
        injection eA with e1 e2
        subst e1 e2
        have hlt : ba < W9.heap.size := by omega
        have hbW : Below W9.heap.size w8 W9 ∨ True := .inr trivial
        clear hbW
        have d0 := (B9.out.cell (p := ⟨ba, oa + j * 4, none⟩) hba).trans c0
        have d1 := (B9.out.cell (p := ⟨ba, oa + j * 4 + 1, none⟩) hba).trans c1
        have d2 := (B9.out.cell (p := ⟨ba, oa + j * 4 + 2, none⟩) hba).trans c2'
        have d3 := (B9.out.cell (p := ⟨ba, oa + j * 4 + 3, none⟩) hba).trans c3
        have hn9 := hnv.under B9.out (hi' := W9.heap.size) (by omega)
        clear c0 c1 c2' c3 hnv ht hvj
        by_cases hj6 : j < 6
        · obtain ⟨bb, hbb, hob⟩ := hok hj6
          have dw : W9.cell? ⟨w8.heap.size, j, none⟩ = some (.bool bb) := (cell_of_row W9 _ j _ _ (0, 0) F9.out).trans (want_cell p2 false false hbb)
          have KP := Lib.hid (fun (V : World) (hV : Below W9.heap.size W9 V) => (show (V.cell? ⟨ba, oa + j * 4, none⟩ = some (.int .i64 kj) ∧ V.cell? ⟨ba, oa + j * 4 + 1, none⟩ = some (.int .i64 nj) ∧ V.cell? ⟨ba, oa + j * 4 + 2, none⟩ = some (.string sj) ∧ V.cell? ⟨ba, oa + j * 4 + 3, none⟩ = some (.slice Aj lj cj) ∧ V.cell? ⟨w8.heap.size, j, none⟩ = some (.bool bb)) from
            ⟨(hV.cell (p := ⟨ba, oa + j * 4, none⟩) hlt).trans d0, (hV.cell (p := ⟨ba, oa + j * 4 + 1, none⟩) hlt).trans d1, (hV.cell (p := ⟨ba, oa + j * 4 + 2, none⟩) hlt).trans d2, (hV.cell (p := ⟨ba, oa + j * 4 + 3, none⟩) hlt).trans d3, (hV.cell (p := ⟨w8.heap.size, j, none⟩) (show w8.heap.size < _ by omega)).trans dw⟩))
          have SG := Lib.hid (fun (V : World) (hV : Below W9.heap.size W9 V) => Single_any t V W9.heap.size _ (hn9.under hV (Nat.le_refl _)) hV.size)
          have B := hBl.out
          obtain ⟨y0, y1, y2, y3, y4⟩ := KP.out _ B
          obtain ⟨z, hz⟩ : ∃ z : Int, (if bb = true then (0 : Int) else 11) = z := ⟨_, rfl⟩
          have hzb : (z == 0) = bb := by subst hz; cases bb <;> rfl
          have OK := Lib.hid (fun (V : World) (u : Value) (h : OneU V t u) => (show Calls Try.prog 7 #[u] V fun e w' => e = .returned (.int .i64 z) ∧ Below V.heap.size V w' from hz ▸ hob ▸ one_check h))
          clear d0 d1 d2 d3 dw hn9 hok ht6 hbb hob hlt hz
          · have hj7 : (j : Int) < 7 := by omega
            have hj6' : (j : Int) < 6 := by omega
            go_wp2_with fail
            go_region_held3 (fun V => V.cell? ⟨ba, oa + j * 4, none⟩ = some (.int .i64 kj) ∧ V.cell? ⟨ba, oa + j * 4 + 1, none⟩ = some (.int .i64 nj) ∧ V.cell? ⟨ba, oa + j * 4 + 2, none⟩ = some (.string sj) ∧ V.cell? ⟨ba, oa + j * 4 + 3, none⟩ = some (.slice Aj lj cj) ∧ V.cell? ⟨w8.heap.size, j, none⟩ = some (.bool bb))
              (first | exact KP.out _ B | exact KP.out _ B.drew)
              (first
                | (go_at_call 8; ((with_reducible refine (SG.out _ ?_).mono ?_); focus (first | exact B | exact B.drew)); rintro e w5 ⟨u5, rfl, o5, hb⟩; have OK5 := Lib.hid (OK.out _ _ o5); obtain ⟨Ay5, cy5, Az5, rfl, _, _⟩ := o5; (first | have B := B.trans (hb.mono B.size) | have B := B.drew.trans (hb.mono B.size)); clear hb)
                | (go_at_call 7; refine OK5.out.mono ?_; clear OK5; rintro e w6 ⟨rfl, hb⟩; (first | have B := B.trans (hb.mono B.size) | have B := B.drew.trans (hb.mono B.size)); clear hb))
            all_goals
              go_wp2_with fail
              go_roundw
              case rel => exact ⟨j + 1, by omega, by go_num, B⟩
              case measure => simp [intOf]; omega
        · obtain rfl : j = 6 := by omega
          have y0 := (hBl.out.cell (p := ⟨ba, oa + 6 * 4, none⟩) hlt).trans d0
          have y1 := (hBl.out.cell (p := ⟨ba, oa + 6 * 4 + 1, none⟩) hlt).trans d1
          have y2 := (hBl.out.cell (p := ⟨ba, oa + 6 * 4 + 2, none⟩) hlt).trans d2
          have y3 := (hBl.out.cell (p := ⟨ba, oa + 6 * 4 + 3, none⟩) hlt).trans d3
          obtain rfl := ht6 rfl
          have T6 := Lib.hid (TypeOf_any _ wr W9.heap.size _ (hn9.under hBl.out (Nat.le_refl _)) hBl.out.size)
          rw [TD] at T6
          have HBB := Lib.hid (HB9.out.trans ((B9.out.mono (by have := HB9.out.size; omega)).trans (hBl.out.mono (by have := HB9.out.size; omega))))
          go_wp2_with (first
            | (go_at_call 5; refine T6.out.mono ?_; clear T6; rintro e w5 ⟨rfl, hb5⟩)
            | (go_at_call 9; refine (LV.out _).mono ?_; clear LV; rintro e w6 ⟨rfl, hb6⟩))
          go_ret
          exact ⟨rfl, HBB.out.trans ((hb5.mono (by have := HBB.out.size; omega)).trans (hb6.mono (by have := HBB.out.size; have := hb5.size; omega)))⟩
    · obtain ⟨W9, hW9⟩ : ∃ U, w8.alloc (.cells #[.bool p2, .bool p2, .bool true, .bool true, .bool r1, .bool r1] 4) = U := ⟨_, rfl⟩
      rw [hW9]
      have z9 : W9.heap.size = w8.heap.size + 1 := by rw [← hW9, World.size_alloc]
      have b9 : Below w8.heap.size w8 W9 := by rw [← hW9]; exact (Below.refl _ _).alloc (Nat.le_refl _) _
      have f9 : W9.heap[w8.heap.size]? = some (.cells #[.bool p2, .bool p2, .bool true, .bool true, .bool r1, .bool r1] 4 (0, 0)) := by rw [← hW9]; exact World.alloc_heap_new w8 _
      have B9 := Lib.hid b9
      have F9 := Lib.hid f9
      clear hW9 b9 f9
      go_loopw [15] (fun i V => ∃ j : Nat, j ≤ 6 ∧ i = .int .i64 (j : Int) ∧ Hid (Below W9.heap.size W9 V)) (fun i _ => 6 - (intOf i).toNat)
      case atStart => exact ⟨0, by omega, rfl, Below.refl _ _⟩
      case round =>
        obtain ⟨j, hj, rfl, hBl⟩ := hrel
        obtain ⟨t, ht, hok, ht6⟩ := SIX.out j hj
        obtain ⟨vj, hvj⟩ : ∃ v, vs[j]? = some v := ⟨vs[j]'(by omega), List.getElem?_eq_getElem _⟩
        have hnv := HKI.out j t vj ht hvj
        obtain ⟨b', o', kj, nj, sj, Aj, lj, cj, eA, hbh, rfl, c0, c1, c2', c3⟩ := HKD.out.tree hvj hnv
        injection eA with eA
        injection eA with e1 e2
        subst e1 e2
        have hlt : ba < W9.heap.size := by omega
        have hbW : Below W9.heap.size w8 W9 ∨ True := .inr trivial
        clear hbW
        have d0 := (B9.out.cell (p := ⟨ba, oa + j * 4, none⟩) hba).trans c0
        have d1 := (B9.out.cell (p := ⟨ba, oa + j * 4 + 1, none⟩) hba).trans c1
        have d2 := (B9.out.cell (p := ⟨ba, oa + j * 4 + 2, none⟩) hba).trans c2'
        have d3 := (B9.out.cell (p := ⟨ba, oa + j * 4 + 3, none⟩) hba).trans c3
        have hn9 := hnv.under B9.out (hi' := W9.heap.size) (by omega)
        clear c0 c1 c2' c3 hnv ht hvj
        by_cases hj6 : j < 6
        · obtain ⟨bb, hbb, hob⟩ := hok hj6
          have dw : W9.cell? ⟨w8.heap.size, j, none⟩ = some (.bool bb) := (cell_of_row W9 _ j _ _ (0, 0) F9.out).trans (want_cell p2 true r1 hbb)
          have KP := Lib.hid (fun (V : World) (hV : Below W9.heap.size W9 V) => (show (V.cell? ⟨ba, oa + j * 4, none⟩ = some (.int .i64 kj) ∧ V.cell? ⟨ba, oa + j * 4 + 1, none⟩ = some (.int .i64 nj) ∧ V.cell? ⟨ba, oa + j * 4 + 2, none⟩ = some (.string sj) ∧ V.cell? ⟨ba, oa + j * 4 + 3, none⟩ = some (.slice Aj lj cj) ∧ V.cell? ⟨w8.heap.size, j, none⟩ = some (.bool bb)) from
            ⟨(hV.cell (p := ⟨ba, oa + j * 4, none⟩) hlt).trans d0, (hV.cell (p := ⟨ba, oa + j * 4 + 1, none⟩) hlt).trans d1, (hV.cell (p := ⟨ba, oa + j * 4 + 2, none⟩) hlt).trans d2, (hV.cell (p := ⟨ba, oa + j * 4 + 3, none⟩) hlt).trans d3, (hV.cell (p := ⟨w8.heap.size, j, none⟩) (show w8.heap.size < _ by omega)).trans dw⟩))
          have SG := Lib.hid (fun (V : World) (hV : Below W9.heap.size W9 V) => Single_any t V W9.heap.size _ (hn9.under hV (Nat.le_refl _)) hV.size)
          have B := hBl.out
          obtain ⟨y0, y1, y2, y3, y4⟩ := KP.out _ B
          obtain ⟨z, hz⟩ : ∃ z : Int, (if bb = true then (0 : Int) else 11) = z := ⟨_, rfl⟩
          have hzb : (z == 0) = bb := by subst hz; cases bb <;> rfl
          have OK := Lib.hid (fun (V : World) (u : Value) (h : OneU V t u) => (show Calls Try.prog 7 #[u] V fun e w' => e = .returned (.int .i64 z) ∧ Below V.heap.size V w' from hz ▸ hob ▸ one_check h))
          clear d0 d1 d2 d3 dw hn9 hok ht6 hbb hob hlt hz
          · have hj7 : (j : Int) < 7 := by omega
            have hj6' : (j : Int) < 6 := by omega
            go_wp2_with fail
            go_region_held3 (fun V => V.cell? ⟨ba, oa + j * 4, none⟩ = some (.int .i64 kj) ∧ V.cell? ⟨ba, oa + j * 4 + 1, none⟩ = some (.int .i64 nj) ∧ V.cell? ⟨ba, oa + j * 4 + 2, none⟩ = some (.string sj) ∧ V.cell? ⟨ba, oa + j * 4 + 3, none⟩ = some (.slice Aj lj cj) ∧ V.cell? ⟨w8.heap.size, j, none⟩ = some (.bool bb))
              (first | exact KP.out _ B | exact KP.out _ B.drew)
              (first
                | (go_at_call 8; ((with_reducible refine (SG.out _ ?_).mono ?_); focus (first | exact B | exact B.drew)); rintro e w5 ⟨u5, rfl, o5, hb⟩; have OK5 := Lib.hid (OK.out _ _ o5); obtain ⟨Ay5, cy5, Az5, rfl, _, _⟩ := o5; (first | have B := B.trans (hb.mono B.size) | have B := B.drew.trans (hb.mono B.size)); clear hb)
                | (go_at_call 7; refine OK5.out.mono ?_; clear OK5; rintro e w6 ⟨rfl, hb⟩; (first | have B := B.trans (hb.mono B.size) | have B := B.drew.trans (hb.mono B.size)); clear hb))
            all_goals
              go_wp2_with fail
              go_roundw
              case rel => exact ⟨j + 1, by omega, by go_num, B⟩
              case measure => simp [intOf]; omega
        · obtain rfl : j = 6 := by omega
          have y0 := (hBl.out.cell (p := ⟨ba, oa + 6 * 4, none⟩) hlt).trans d0
          have y1 := (hBl.out.cell (p := ⟨ba, oa + 6 * 4 + 1, none⟩) hlt).trans d1
          have y2 := (hBl.out.cell (p := ⟨ba, oa + 6 * 4 + 2, none⟩) hlt).trans d2
          have y3 := (hBl.out.cell (p := ⟨ba, oa + 6 * 4 + 3, none⟩) hlt).trans d3
          obtain rfl := ht6 rfl
          have T6 := Lib.hid (TypeOf_any _ wr W9.heap.size _ (hn9.under hBl.out (Nat.le_refl _)) hBl.out.size)
          rw [TD] at T6
          have HBB := Lib.hid (HB9.out.trans ((B9.out.mono (by have := HB9.out.size; omega)).trans (hBl.out.mono (by have := HB9.out.size; omega))))
          go_wp2_with (first
            | (go_at_call 5; refine T6.out.mono ?_; clear T6; rintro e w5 ⟨rfl, hb5⟩)
            | (go_at_call 9; refine (LV.out _).mono ?_; clear LV; rintro e w6 ⟨rfl, hb6⟩))
          go_ret
          exact ⟨rfl, HBB.out.trans ((hb5.mono (by have := HBB.out.size; omega)).trans (hb6.mono (by have := HBB.out.size; have := hb5.size; omega)))⟩
end Go.Proofs.Ytligbandpmgmaaa.LawTypesStatements
