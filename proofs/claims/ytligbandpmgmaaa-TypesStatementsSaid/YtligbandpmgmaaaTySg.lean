/-
  The reference's Single. Condition: the value is a tree.
-/
import Derived.Test.YtligbandpmgmaaaTyId
import Derived.Test.YtligbandpmgmaaaTyXp
import Derived.Deep.RegionLaw
import Derived.BigRegion
namespace Go.Proofs.Ytligbandpmgmaaa
open Go Go.RowKit Go.Proofs Go.Shelf
attribute [local go_sem] Oper.semAt_some

theorem ret_U {fn : Func} {p : Tmp} (hf : fn.results = #[.cell p 36]) {V : World} {b : Nat} {x0 x1 x2 : Value} (tmps : Array Value) (hp : tmps.getD p undef = .pointer (some ⟨b, 0, none⟩)) (h : V.heap[b]? = some (.cells #[x0, x1, x2] 36 (0, 0))) : (results fn tmps).run Try.prog V = .ok (.agg #[x0, x1, x2]) V := by
  have c0 : V.cell? ⟨b, 0, none⟩ = some x0 := cell_of_row V b 0 _ _ (0, 0) h
  have c1 : V.cell? ⟨b, 1, none⟩ = some x1 := cell_of_row V b 1 _ _ (0, 0) h
  have c2 : V.cell? ⟨b, 2, none⟩ = some x2 := cell_of_row V b 2 _ _ (0, 0) h
  have ia := Try.isAgg36
  have so := Try.sizeOf36
  simp only [results, hf]
  have hp' : tmps[p]?.getD undef = .pointer (some ⟨b, 0, none⟩) := by simpa using hp
  simp [go_sem, hp', c0, c1, c2, ia, so]
/-- The first j variables. -/
def Nms (j : Nat) : List ByteArray := (List.range j).map TY.vName
theorem Nms_snoc (j : Nat) : Nms (j + 1) = Nms j ++ [TY.vName j] := by unfold Nms; rw [List.range_succ, List.map_append]; rfl
theorem Nms_len (j : Nat) : (Nms j).length = j := by simp [Nms]
theorem row_below {w w' : World} {base size n : Nat} {t : TypeId} {v : Value} {xs : List Value} (h : w.ownsRow base t size v n xs) (hb : Below w.heap.size w w') : w'.ownsRow base t size v n xs := by
  obtain ⟨h1, h2⟩ := h
  refine ⟨h1, ?_⟩
  rcases h2 with h2 | ⟨g, cap, cur, hv, hg, hh, r⟩
  · exact .inl h2
  · exact .inr ⟨g, cap, cur, hv, hg, (hb.block g (heap_lt hh)).trans hh, r⟩
theorem row_from {w w' : World} {base size n : Nat} {t : TypeId} {v : Value} {xs : List Value} (h : w.ownsRow base t size v n xs) (hb : ∀ k, base ≤ k → w'.heap[k]? = w.heap[k]?) : w'.ownsRow base t size v n xs := by
  obtain ⟨h1, h2⟩ := h
  refine ⟨h1, ?_⟩
  rcases h2 with h2 | ⟨k, cap, cur, hv, hk, hh, r⟩
  · exact .inl h2
  · exact .inr ⟨k, cap, cur, hv, hk, (hb k hk).trans hh, r⟩
theorem cell_one_new (W : World) (x : Value) (t : TypeId) : ∀ j u, [x][j]? = some u → (W.alloc (.cells #[x] t)).drew.cell? ((⟨W.heap.size, 0, none⟩ : Addr).add j) = some u := by
  intro j u hu
  rw [Addr.add_lit, Nat.zero_add]
  have := cell_of_row (W.alloc (.cells #[x] t)) W.heap.size j #[x] t (0, 0) (World.alloc_heap_new W _)
  show (W.alloc (.cells #[x] t)).cell? _ = _
  rw [this, ← hu]
  match j with
  | 0 => rfl
  | j + 1 => rfl
/-- The step of a round: a string was appended to the second field of a unit. -/
theorem unit_step {w0 wr w4 : World} {B base j : Nat} {x0 x2 x v u : Value} {xs zs : List Value} (hblk : wr.heap[B]? = some (.cells #[x0, v, x2] 36 (0, 0))) (hown : wr.ownsRow base 9 1 v j xs) (hB : B < base)
    (hg : (wr.alloc (.cells #[x] 9)).drew.grownBy w4 v.ownBlock) (hown4 : w4.ownsRow base 9 1 u (j + 1) zs) (hb : Below B w0 wr) :
    (w4.setCell ⟨B, 1, none⟩ u).heap[B]? = some (.cells #[x0, u, x2] 36 (0, 0)) ∧ (w4.setCell ⟨B, 1, none⟩ u).ownsRow base 9 1 u (j + 1) zs ∧ Below B w0 (w4.setCell ⟨B, 1, none⟩ u) := by
  have hl := heap_lt hblk
  have hne : some B ≠ v.ownBlock := fun e => by have := (hown.lt B e.symm).1; omega
  have h4 : w4.heap[B]? = some (.cells #[x0, v, x2] 36 (0, 0)) := ((hg.block B (by simp; omega) hne).trans (Below.heap_alloc wr _ B hl)).trans hblk
  refine ⟨by simp [World.setCell, Array.getElem?_modify, h4], row_from hown4 (fun k hk => Below.heap_setCell _ _ _ _ (by show k ≠ B; omega)), Below.setCell (p := ⟨B, 1, none⟩) ?_ (Nat.le_refl _) _⟩
  exact (hb.trans (((Below.refl B wr).alloc (by omega) _).drew)).grown hg (by simp; omega) fun b e => by have := (hown.lt b e).1; omega
theorem unit_kept {wr w4 : World} {B base j : Nat} {x v a0 a1 a2 : Value} {xs : List Value} (hg : (wr.alloc (.cells #[x] 9)).drew.grownBy w4 v.ownBlock) (hblk : wr.heap[B]? = some (.cells #[a0, a1, a2] 36 (0, 0))) (hown : wr.ownsRow base 9 1 v j xs) (hB : B < base) :
    w4.cell? ⟨B, 1, none⟩ = some a1 ∧ w4.frozen? ⟨B, 1, none⟩ = false := by
  have hl := heap_lt hblk
  have hne : some B ≠ v.ownBlock := fun e => by have := (hown.lt B e.symm).1; omega
  have h4 : w4.heap[B]? = some (.cells #[a0, a1, a2] 36 (0, 0)) := ((hg.block B (by simp; omega) hne).trans (Below.heap_alloc wr _ B hl)).trans hblk
  exact ⟨cell_of_row w4 B 1 _ _ (0, 0) h4, by simp [World.frozen?, h4]⟩
/-- The block of one statement. -/
abbrev blk (t : TY.Nd) : TY.Nd := .mk 11 0 ⟨#[]⟩ [t]
/-- What a unit of one statement holds. -/
def OneU (W : World) (t : TY.Nd) (v : Value) : Prop := ∃ Ay cy Az, v = .agg #[.slice none 0 0, .slice Ay 10 cy, .slice Az 1 1] ∧ Stn W.heap.size W Ay cy (Nms 10) ∧ Hs W W.heap.size Az [(0, blk t)]
theorem Stn.of_own {w : World} {base : Nat} {A : Option Addr} {n c : Nat} {l : List ByteArray} (hl : l.length = n) (h : w.ownsRow base 9 1 (.slice A n c) n (l.map Value.string)) : Stn w.heap.size w A c l := by
  obtain ⟨A', c', e, h1, h2⟩ := own_slice h
  injection e with e1 e2 e3
  subst e1 e3
  refine ⟨by omega, h2, ?_⟩
  rcases h.2 with ⟨e, _⟩ | ⟨g, cap, cur, e, _, hh, _⟩
  · injection e with e1 e2 e3
    exact .inl ⟨e1, e3⟩
  · injection e with e1 e2 e3
    subst e1
    refine .inr ⟨g, 0, rfl, heap_lt hh, fun j s hj => ?_⟩
    have hc := h.cells (g := g) rfl j (.string s) (by rw [List.getElem?_map, hj]; rfl)
    rwa [Addr.add_lit] at hc
theorem hs_one {W : World} {hi g : Nat} {x : Int} {k n : Int} {s : ByteArray} {A' : Option Addr} {m c : Nat} {t : TY.Nd} (h : W.heap[g]? = some (.cells #[.int .i64 x, .int .i64 k, .int .i64 n, .string s, .slice A' m c] 51 (0, 0))) (hg : g < hi) (hv : NdV W hi t (ndv k n s (.slice A' m c))) : Hs W hi (some ⟨g, 0, none⟩) [(x, t)] := fun i y hy => by
  match i, hy with
  | 0, hy =>
    injection hy with hy
    subst hy
    exact ⟨g, 0, k, n, s, A', m, c, rfl, hg, cell_of_row W g _ _ _ (0, 0) h, cell_of_row W g _ _ _ (0, 0) h, cell_of_row W g _ _ _ (0, 0) h, cell_of_row W g _ _ _ (0, 0) h, cell_of_row W g _ _ _ (0, 0) h, hv⟩
  | i + 1, hy => simp at hy
set_option maxRecDepth 100000 in
set_option maxHeartbeats 4000000 in
theorem Single_any (t : TY.Nd) (W : World) (hi : Nat) (v : Value) (hv : NdV W hi t v) (hh : hi ≤ W.heap.size) : Calls Try.prog 8 #[v] W fun e w' => ∃ u, e = .returned u ∧ OneU w' t u ∧ Below W.heap.size W w' := by
  obtain ⟨k, n, s, l⟩ := t
  have hvo := hv.open_
  obtain ⟨A0, c0, vs, rfl, _⟩ := hvo
  obtain ⟨m, hm⟩ : ∃ m, l.length = m := ⟨_, rfl⟩
  rw [hm] at hv ⊢
  obtain ⟨W1, hW1⟩ : ∃ U, W.alloc (.cells #[.int .i64 k, .int .i64 n, .string s, .slice A0 m c0] 25) = U := ⟨_, rfl⟩
  obtain ⟨W2, hW2⟩ : ∃ U, W1.alloc (.cells #[.slice none 0 0, .slice none 0 0, .slice none 0 0] 36) = U := ⟨_, rfl⟩
  obtain ⟨W3, hW3⟩ : ∃ U, W2.alloc (.cells #[.slice none 0 0, .slice none 0 0, .slice none 0 0] 36) = U := ⟨_, rfl⟩
  have z1 : W1.heap.size = W.heap.size + 1 := by rw [← hW1, World.size_alloc]
  have z2 : W2.heap.size = W.heap.size + 1 + 1 := by rw [← hW2, World.size_alloc, z1]
  have z3 : W3.heap.size = W.heap.size + 1 + 1 + 1 := by rw [← hW3, World.size_alloc, z2]
  have b1 : Below W.heap.size W W1 := by rw [← hW1]; exact (Below.refl _ _).alloc (Nat.le_refl _) _
  have b12 : Below W1.heap.size W1 W2 := by rw [← hW2]; exact (Below.refl _ _).alloc (Nat.le_refl _) _
  have b23 : Below W2.heap.size W2 W3 := by rw [← hW3]; exact (Below.refl _ _).alloc (Nat.le_refl _) _
  have b3 : Below W.heap.size W W3 := (b1.trans (b12.mono (by omega))).trans (b23.mono (by omega))
  have n1 : W1.heap[W.heap.size]? = some (.cells #[.int .i64 k, .int .i64 n, .string s, .slice A0 m c0] 25 (0, 0)) := by rw [← hW1]; exact World.alloc_heap_new W _
  have n3 : W3.heap[W.heap.size]? = some (.cells #[.int .i64 k, .int .i64 n, .string s, .slice A0 m c0] 25 (0, 0)) := (b23.block _ (by omega)).trans ((b12.block _ (by omega)).trans n1)
  have r2 : W2.heap[W.heap.size + 1]? = some (.cells #[.slice none 0 0, .slice none 0 0, .slice none 0 0] 36 (0, 0)) := by rw [← hW2, ← z1]; exact World.alloc_heap_new W1 _
  have r3 := (b23.block _ (by omega)).trans r2
  have u3 : W3.heap[W.heap.size + 1 + 1]? = some (.cells #[.slice none 0 0, .slice none 0 0, .slice none 0 0] 36 (0, 0)) := by rw [← hW3, ← z2]; exact World.alloc_heap_new W2 _
  obtain ⟨i0, hi0, hz0, hz1, hz2⟩ := info_parts info_str
  have HZ := Lib.hid (And.intro hi0 (And.intro hz0 (And.intro hz1 hz2)))
  have HW := Lib.hid (show ((W.alloc (.cells #[.int .i64 k, .int .i64 n, .string s, .slice A0 m c0] 25)).alloc (.cells #[.slice none 0 0, .slice none 0 0, .slice none 0 0] 36)).alloc (.cells #[.slice none 0 0, .slice none 0 0, .slice none 0 0] 36) = W3 by rw [hW1, hW2, hW3])
  have HB3 := Lib.hid b3
  have HN3 := Lib.hid n3
  have HR3 := Lib.hid r3
  have HU3 := Lib.hid u3
  have HV := Lib.hid hv
  have HH := Lib.hid hh
  clear hW1 hW2 hW3 b1 b12 b23 b3 n1 n3 r2 r3 u3 hv hh hi0 hz0 hz1 hz2 hm
  go_enter Try.func8, Try.ntmps8
  go_wp2_with fail
  rw [HW.out]
  go_loopw [4] (fun i V => ∃ (j : Nat) (A : Option Addr) (c : Nat), j ≤ 10 ∧ i = .int .i64 (j : Int) ∧ Hid (V.heap[W.heap.size + 1 + 1]? = some (.cells #[.slice none 0 0, .slice A j c, .slice none 0 0] 36 (0, 0))) ∧ Hid (V.ownsRow W3.heap.size 9 1 (.slice A j c) j ((Nms j).map Value.string)) ∧ Hid (Below (W.heap.size + 1 + 1) W3 V)) (fun i _ => 10 - (intOf i).toNat)
  case atStart => exact ⟨0, none, 0, by omega, rfl, HU3.out, ⟨rfl, .inl ⟨rfl, rfl⟩⟩, Below.refl _ _⟩
  case round =>
    obtain ⟨j, A, c, hj, rfl, hU, hO, hBl⟩ := hrel
    have hsz := hBl.out.size
    by_cases hjm : j < 10
    · have c1 : wr.cell? ⟨W.heap.size + 1 + 1, 1, none⟩ = some (.slice A j c) := cell_of_row wr _ 1 _ _ (0, 0) hU.out
      have f1 : wr.frozen? ⟨W.heap.size + 1 + 1, 1, none⟩ = false := by simp [World.frozen?, hU.out]
      have c1' : (wr.alloc (.cells #[.string (TY.vName j)] 9)).cell? ⟨W.heap.size + 1 + 1, 1, none⟩ = some (.slice A j c) := (((Below.refl wr.heap.size wr).alloc (Nat.le_refl _) _).cell (p := ⟨W.heap.size + 1 + 1, 1, none⟩) (heap_lt hU.out)).trans c1
      go_wp2_with fail
      go_region_law
        (first
          | (refine step_append_lies _ rfl (.tmp 10) (.tmp 13) 33 rfl W3.heap.size 9 i0 _ 1 16 Try.underlying33 HZ.out.1 HZ.out.2.1 HZ.out.2.2.1 HZ.out.2.2.2 rfl (by decide) (.slice A j c) j _ (by simp [Act.eval]) (row_below hO.out (((Below.refl _ _).alloc (Nat.le_refl _) _).drew)) ⟨wr.heap.size, 0, none⟩ 1 1 [_] (by simp [Act.eval]) rfl (cell_one_new wr _ _) (by simp [Value.oneCell']) (by decide) (by simp only [maxLen]; omega) (by omega) (by simp; omega) _ rfl ?_; intro g4 c4 w4 hown4 hgrow4 _ _; have f4 := unit_kept hgrow4 hU.out hO.out (by omega))
          | (go_simp; go_at_call 17; refine (nameY j hjm _).mono ?_; rintro e w5 ⟨rfl, rfl⟩))
      all_goals
        obtain ⟨k1, k2, k3⟩ := unit_step hU.out hO.out (by omega) hgrow4 hown4 hBl.out
        go_wp2_with fail
        go_roundw
        case rel => exact ⟨j + 1, _, _, by omega, by go_num, k1, by rw [Nms_snoc, List.map_append]; exact k2, k3⟩
        case measure => simp [intOf]; omega
    · obtain rfl : j = 10 := by omega
      have nb : wr.heap[W.heap.size]? = some (.cells #[.int .i64 k, .int .i64 n, .string s, .slice A0 m c0] 25 (0, 0)) := (hBl.out.block _ (by omega)).trans HN3.out
      have rb : wr.heap[W.heap.size + 1]? = some (.cells #[.slice none 0 0, .slice none 0 0, .slice none 0 0] 36 (0, 0)) := (hBl.out.block _ (by omega)).trans HR3.out
      have q0 : wr.cell? ⟨W.heap.size, 0, none⟩ = some (.int .i64 k) := cell_of_row wr _ 0 _ _ (0, 0) nb
      have q1 : wr.cell? ⟨W.heap.size, 1, none⟩ = some (.int .i64 n) := cell_of_row wr _ 1 _ _ (0, 0) nb
      have q2 : wr.cell? ⟨W.heap.size, 2, none⟩ = some (.string s) := cell_of_row wr _ 2 _ _ (0, 0) nb
      have q3 : wr.cell? ⟨W.heap.size, 3, none⟩ = some (.slice A0 m c0) := cell_of_row wr _ 3 _ _ (0, 0) nb
      obtain ⟨X1, hX1⟩ : ∃ U, wr.alloc (.cells #[.int .i64 k, .int .i64 n, .string s, .slice A0 m c0] 25) = U := ⟨_, rfl⟩
      obtain ⟨X2, hX2⟩ : ∃ U, X1.alloc (.cells #[.int .i64 0, .int .i64 11, .int .i64 0, .string ⟨#[]⟩, .slice (some ⟨wr.heap.size, 0, none⟩) 1 1] 51) = U := ⟨_, rfl⟩
      have y1 : X1.heap.size = wr.heap.size + 1 := by rw [← hX1, World.size_alloc]
      have y2 : X2.heap.size = wr.heap.size + 1 + 1 := by rw [← hX2, World.size_alloc, y1]
      have x1 : Below wr.heap.size wr X1 := by rw [← hX1]; exact (Below.refl _ _).alloc (Nat.le_refl _) _
      have x12 : Below X1.heap.size X1 X2 := by rw [← hX2]; exact (Below.refl _ _).alloc (Nat.le_refl _) _
      have x2 : Below wr.heap.size wr X2 := x1.trans (x12.mono (by omega))
      have hb2 : X2.heap[W.heap.size + 1 + 1]? = some (.cells #[.slice none 0 0, .slice A 10 c, .slice none 0 0] 36 (0, 0)) := (x2.block _ (by omega)).trans hU.out
      have rb2 := (x2.block (W.heap.size + 1) (by omega)).trans rb
      have nn1 : X1.heap[wr.heap.size]? = some (.cells #[.int .i64 k, .int .i64 n, .string s, .slice A0 m c0] 25 (0, 0)) := by rw [← hX1]; exact World.alloc_heap_new wr _
      have nn2 := (x12.block wr.heap.size (by omega)).trans nn1
      have hn2 : X2.heap[wr.heap.size + 1]? = some (.cells #[.int .i64 0, .int .i64 11, .int .i64 0, .string ⟨#[]⟩, .slice (some ⟨wr.heap.size, 0, none⟩) 1 1] 51 (0, 0)) := by rw [← hX2, ← y1]; exact World.alloc_heap_new X1 _
      have u0 : X2.cell? ⟨W.heap.size + 1 + 1, 0, none⟩ = some (.slice none 0 0) := cell_of_row X2 _ 0 _ _ (0, 0) hb2
      have u1 : X2.cell? ⟨W.heap.size + 1 + 1, 1, none⟩ = some (.slice A 10 c) := cell_of_row X2 _ 1 _ _ (0, 0) hb2
      have u2 : X2.cell? ⟨W.heap.size + 1 + 1, 2, none⟩ = some (.slice none 0 0) := cell_of_row X2 _ 2 _ _ (0, 0) hb2
      have p0 : X2.cell? ⟨W.heap.size + 1, 0, none⟩ = some (.slice none 0 0) := cell_of_row X2 _ 0 _ _ (0, 0) rb2
      have p1 : X2.cell? ⟨W.heap.size + 1, 1, none⟩ = some (.slice none 0 0) := cell_of_row X2 _ 1 _ _ (0, 0) rb2
      have p2 : X2.cell? ⟨W.heap.size + 1, 2, none⟩ = some (.slice none 0 0) := cell_of_row X2 _ 2 _ _ (0, 0) rb2
      have g2 : X2.frozen? ⟨W.heap.size + 1 + 1, 2, none⟩ = false := by simp [World.frozen?, hb2]
      have r0 : X2.frozen? ⟨W.heap.size + 1, 0, none⟩ = false := by simp [World.frozen?, rb2]
      have r1 : X2.frozen? ⟨W.heap.size + 1, 1, none⟩ = false := by simp [World.frozen?, rb2]
      have r2 : X2.frozen? ⟨W.heap.size + 1, 2, none⟩ = false := by simp [World.frozen?, rb2]
      have HX2 := Lib.hid hX2
      have HX1 := Lib.hid hX1
      have HB2 := Lib.hid hb2
      have HRB2 := Lib.hid rb2
      have HNN2 := Lib.hid nn2
      have HHN2 := Lib.hid hn2
      have HXB := Lib.hid x2
      have HXS := Lib.hid y2
      rw [← hX2, ← hX1] at u0 u1 u2 p0 p1 p2 g2 r0 r1 r2
      clear nb rb hb2 rb2 nn1 nn2 hn2 x1 x12 x2 hX2 hX1 y1 y2
      go_wp2_with fail
      rw [HX1.out, HX2.out]
      obtain ⟨Y, hY⟩ : ∃ U, (((X2.setCell ⟨W.heap.size + 1 + 1, 2, none⟩ (.slice (some ⟨wr.heap.size + 1, 0, none⟩) 1 1)).setCell ⟨W.heap.size + 1, 0, none⟩ (.slice none 0 0)).setCell ⟨W.heap.size + 1, 1, none⟩ (.slice A 10 c)).setCell ⟨W.heap.size + 1, 2, none⟩ (.slice (some ⟨wr.heap.size + 1, 0, none⟩) 1 1) = U := ⟨_, rfl⟩
      rw [hY]
      have keep : ∀ g, g ≠ W.heap.size + 1 → g ≠ W.heap.size + 1 + 1 → Y.heap[g]? = X2.heap[g]? := fun g h1 h2 => by
        rw [← hY]
        exact (Below.heap_setCell _ _ _ _ h1).trans ((Below.heap_setCell _ _ _ _ h1).trans ((Below.heap_setCell _ _ _ _ h1).trans (Below.heap_setCell _ _ _ _ h2)))
      have zY : Y.heap.size = X2.heap.size := by rw [← hY]; simp [World.setCell]
      have bY : Below (W.heap.size + 1) X2 Y := by
        rw [← hY]
        exact ((((Below.refl _ X2).setCell (p := ⟨W.heap.size + 1 + 1, 2, none⟩) (show W.heap.size + 1 ≤ W.heap.size + 1 + 1 by omega) _).setCell (p := ⟨W.heap.size + 1, 0, none⟩) (Nat.le_refl _) _).setCell (p := ⟨W.heap.size + 1, 1, none⟩) (Nat.le_refl _) _).setCell (p := ⟨W.heap.size + 1, 2, none⟩) (Nat.le_refl _) _
      have rY : Y.heap[W.heap.size + 1]? = some (.cells #[.slice none 0 0, .slice A 10 c, .slice (some ⟨wr.heap.size + 1, 0, none⟩) 1 1] 36 (0, 0)) := by
        rw [← hY]
        have := HRB2.out
        simp only [World.setCell, Array.getElem?_modify]
        simp [this]
      have hxs := HXS.out
      have hbW : Below W.heap.size W Y := (((HB3.out.trans (hBl.out.mono (by omega))).trans (HXB.out.mono (by omega)))).trans (bY.mono (by omega))
      have hOY : Y.ownsRow W3.heap.size 9 1 (.slice A 10 c) 10 ((Nms 10).map Value.string) := row_from (row_below hO.out HXB.out) (fun g hg => keep g (by omega) (by omega))
      have hvY : NdV Y Y.heap.size (blk (.mk k n s l)) (ndv 11 0 ⟨#[]⟩ (.slice (some ⟨wr.heap.size, 0, none⟩) 1 1)) := NdV.one ((keep _ (by omega) (by omega)).trans HNN2.out) (by omega) (by decide) (HV.out.under (hbW.mono HH.out) (Nat.le_trans HH.out hbW.size))
      refine bodyPost_ret (ret_U rfl _ rfl rY) rfl ?_
      exact ⟨_, rfl, ⟨A, c, _, rfl, Stn.of_own (Nms_len 10) hOY, hs_one ((keep _ (by omega) (by omega)).trans HHN2.out) (by omega) hvY⟩, hbW⟩
end Go.Proofs.Ytligbandpmgmaaa
