/-
  The contract of predecessors: for each vertex, in increasing order, those from which edges lead to it. Condition: each row is strictly increasing and names vertices.
  The reference's Edges: pairs made from numbers. Condition: at most 9 vertices.
  The contracts of the heap's own methods: Len, Less, Swap, Push, Pop. Conditions: the places lie in the heap; it holds at most 1000 vertices.
  The contracts of container/heap's Push and Pop at the heap of vertices, and of its own method Pop. Condition: at most 1000 vertices.
  The contracts of container/heap's down, Push and Pop at the heap of vertices. Condition: at most 1000 vertices.
  The contracts of container/heap's Push and Pop at the heap of vertices. Condition: at most 900 vertices.
-/
import Derived.Test.YtdebnnigbbjbcaaDoorK4
import Derived.Test.YtdebnnigbbjbcaaDoorK2
import Derived.BigRegion
import Derived.Deep.RegionLaw
import Derived.Deep.AppendLies
import Derived.Test.YtdebnnigbbjbcaaDoorK3

namespace Go.Proofs.YtdebnnigbbjbcaaDoor
open Go Go.RowKit

def S0 (n : Nat) (F : List (Nat × Nat)) (g : Nat) (w wr : World) : Prop :=
  ∃ cs, Rows2 wr w.heap.size wr.heap.size g cs (appRows n F) ∧ Below w.heap.size w wr
theorem S0.start (n : Nat) (w : World) : S0 n [] w.heap.size w (w.alloc (.cells (Array.replicate n (.slice none 0 0)) 22)) := S1.start n [] w
theorem S0.step {n x y g : Nat} {F : List (Nat × Nat)} {w wr wx w1 : World} {cs : Array Value} {v v' : Value} {l : List Nat} (hR : Rows2 wr w.heap.size wr.heap.size g cs (appRows n F)) (hB : Below w.heap.size w wr)
    (hv : cs[x]? = some v) (ho : Own wr w.heap.size v l) (hl : Hid (appRow F x = l)) (hwx : Below wr.heap.size wr wx) (hg : wx.grownBy w1 v.ownBlock)
    (hown : w1.ownsRow w.heap.size 3 1 v' (l.length + 1) (l.map nv ++ [nv y])) (hv' : ∃ b, v'.ownBlock = some b ∧ (v.ownBlock = some b ∨ b = wx.heap.size) ∧ b < w1.heap.size) :
    S0 n (F ++ [(x, y)]) g w (w1.setCell ⟨g, x, none⟩ v') := by
  have hl := hl.out
  have hsz := hB.size
  have hwz := hwx.size
  have h1 : ∀ b, b < wr.heap.size → v.ownBlock ≠ some b → w1.heap[b]? = wr.heap[b]? := fun b hb hne => by
    rw [hg.block b (by omega) (Ne.symm hne)]
    exact hwx.block b hb
  have hgs := hg.size
  have hgin := hR.gin
  have hw1 : w.heap.size ≤ w1.heap.size := by omega
  obtain ⟨b0, hb0, hb1, hb2⟩ := hv'
  have hstep := hR.upd (hi' := w1.heap.size) hv (by omega) (fun b _ hb hne => h1 b hb hne) (v' := v') (l := l ++ [y]) (by
      show w1.ownsRow _ _ _ _ _ _
      rw [List.length_append, List.map_append]
      exact hown) (fun b hb => by
      rw [hb0] at hb
      injection hb with hb
      subst hb
      rcases hb1 with h | h
      · exact .inl h
      · exact .inr (by omega)) (fun b hb => by
      rw [hb0] at hb
      injection hb with hb
      omega)
  refine ⟨cs.setIfInBounds x v', ?_, ?_⟩
  · rw [appRows_snoc, hl]
    have e : (w1.setCell ⟨g, x, none⟩ v').heap.size = w1.heap.size := by simp [World.setCell]
    rw [e]
    exact hstep
  · refine (Below.trans hB ⟨hg.os.trans hwx.os, hg.tape.trans hwx.tape, hg.output.trans hwx.output, by omega, fun b hb => h1 b (by omega) (fun e => ?_)⟩).setCell (p := ⟨g, x, none⟩) hgin.1 _
    have := ho.lt b e
    omega

/-- The edges turned round, up to row k, and j of row k. -/
def revTo (nx : List (List Nat)) (k : Nat) : List (Nat × Nat) := (List.range k).flatMap fun v => (nb nx v).map fun w => (w, v)
def revAt (nx : List (List Nat)) (k j : Nat) : List (Nat × Nat) := revTo nx k ++ ((nb nx k).take j).map fun w => (w, k)
theorem revAt_zero (nx : List (List Nat)) (k : Nat) : revAt nx k 0 = revTo nx k := by simp [revAt]
theorem revAt_all (nx : List (List Nat)) (k : Nat) : revAt nx k (nb nx k).length = revTo nx (k + 1) := by
  unfold revAt revTo
  rw [List.take_length, List.range_succ, List.flatMap_append]
  simp
theorem revAt_succ (nx : List (List Nat)) (k j : Nat) {x : Nat} (h : (nb nx k)[j]? = some x) : revAt nx k (j + 1) = revAt nx k j ++ [(x, k)] := by
  unfold revAt
  rw [take_snoc' h, List.map_append, List.append_assoc]
  rfl
theorem nb_short (nx : List (List Nat)) (hg : Good nx) (v : Nat) : (nb nx v).length ≤ nx.length := by
  unfold nb
  rcases Nat.lt_or_ge v nx.length with h | h
  · rw [List.getElem?_eq_getElem h]
    have hs := hg _ (List.getElem_mem h)
    have := List.Nodup.length_le_of_subset (l₁ := nx[v]) (l₂ := List.range nx.length) (hs.1.imp (S := (· ≠ ·)) (fun h => Nat.ne_of_lt h)) (fun a ha => List.mem_range.2 (hs.2 a ha))
    rwa [List.length_range] at this
  · rw [List.getElem?_eq_none h]
    exact Nat.zero_le _
theorem revTo_len (nx : List (List Nat)) (N : Nat) (h : ∀ v, (nb nx v).length ≤ N) (k : Nat) : (revTo nx k).length ≤ k * N := by
  induction k with
  | zero => simp [revTo]
  | succ k ih =>
    have e : revTo nx (k + 1) = revTo nx k ++ (nb nx k).map fun w => (w, k) := by
      unfold revTo
      rw [List.range_succ, List.flatMap_append]
      simp
    rw [e, List.length_append, List.length_map, Nat.add_mul, Nat.one_mul]
    have := h k
    omega
theorem revAt_len (nx : List (List Nat)) (N : Nat) (h : ∀ v, (nb nx v).length ≤ N) (k j : Nat) : (revAt nx k j).length ≤ k * N + N := by
  unfold revAt
  rw [List.length_append, List.length_map]
  have h1 := revTo_len nx N h k
  have h2 := List.length_take_le j (nb nx k)
  have h3 := h k
  have h4 : ((nb nx k).take j).length ≤ (nb nx k).length := List.length_take_le' _ _
  omega
theorem filter_eq_mem {l : List Nat} (h : l.Pairwise (· < ·)) (x : Nat) : l.filter (fun w => decide (w = x)) = if x ∈ l then [x] else [] := by
  induction l with
  | nil => rfl
  | cons y ys ih =>
    rw [List.pairwise_cons] at h
    rw [List.filter_cons, ih h.2]
    by_cases e : y = x
    · subst e
      have : ¬ y ∈ ys := fun hm => by have := h.1 y hm; omega
      simp [this]
    · have e' : ¬ x = y := fun e' => e e'.symm
      simp [e, e']
theorem appRow_append (F G : List (Nat × Nat)) (x : Nat) : appRow (F ++ G) x = appRow F x ++ appRow G x := by simp [appRow]
theorem appRow_rev (nx : List (List Nat)) (hg : Good nx) (x : Nat) (k : Nat) : appRow (revTo nx k) x = (List.range k).filter fun v => decide (x ∈ nb nx v) := by
  induction k with
  | zero => rfl
  | succ k ih =>
    have e : revTo nx (k + 1) = revTo nx k ++ (nb nx k).map fun w => (w, k) := by
      unfold revTo
      rw [List.range_succ, List.flatMap_append]
      simp
    rw [e, appRow_append, ih, List.range_succ, List.filter_append]
    congr 1
    have hs : (nb nx k).Pairwise (· < ·) := by
      unfold nb
      rcases Nat.lt_or_ge k nx.length with h | h
      · rw [List.getElem?_eq_getElem h]
        exact (hg _ (List.getElem_mem h)).1
      · rw [List.getElem?_eq_none h]
        exact List.Pairwise.nil
    have e2 : appRow ((nb nx k).map fun w => (w, k)) x = ((nb nx k).filter fun w => decide (w = x)).map fun _ => k := by
      unfold appRow
      rw [List.filter_map, List.map_map]
      rfl
    rw [e2, filter_eq_mem hs]
    by_cases h : x ∈ nb nx k <;> simp [h]
theorem rev_preds (nx : List (List Nat)) (hg : Good nx) : appRows nx.length (revTo nx nx.length) = preds nx := by
  unfold appRows preds
  exact List.map_congr_left fun v _ => appRow_rev nx hg v nx.length

set_option maxRecDepth 100000 in
set_option maxHeartbeats 2000000 in
theorem predecessors_any (g lo hi c : Nat) (cs : Array Value) (nx : List (List Nat)) (w : World) (hn : nx.length ≤ 1000) (hr : Rows2 w lo hi g cs nx) (hh : hi ≤ w.heap.size) (hg : Good nx) :
    Calls Tryd.prog 41 #[.slice (some ⟨g, 0, none⟩) nx.length c] w fun e w' => ∃ g' ds, e = .returned (.slice (some ⟨g', 0, none⟩) nx.length nx.length) ∧ Rows2 w' w.heap.size w'.heap.size g' ds (preds nx) ∧ Below w.heap.size w w' := by
  have hmk := make_ints2 nx.length (by omega)
  obtain ⟨i0, hi0, hz0, hz1, hz2⟩ := info_parts info_int
  have hst := S0.start nx.length w
  obtain ⟨w1, hw1⟩ : ∃ W, W = w.alloc (.cells (Array.replicate nx.length (.slice none 0 0)) 22) := ⟨_, rfl⟩
  rw [← hw1] at hst
  have HW1 := Lib.hid hw1
  obtain ⟨n, hnx⟩ : ∃ n, nx.length = n := ⟨_, rfl⟩
  rw [hnx] at hmk hst hn ⊢
  have hnx1 := HW1.out
  rw [hnx] at hnx1
  have HW2 := Lib.hid hnx1
  have HN := Lib.hid hnx
  clear hw1 HW1 hnx1 hnx
  have HR := Lib.hid hr
  have HG := Lib.hid hg
  have HB := Lib.hid (show ∀ v, (nb nx v).length ≤ 1000 from fun v => Nat.le_trans (nb_short nx hg v) (by have := HN.out; omega))
  clear hr hg
  have hlog := HR.out.gin
  go_enter Tryd.func41, Tryd.ntmps41
  go_wp2_with fail
  rw [← HW2.out]
  go_loopw [13] (fun i wr => ∃ k : Nat, k ≤ n ∧ i = .int .i64 k ∧ S0 n (revTo nx k) w.heap.size w wr) (fun i _ => n - (intOf i).toNat)
  case atStart => exact ⟨0, Nat.zero_le _, rfl, hst⟩
  case round =>
    obtain ⟨k, hk, rfl, hS⟩ := hrel
    obtain ⟨wo, hwo⟩ : ∃ W, W = wr := ⟨_, rfl⟩
    subst hwo
    by_cases hlt : k < n
    · obtain ⟨v, l, hv, hl, ho, hcv⟩ := HR.out.at_ (i := k) (by rw [HN.out]; exact hlt)
      obtain ⟨A, cc, rfl, hlc, hcm⟩ := ho.slice
      have hB0 := hS.choose_spec.2
      have hcv1 := (hB0.cell (p := ⟨g, k, none⟩) (by show g < _; omega)).trans hcv
      have hnb : nb nx k = l := by unfold nb; rw [hl]; rfl
      have HNB := Lib.hid hnb
      have hll : l.length ≤ 1000 := by rw [← hnb]; exact HB.out k
      have HL := Lib.hid (HG.out l (List.mem_of_getElem? hl))
      have HO := Lib.hid ho
      have HS := Lib.hid hS
      clear hnb hv hl ho hcv hS hst
      go_wp2_with fail
      go_loopw [20] (fun i wr => ∃ j : Nat, j ≤ l.length ∧ i = .int .i64 j ∧ S0 n (revAt nx k j) w.heap.size w wr) (fun i _ => l.length - (intOf i).toNat)
      case atStart => exact ⟨0, Nat.zero_le _, rfl, by rw [revAt_zero]; exact HS.out⟩
      case round =>
        obtain ⟨j, hj, rfl, ds, hD, hB⟩ := hrel
        by_cases hlj : j < l.length
        · obtain ⟨gl, cl, e, hg1, hg2, _, _⟩ := HO.out.form (by omega)
          injection e with e1 e2 e3
          subst e1 e3
          have hcx := HO.out.cell hlj
          obtain ⟨x, hx⟩ : ∃ x, l[j]?.getD 0 = x := ⟨_, rfl⟩
          rw [hx] at hcx
          have hxl : l[j]? = some x := by rw [List.getElem?_eq_getElem hlj] at hx ⊢; exact congrArg some hx
          have hxn : x < n := by have := HL.out.2 x (List.mem_of_getElem? hxl); rw [HN.out] at this; exact this
          have hcx1 : wr.cell? ⟨gl, j, none⟩ = some (.int .i64 (x : Int)) := (hB.cell (p := ⟨gl, j, none⟩) hg2).trans hcx
          have HXL := Lib.hid hxl
          obtain ⟨v, m, hv, hm, ho, hcv⟩ := hD.at_ (i := x) (by rw [appRows_len]; exact hxn)
          rw [appRows_at n _ hxn] at hm
          injection hm with hm
          have HM := Lib.hid hm
          have hml : m.length ≤ 1000000 := by
            have h1 := appRow_len (revAt nx k j) x
            have h2 := revAt_len nx 1000 (HB.out) k j
            rw [hm] at h1
            have h3 : k * 1000 ≤ 999 * 1000 := Nat.mul_le_mul_right _ (by omega)
            omega
          have hvg := own_ne_g hD ho
          have hgl := hD.gin.2
          have HD := Lib.hid hD
          have HO2 := Lib.hid ho
          have HV := Lib.hid hv
          have hfz := hD.frozen x
          have HOA := Lib.hid (own_of_block (w' := wr.alloc (.cells #[.int .i64 (k : Int)] 3)) ho (fun b hb => Below.heap_alloc _ _ _ (ho.lt b hb).2))
          clear hx hxl hm hcx hD ho hv
          go_wp2_with (at_builtin
                       refine wpList_append_lies _ rfl (.tmp 29) (.tmp 31) 22 rfl w.heap.size 3 i0 _ 1 8 Tryd.underlying22 hi0 hz0 hz1 hz2 rfl (by decide) v m.length (m.map nv) rfl HOA.out ⟨wr.heap.size, 0, none⟩ 1 1 [.int .i64 (k : Int)] rfl rfl (fun j u hu => cell_one_new wr _ _ j u hu) (by simp [Value.oneCell']) (by decide) (by simp only [maxLen]; omega) (by omega) (by simp; omega) _ rfl ?_
                       intro gg cap w1 hown1 hgrow hat hlt
                       have hcz := hgrow.cell ((World.cell?_alloc_lt wr _ _ (by show w.heap.size < _; omega)).trans hcv) (Ne.symm hvg)
                       have hf1 : w1.frozen? ⟨w.heap.size, x, none⟩ = false := (World.frozen?_of_block (hgrow.block w.heap.size (by simp; omega) (Ne.symm hvg))).trans ((World.frozen?_alloc_old wr _ _ (by show w.heap.size ≠ _; omega)).trans hfz))
          go_roundw
          case rel => exact ⟨j + 1, by omega, by go_num, by rw [revAt_succ nx k j (by rw [HNB.out]; exact HXL.out)]; exact S0.step HD.out hB HV.out HO2.out HM ((Below.refl _ _).alloc (Nat.le_refl _) _) hgrow hown1 ⟨gg, rfl, hat, hlt⟩⟩
          case measure => simp [intOf]; omega
        · obtain rfl : l.length = j := by omega
          have hfin : S0 n (revTo nx (k + 1)) w.heap.size w wr := by
            rw [← revAt_all, HNB.out]
            exact ⟨ds, hD, hB⟩
          have HF := Lib.hid hfin
          clear hfin hD
          go_wp2_with fail
          go_roundw
          case rel => exact ⟨k + 1, by omega, by go_num, HF.out⟩
          case measure => simp [intOf]; omega
    · obtain rfl : n = k := by omega
      obtain ⟨ds, hD, hB⟩ := hS
      rw [← HN.out, rev_preds nx HG.out] at hD
      clear hst
      go_wp2_with fail
      go_ret
      exact ⟨_, ds, rfl, hD, hB⟩
end Go.Proofs.YtdebnnigbbjbcaaDoor

namespace Go.Proofs.YtdebnnigbbjbcaaDoor
open Go Go.RowKit

def pcs (E : List (Nat × Nat)) : List Value := E.flatMap fun e => [nv e.1, nv e.2]
theorem pcs_len (E : List (Nat × Nat)) : (pcs E).length = E.length * 2 := by
  unfold pcs
  induction E with
  | nil => rfl
  | cons e es ih => simp [ih]; omega
theorem pcs_snoc (E : List (Nat × Nat)) (x y : Nat) : pcs (E ++ [(x, y)]) = pcs E ++ [nv x, nv y] := by simp [pcs]
theorem pcs_get (E : List (Nat × Nat)) : ∀ (j : Nat) (x y : Nat), E[j]? = some (x, y) → (pcs E)[j * 2]? = some (nv x) ∧ (pcs E)[j * 2 + 1]? = some (nv y) := by
  induction E with
  | nil => intro j x y h; cases h
  | cons e es ih =>
    intro j x y h
    have hp : pcs (e :: es) = nv e.1 :: nv e.2 :: pcs es := rfl
    cases j with
    | zero =>
      simp at h
      subst h
      rw [hp]
      exact ⟨rfl, rfl⟩
    | succ j =>
      have := ih j x y (by simpa using h)
      rw [hp, show (j + 1) * 2 = j * 2 + 1 + 1 by omega]
      simpa using this
/-- v is a slice of the call's own that holds the pairs E. -/
def OwnE (W : World) (lo : Nat) (v : Value) (E : List (Nat × Nat)) : Prop := W.ownsRow lo 39 2 v E.length (pcs E)
section
variable {W W' : World} {lo lo' : Nat} {v : Value} {E : List (Nat × Nat)}
theorem OwnE.keep (h : OwnE W lo v E) (hb : ∀ b, v.ownBlock = some b → W'.heap[b]? = W.heap[b]?) : OwnE W' lo v E := by
  refine ⟨h.1, ?_⟩
  rcases h.2 with h0 | ⟨g, cap, cur, rfl, h1, h2, h3⟩
  · exact .inl h0
  · exact .inr ⟨g, cap, cur, rfl, h1, (hb g rfl).trans h2, h3⟩
theorem OwnE.lt (h : OwnE W lo v E) : ∀ b, v.ownBlock = some b → lo ≤ b ∧ b < W.heap.size := World.ownsRow.lt h
theorem OwnE.below {B : Nat} (h : OwnE W lo v E) (hb : Below B W W') (hB : W.heap.size ≤ B) : OwnE W' lo v E := h.keep fun b hvb => hb.block b (Nat.lt_of_lt_of_le (h.lt b hvb).2 hB)
theorem OwnE.base_ (h : OwnE W lo v E) (hb : ∀ b, v.ownBlock = some b → lo' ≤ b) : OwnE W lo' v E := by
  refine ⟨h.1, ?_⟩
  rcases h.2 with h0 | ⟨g, cap, cur, rfl, h1, h2⟩
  · exact .inl h0
  · exact .inr ⟨g, cap, cur, rfl, hb g rfl, h2⟩
theorem OwnE.nil (W : World) (lo : Nat) : OwnE W lo (.slice none 0 0) [] := ⟨rfl, .inl ⟨rfl, rfl⟩⟩
theorem OwnE.slice (h : OwnE W lo v E) : ∃ A c, v = .slice A E.length c ∧ E.length ≤ c ∧ c ≤ maxLen := by
  rcases h.2 with ⟨h1, h2⟩ | ⟨g, cap, cur, rfl, _, _, h3, h4, _⟩
  · exact ⟨none, 0, by rw [h1, h2], by omega, by simp [maxLen]⟩
  · exact ⟨_, cap, rfl, h3, h4⟩
theorem OwnE.edg {A : Option Addr} {n c : Nat} (h : OwnE W lo (.slice A n c) E) : n = E.length ∧ Edg W W.heap.size A E.length E := by
  have hn : n = E.length := by
    obtain ⟨A', c', e, _, _⟩ := h.slice
    injection e
  refine ⟨hn, rfl, fun hm => ?_⟩
  rcases h.2 with ⟨_, e⟩ | ⟨g, cap, cur, e, h1, h2, h3, h4, h5, h6⟩
  · omega
  · injection e with e1 e2 e3
    subst e1
    refine ⟨g, 0, rfl, heap_lt h2, fun j x y hj => ?_⟩
    have hjl : j < E.length := by
      rcases Nat.lt_or_ge j E.length with h | h
      · exact h
      · rw [List.getElem?_eq_none h] at hj; cases hj
    have key : ∀ i u, i < E.length * 2 → (pcs E)[i]? = some u → W.cell? ⟨g, 0 + i, none⟩ = some u := fun i u hi hu => by
      rw [Nat.zero_add, cell_of_row W g i cur 39 (0, 0) h2]
      have e : (cur.toList.take (E.length * 2))[i]? = (pcs E)[i]? := by rw [h6]
      rw [List.getElem?_take_of_lt (by omega), Array.getElem?_toList, hu] at e
      exact e
    obtain ⟨g1, g2⟩ := pcs_get E j x y hj
    exact ⟨key _ _ (by omega) g1, by rw [Nat.add_assoc]; exact key _ _ (by omega) g2⟩
end
/-- What Edges makes of a number. -/
def edgeOf (k : Nat) (z : Int) : Nat × Nat := ((around z 1000000).toNat % k, (around z 1000000).toNat / 97 % k)
def edgesL (k : Nat) (zs : List Int) : List (Nat × Nat) := if k = 0 then [] else (zs.take 18).map (edgeOf k)
theorem edgesL_lt (k : Nat) (zs : List Int) : ∀ e ∈ edgesL k zs, e.1 < k ∧ e.2 < k := by
  intro e he
  unfold edgesL at he
  split at he
  · cases he
  · obtain ⟨z, _, rfl⟩ := List.mem_map.1 he
    exact ⟨Nat.mod_lt _ (by omega), Nat.mod_lt _ (by omega)⟩
theorem edgesL_len (k : Nat) (zs : List Int) : (edgesL k zs).length ≤ 18 := by
  unfold edgesL
  split
  · simp
  · simp; omega
theorem info_pair : (Tryd.prog.info? 39).map (fun i => (i.zero, i.size, i.bytes)) = some (some (.agg #[.int .i64 0, .int .i64 0]), 2, 16) := by kernel_rfl
theorem cells2_row (w : World) (a b : Value) (t : TypeId) : ∀ (j : Nat) (u : Value), [a, b][j]? = some u → (w.alloc (.cells #[a, b] t)).cell? ((⟨w.heap.size, 0, none⟩ : Addr).add j) = some u := by
  intro j u hu
  have hb : (w.alloc (.cells #[a, b] t)).heap[w.heap.size]? = some (.cells #[a, b] t (0, 0)) := World.alloc_heap_new w _
  exact World.news_of_block hb j u (by simpa using hu)

theorem wrap_i64_small (q : Nat) (h : q < 1000000) : IntKind.i64.wrap (q : Int) = (q : Int) := by
  simp [IntKind.wrap, IntKind.bits, IntKind.signed]
  omega
set_option maxRecDepth 100000 in
set_option maxHeartbeats 4000000 in
theorem edges_any (k n c : Nat) (A : Option Addr) (zs : List Int) (w : World) (hk : k ≤ 10) (hx : Ints .i64 w.heap.size w A n zs) (hz : ∀ z ∈ zs, I64 z) :
    Calls Tryd.prog 12 #[.int .i64 (k : Int), .slice A n c] w fun e w' => ∃ v, e = .returned v ∧ OwnE w' w.heap.size v (edgesL k zs) ∧ Below w.heap.size w w' := by
  obtain ⟨i0, hi0, hz0, hz1, hz2⟩ := info_parts info_pair
  have hlx := Lib.hid hx.len
  have HZ := Lib.hid hz
  clear hz
  go_enter Tryd.func12, Tryd.ntmps12
  go_wp2_with fail
  go_loopw [5, 6] (fun o i wr => ∃ j : Nat, j ≤ n ∧ j ≤ 18 ∧ i = .int .i64 j ∧ OwnE wr w.heap.size o ((zs.take j).map (edgeOf k)) ∧ (k = 0 → j = 0) ∧ Below w.heap.size w wr) (fun _ i _ => 18 - (intOf i).toNat)
  case atStart => exact ⟨0, Nat.zero_le _, by omega, rfl, OwnE.nil _ _, fun _ => rfl, Below.refl _ _⟩
  case round =>
    obtain ⟨j, hjn, hj18, rfl, hown, hk0j, hB⟩ := hrel
    obtain ⟨oA, oc, rfl, _, _⟩ := hown.slice
    obtain ⟨E, hE⟩ : ∃ E, (zs.take j).map (edgeOf k) = E := ⟨_, rfl⟩
    have hEl : E.length = j := by rw [← hE, List.length_map, List.length_take, hlx.out]; omega
    rw [hE, hEl] at hown ⊢
    have HE := Lib.hid hE
    have HO := Lib.hid hown
    have hsz := hB.size
    clear hE hown
    obtain ⟨wo, hwo⟩ : ∃ W, W = wr := ⟨_, rfl⟩
    subst hwo
    have hend : (n ≤ j ∨ 18 ≤ j ∨ k = 0) → edgesL k zs = E := fun h => by
      unfold edgesL
      rcases Nat.eq_zero_or_pos k with e | e
      · rw [if_pos e]
        have := hk0j e
        rw [← HE.out, this]
        rfl
      · rw [if_neg (by omega), ← HE.out]
        congr 1
        rcases h with h | h | h
        · rw [List.take_of_length_le (by rw [hlx.out]; omega), List.take_of_length_le (by rw [hlx.out]; omega)]
        · rw [show j = 18 by omega]
        · omega
    have HEND := Lib.hid hend
    clear hend hk0j
    by_cases h1 : j < n
    · by_cases h2 : j < 18
      · by_cases h3 : 0 < k
        · obtain ⟨b, off, rfl, hbl, hcs⟩ := hx.at_ (by omega)
          have hcj := (hB.cell (p := ⟨b, off + j, none⟩) hbl).trans (hcs j h1)
          obtain ⟨z, hz'⟩ : ∃ z, zs[j]?.getD 0 = z := ⟨_, rfl⟩
          rw [hz'] at hcj
          have hzl : zs[j]? = some z := by
            rw [List.getElem?_eq_getElem (by rw [hlx.out]; exact h1)] at hz' ⊢
            exact congrArg some hz'
          have hain := around_in z 1000000 (by omega)
          have HAR := Lib.hid (around_any z 1000000 (HZ.out z (List.mem_of_getElem? hzl)) (by omega) (by omega) wo)
          obtain ⟨a, ha⟩ := Int.eq_ofNat_of_zero_le hain.1
          have han : a < 1000000 := by omega
          obtain ⟨x, hx'⟩ : ∃ x, a % k = x := ⟨_, rfl⟩
          obtain ⟨q, hq⟩ : ∃ q, a / 97 = q := ⟨_, rfl⟩
          obtain ⟨y, hy⟩ : ∃ y, q % k = y := ⟨_, rfl⟩
          have hr1 : (a : Int).tmod (k : Int) = (x : Int) := by rw [← hx']; rfl
          have hr2 : (a : Int).tdiv 97 = (q : Int) := by rw [← hq]; rfl
          have hr3 : (q : Int).tmod (k : Int) = (y : Int) := by rw [← hy]; rfl
          have hkz : ((k : Int) == 0) = false := by simp; omega
          have hkz2 : ¬ k = 0 := by omega
          have hwq : IntKind.i64.wrap (q : Int) = (q : Int) := wrap_i64_small q (by rw [← hq]; omega)
          have HEO := Lib.hid (show edgeOf k z = (x, y) by unfold edgeOf; rw [ha, Int.toNat_natCast, hx', hq, hy])
          have HZL := Lib.hid hzl
          have hqs : q < 1000000 := by omega
          have hxs : x < 10 := by have := Nat.mod_lt a h3; omega
          have hys : y < 10 := by have := Nat.mod_lt q h3; omega
          rw [ha] at HAR
          have HOA := Lib.hid (show ((wo.alloc (.cells #[nv x, nv y] 39)).drew).ownsRow w.heap.size 39 2 (.slice oA j oc) j (pcs E) from by
            have h4 := HO.out.keep (W' := (wo.alloc (.cells #[nv x, nv y] 39)).drew) (fun b hb => Below.heap_alloc wo _ b (HO.out.lt b hb).2)
            unfold OwnE at h4
            rw [hEl] at h4
            exact h4)
          clear hcs hz' hzl ha hx' hq hy hain
          go_wp2_with (go_at_call 18
                       refine HAR.out.mono ?_
                       rintro e w2 ⟨rfl, rfl⟩)
          go_region_law (refine step_append_lies _ rfl (.tmp 27) (.tmp 36) 24 rfl w.heap.size 39 i0 _ 2 16 Tryd.underlying24 hi0 hz0 hz1 hz2 rfl (by decide) (.slice oA j oc) j _ (by simp [Act.eval]) HOA.out ⟨wo.heap.size, 0, none⟩ 1 1 [_, _] (by simp [Act.eval]) rfl (fun j u hu => cells2_row wo _ _ _ j u hu) (by simp [Value.oneCell']) (by decide) (by simp only [maxLen]; omega) (by omega) (by simp; omega) _ rfl ?_; intro g4 c4 w4 hown4 hgrow4 hor4 _)
          all_goals
            have hB4 := (((hB.alloc hsz (.cells #[nv x, nv y] 39)).drew).grown hgrow4 (by show w.heap.size ≤ (wo.alloc _).heap.size; simp; omega) (fun b e => (HO.out.lt b e).1))
            have hown5 : OwnE w4 w.heap.size (.slice (some ⟨g4, 0, none⟩) (j + 1) c4) (E ++ [(x, y)]) := by
              unfold OwnE
              rw [pcs_snoc, List.length_append, hEl]
              exact hown4
            have HO5 := Lib.hid hown5
            clear hown4 hown5 hgrow4 hor4
            go_wp2_with fail
            go_roundw
            case rel => exact ⟨j + 1, by omega, by omega, by go_num, by rw [List.take_add_one, HZL.out, List.map_append, HE.out]; simp only [Option.toList, List.map_cons, List.map_nil, HEO.out]; exact HO5.out, fun h => by omega, hB4⟩
            case measure => simp [intOf]; omega
        · have HK := Lib.hid (show k = 0 by omega)
          go_wp2_with fail
          go_ret
          exact ⟨_, rfl, by rw [HEND.out (.inr (.inr HK.out))]; exact HO.out, hB⟩
      · go_wp2_with fail
        go_ret
        exact ⟨_, rfl, by rw [HEND.out (.inr (.inl (by omega)))]; exact HO.out, hB⟩
    · go_wp2_with fail
      go_ret
      exact ⟨_, rfl, by rw [HEND.out (.inl (by omega))]; exact HO.out, hB⟩
end Go.Proofs.YtdebnnigbbjbcaaDoor

namespace Go.Proofs.YtdebnnigbbjbcaaDoor
open Go Go.RowKit

/-- Block hb is the heap of the list l, its data in v. -/
structure Hp (W : World) (lo hb : Nat) (v : Value) (l : List Nat) : Prop where
  box : W.heap[hb]? = some (.cells #[v] 48 (0, 0))
  own : Own W lo v l
section
variable {W W' : World} {lo hb : Nat} {v : Value} {l : List Nat}
theorem Hp.cell (h : Hp W lo hb v l) : W.cell? ⟨hb, 0, none⟩ = some v := cell_of_row W hb 0 _ _ (0, 0) h.box
theorem Hp.free (h : Hp W lo hb v l) : W.frozen? ⟨hb, 0, none⟩ = false := by simp [World.frozen?, h.box]
theorem Hp.ne (h : Hp W lo hb v l) : v.ownBlock ≠ some hb := by
  rcases h.own.2 with ⟨rfl, _⟩ | ⟨g, cap, cur, rfl, _, h2, _⟩
  · simp [Value.ownBlock]
  · intro e
    have e : g = hb := by simpa [Value.ownBlock] using e
    subst e
    exact heapT_ne h.box h2 (by decide) rfl
theorem Hp.lt (h : Hp W lo hb v l) : hb < W.heap.size := heap_lt h.box
theorem Hp.keep (h : Hp W lo hb v l) (hk : ∀ b, b = hb ∨ v.ownBlock = some b → W'.heap[b]? = W.heap[b]?) : Hp W' lo hb v l :=
  ⟨(hk _ (.inl rfl)).trans h.box, h.own.keep fun b hb => hk b (.inr hb)⟩
theorem own_setCell {g c i x : Nat} (h : Own W lo (.slice (some ⟨g, 0, none⟩) l.length c) l) : Own (W.setCell ⟨g, i, none⟩ (nv x)) lo (.slice (some ⟨g, 0, none⟩) (l.set i x).length c) (l.set i x) := by
  rcases h.2 with ⟨e, _⟩ | ⟨g', cap, cur, e, h1, h2, h3, h4, h5, h6⟩
  · cases e
  · injection e with e1 e2 e3
    injection e1 with e1
    injection e1 with e1 e4
    subst e1 e3
    refine ⟨by simp, .inr ⟨g, c, cur.setIfInBounds i (nv x), by rw [List.length_set], h1, ?_, by rw [List.length_set]; exact h3, h4, by simpa using h5, ?_⟩⟩
    · simp only [World.setCell, Array.getElem?_modify]
      simp [h2]
    · rw [List.length_set, Array.toList_setIfInBounds, List.take_set, h6, List.map_set]
end
theorem hAt_cell {W : World} {lo g n c i : Nat} {l : List Nat} (h : Own W lo (.slice (some ⟨g, 0, none⟩) n c) l) (hi : i < l.length) : W.cell? ⟨g, i, none⟩ = some (.int .i64 (hAt l i : Int)) := h.cell hi

theorem hlen_any (lo hb : Nat) (v : Value) (l : List Nat) (w : World) (h : Hp w lo hb v l) :
    Calls Tryd.prog 31 #[.pointer (some ⟨hb, 0, none⟩)] w fun e w' => e = .returned (.int .i64 (l.length : Int)) ∧ w' = w := by
  have hc := h.cell
  obtain ⟨A, c, rfl, _, _⟩ := h.own.slice
  clear h
  go_enter Tryd.func31, Tryd.ntmps31
  go_wp2
  go_ret
  exact ⟨rfl, rfl⟩
set_option maxHeartbeats 1000000 in
theorem hless_any (lo hb i j : Nat) (v : Value) (l : List Nat) (w : World) (h : Hp w lo hb v l) (hi : i < l.length) (hj : j < l.length) :
    Calls Tryd.prog 119 #[.pointer (some ⟨hb, 0, none⟩), .int .i64 (i : Int), .int .i64 (j : Int)] w fun e w' => e = .returned (.bool (decide (hAt l i < hAt l j))) ∧ w' = w.drew := by
  have hc := h.cell
  obtain ⟨g, c, rfl, _, _, _, _⟩ := h.own.form (by omega)
  have c1 := hAt_cell h.own hi
  have c2 := hAt_cell h.own hj
  obtain ⟨a, ha⟩ : ∃ a, hAt l i = a := ⟨_, rfl⟩
  obtain ⟨b, hb'⟩ : ∃ b, hAt l j = b := ⟨_, rfl⟩
  rw [ha] at c1 ⊢
  rw [hb'] at c2 ⊢
  have hi0 : (0 : Int) ≤ (i : Int) := by omega
  have hi1 : (i : Int) < (l.length : Int) := by omega
  have hj0 : (0 : Int) ≤ (j : Int) := by omega
  have hj1 : (j : Int) < (l.length : Int) := by omega
  clear h ha hb'
  go_enter Tryd.func119, Tryd.ntmps119
  go_wp2
  go_region
  go_wp2
  go_ret
  exact ⟨rfl, rfl⟩
theorem swp_own {W : World} {lo g c i j : Nat} {l : List Nat} (h : Own W lo (.slice (some ⟨g, 0, none⟩) l.length c) l) : Own ((W.setCell ⟨g, i, none⟩ (nv (hAt l j))).setCell ⟨g, j, none⟩ (nv (hAt l i))) lo (.slice (some ⟨g, 0, none⟩) l.length c) (swp l i j) := by
  have h1 := own_setCell (i := i) (x := hAt l j) h
  have h2 := own_setCell (i := j) (x := hAt l i) h1
  rw [List.length_set, List.length_set] at h2
  exact h2
set_option maxHeartbeats 4000000 in
theorem hswap_any (lo hb i j : Nat) (v : Value) (l : List Nat) (w : World) (h : Hp w lo hb v l) (hi : i < l.length) (hj : j < l.length) :
    Calls Tryd.prog 122 #[.pointer (some ⟨hb, 0, none⟩), .int .i64 (i : Int), .int .i64 (j : Int)] w fun e w' => e = .returned (.tuple #[]) ∧ Hp w' lo hb v (swp l i j) ∧ Chg (fun b => v.ownBlock = some b) w w' := by
  have hc := h.cell
  have hne := h.ne
  have HH := Lib.hid h
  obtain ⟨g, c, rfl, _, _, _, _⟩ := h.own.form (by omega)
  have hgb : g ≠ hb := fun e => hne (by rw [e]; rfl)
  have c1 := hAt_cell h.own hi
  have c2 := hAt_cell h.own hj
  have c3 := h.own.frozen i
  have c4 := h.own.frozen j
  obtain ⟨a, ha⟩ : ∃ a, hAt l i = a := ⟨_, rfl⟩
  obtain ⟨b, hb'⟩ : ∃ b, hAt l j = b := ⟨_, rfl⟩
  rw [ha] at c1
  rw [hb'] at c2
  have HA := Lib.hid ha
  have HB := Lib.hid hb'
  have HNE := Lib.hid hgb
  have hi0 : (0 : Int) ≤ (i : Int) := by omega
  have hi1 : (i : Int) < (l.length : Int) := by omega
  have hj0 : (0 : Int) ≤ (j : Int) := by omega
  have hj1 : (j : Int) < (l.length : Int) := by omega
  have d4 : (w.setCell ⟨g, i, none⟩ (.int .i64 (b : Int))).frozen? ⟨g, j, none⟩ = false := by
    rw [World.frozen?_setCell]
    exact c4
  obtain ⟨u, d5⟩ : ∃ u, (w.setCell ⟨g, i, none⟩ (.int .i64 (b : Int))).cell? ⟨g, j, none⟩ = some u := by
    by_cases e : i = j
    · subst e
      exact ⟨_, World.cell?_setCell_same' _ _ _ (by rw [c1]; rfl)⟩
    · exact ⟨_, (World.cell?_setCell_other _ _ _ _ (by intro h; injection h with _ h; exact e h)).trans c2⟩
  clear h ha hb' hgb hne
  go_enter Tryd.func122, Tryd.ntmps122
  go_region
  go_wp2
  go_end0
  refine ⟨rfl, ⟨?_, ?_⟩, ?_⟩
  · exact (Below.heap_setCell _ _ _ hb (Ne.symm HNE.out)).trans ((Below.heap_setCell _ _ _ hb (Ne.symm HNE.out)).trans HH.out.box)
  · rw [← HA.out, ← HB.out]
    exact Own.keep (swp_own HH.out.own) fun _ _ => rfl
  · exact (((Chg.refl (fun b => (Value.slice (some ⟨g, 0, none⟩) l.length c).ownBlock = some b) w).setCell (p := ⟨g, i, none⟩) (fun _ => rfl) _).setCell (p := ⟨g, j, none⟩) (fun _ => rfl) _).drew
theorem far_kept {w w' : World} {g i : Nat} {v u : Value} {x : Value} {t : TypeId} (h : (w.alloc (.cells #[x] t)).drew.grownBy w' v.ownBlock) (hne : v.ownBlock ≠ some g) (hc : w.cell? ⟨g, i, none⟩ = some u) (hf : w.frozen? ⟨g, i, none⟩ = false) : w'.cell? ⟨g, i, none⟩ = some u ∧ w'.frozen? ⟨g, i, none⟩ = false := by
  have hlt := World.block_lt_of_cell? w _ hc
  have e : w'.heap[g]? = w.heap[g]? := (h.block g (by show g < (w.alloc _).heap.size; simp; exact Nat.lt_succ_of_lt hlt) (Ne.symm hne)).trans (Below.heap_alloc _ _ _ hlt)
  exact ⟨(World.cell?_of_block (w := w) e).trans hc, (World.frozen?_of_block (w := w) e).trans hf⟩
theorem own_alloc_drew {w : World} {lo : Nat} {v : Value} {l : List Nat} (h : Own w lo v l) (o : Obj) : (w.alloc o).drew.ownsRow lo 3 1 v l.length (l.map nv) := Own.keep (w' := (w.alloc o).drew) h fun b hb => Below.heap_alloc w o b (h.lt b hb).2
theorem hbox_set {W : World} {b : Nat} {v u : Value} (h : W.heap[b]? = some (.cells #[v] 48 (0, 0))) : (W.setCell ⟨b, 0, none⟩ u).heap[b]? = some (.cells #[u] 48 (0, 0)) := by
  simp only [World.setCell, Array.getElem?_modify]
  simp [h]
theorem push_done {w w4 : World} {lo hb n g4 c4 : Nat} {v : Value} {l : List Nat} (h : Hp w lo hb v l) (ho : w4.ownsRow lo 3 1 (.slice (some ⟨g4, 0, none⟩) (l.length + 1) c4) (l.length + 1) (l.map nv ++ [.int .i64 (n : Int)]))
    (hg : (w.alloc (.cells #[.int .i64 (n : Int)] 3)).drew.grownBy w4 v.ownBlock) (hor : v.ownBlock = some g4 ∨ g4 = (w.alloc (.cells #[.int .i64 (n : Int)] 3)).drew.heap.size) :
    ∃ v', Hp (w4.setCell ⟨hb, 0, none⟩ (.slice (some ⟨g4, 0, none⟩) (l.length + 1) c4)) lo hb v' (l ++ [n]) ∧ (∀ b, v'.ownBlock = some b → v.ownBlock = some b ∨ w.heap.size ≤ b) ∧ Chg (fun b => b = hb ∨ v.ownBlock = some b) w (w4.setCell ⟨hb, 0, none⟩ (.slice (some ⟨g4, 0, none⟩) (l.length + 1) c4)) := by
  have hlt := h.lt
  have hbig : (w.alloc (.cells #[.int .i64 (n : Int)] 3)).drew.heap.size = w.heap.size + 1 := by
    show (w.alloc _).heap.size = _
    simp
  have hne : g4 ≠ hb := by
    rcases hor with e | e
    · intro e2
      exact h.ne (by rw [e, e2])
    · omega
  have hbx : w4.heap[hb]? = w.heap[hb]? := (hg.block hb (by omega) (Ne.symm h.ne)).trans (Below.heap_alloc w _ hb hlt)
  refine ⟨_, ⟨hbox_set (hbx.trans h.box), ?_⟩, fun b hb' => ?_, ?_⟩
  · have h1 : Own w4 lo (.slice (some ⟨g4, 0, none⟩) (l.length + 1) c4) (l ++ [n]) := by
      unfold Own
      rw [List.length_append, List.map_append]
      exact ho
    exact h1.keep fun b hb' => Below.heap_setCell w4 _ _ b (by
      have e : g4 = b := by simpa [Value.ownBlock] using hb'
      show b ≠ hb
      omega)
  · have e : g4 = b := by simpa [Value.ownBlock] using hb'
    subst e
    rcases hor with e | e
    · exact .inl e
    · exact .inr (by omega)
  · refine Chg.setCell ?_ (fun _ => .inl rfl) _
    exact (((Chg.refl _ w).alloc _).drew).grown hg fun k hk _ => .inr hk
theorem assert_int (n : Int) : ∀ W : World, (Instr.typeAssert (.iface 3 (.int .i64 n)) 20 3 false).run Tryd.prog W = .ok (.int .i64 n) W := fun _ => by kernel_rfl
set_option maxHeartbeats 4000000 in
theorem hpush_any (lo hb n : Nat) (v : Value) (l : List Nat) (w : World) (h : Hp w lo hb v l) (hl : l.length ≤ 1000) (hlo : lo ≤ w.heap.size) :
    Calls Tryd.prog 121 #[.pointer (some ⟨hb, 0, none⟩), .iface 3 (.int .i64 (n : Int))] w fun e w' => e = .returned (.tuple #[]) ∧ ∃ v', Hp w' lo hb v' (l ++ [n]) ∧ (∀ b, v'.ownBlock = some b → v.ownBlock = some b ∨ w.heap.size ≤ b) ∧ Chg (fun b => b = hb ∨ v.ownBlock = some b) w w' := by
  obtain ⟨i0, hi0, hz0, hz1, hz2⟩ := info_parts info_int
  have hc := h.cell
  have hf := h.free
  have hne := h.ne
  have HH := Lib.hid h
  have HNE := Lib.hid hne
  have hlt := h.lt
  have hta := assert_int (n : Int)
  obtain ⟨A, c, rfl, _, _⟩ := h.own.slice
  clear h hne
  go_enter Tryd.func121, Tryd.ntmps121
  go_region_law (refine step_append_lies _ rfl (.tmp 8) (.tmp 11) 22 rfl lo 3 i0 _ 1 8 Tryd.underlying22 hi0 hz0 hz1 hz2 rfl (by decide) (.slice A l.length c) l.length _ (by simp [Act.eval]) (own_alloc_drew HH.out.own _) ⟨w.heap.size, 0, none⟩ 1 1 [_] (by simp [Act.eval]) rfl (fun j u hu => cell_one_new w _ _ j u hu) (by simp [Value.oneCell']) (by decide) (by simp only [maxLen]; omega) (by omega) (by simp; omega) _ rfl ?_; intro g4 c4 w4 hown4 hgrow4 hor4 _; have f1 := far_kept hgrow4 HNE.out hc hf)
  all_goals
    go_end0
    exact ⟨rfl, push_done HH.out hown4 hgrow4 hor4⟩
end Go.Proofs.YtdebnnigbbjbcaaDoor

namespace Go.Proofs.YtdebnnigbbjbcaaDoor
open Go Go.RowKit

set_option maxHeartbeats 1000000 in
theorem hpop_any (lo hb n : Nat) (v : Value) (l : List Nat) (w : World) (h : Hp w lo hb v l) (hl : l.length = n + 1) (hn : n ≤ 1000) :
    Calls Tryd.prog 120 #[.pointer (some ⟨hb, 0, none⟩)] w fun e w' => e = .returned (.iface 3 (.int .i64 (hAt l n : Int))) ∧ ∃ v', Hp w' lo hb v' (l.take n) ∧ v'.ownBlock = v.ownBlock ∧ Chg (fun b => b = hb) w w' := by
  have hc := h.cell
  have hf := h.free
  have HNE := Lib.hid h.ne
  have HH := Lib.hid h
  have hlen : (l.take n).length = n := by rw [List.length_take]; omega
  have h0 := h.own
  obtain ⟨g, c, rfl, hgl, hgw, hlc, hcm⟩ := h.own.form (by omega)
  have c1 := hAt_cell h.own (show n < l.length by omega)
  obtain ⟨a, ha⟩ : ∃ a, hAt l n = a := ⟨_, rfl⟩
  rw [ha] at c1 ⊢
  have hcut : Own w lo (.slice (some ⟨g, 0, none⟩) n c) (l.take n) := by
    rcases h0.2 with ⟨e, _⟩ | ⟨g', cap, cur, e, k1, k2, k3, k4, k5, k6⟩
    · cases e
    · injection e with e1 e2 e3
      injection e1 with e1
      injection e1 with e1 e4
      subst e1 e3
      refine ⟨by simp, .inr ⟨g, c, cur, by rw [hlen], k1, k2, by omega, k4, k5, ?_⟩⟩
      have k7 := congrArg (List.take n) k6
      rw [List.take_take, ← List.map_take, show min n (l.length * 1) = n by omega] at k7
      rw [hlen, Nat.mul_one]
      exact k7
  have HC := Lib.hid hcut
  rw [hl] at hc HNE
  have hn1 : ((n + 1 : Nat) : Int) - 1 = (n : Int) := by omega
  have hlc' : n + 1 ≤ c := by omega
  clear h ha hcut h0
  go_enter Tryd.func120, Tryd.ntmps120
  go_wp2
  go_ret
  have hgb : ∀ b, some g = some b → b ≠ hb := fun b e e2 => HNE.out (by
    show some g = some hb
    rw [e, e2])
  exact ⟨rfl, _, ⟨hbox_set HH.out.box, HC.out.keep fun b hb' => Below.heap_setCell w _ _ b (hgb b hb')⟩, rfl, (Chg.refl (fun b => b = hb) w).setCell (p := ⟨hb, 0, none⟩) (fun _ => rfl) _⟩

/-- The heap as an interface value. -/
def hIf (hb : Nat) : Value := .iface 50 (.pointer (some ⟨hb, 0, none⟩))
/- 245: the program's 145 types and 100. -/
theorem na_less (hb : Nat) : ∀ W : World, (nilAhead 245 50 (.pointer (some ⟨hb, 0, none⟩)) "Less").run Tryd.prog W = .ok (some false) W := fun _ => by kernel_rfl
theorem na_swap (hb : Nat) : ∀ W : World, (nilAhead 245 50 (.pointer (some ⟨hb, 0, none⟩)) "Swap").run Tryd.prog W = .ok (some false) W := fun _ => by kernel_rfl
theorem na_len (hb : Nat) : ∀ W : World, (nilAhead 245 50 (.pointer (some ⟨hb, 0, none⟩)) "Len").run Tryd.prog W = .ok (some false) W := fun _ => by kernel_rfl
theorem na_push (hb : Nat) : ∀ W : World, (nilAhead 245 50 (.pointer (some ⟨hb, 0, none⟩)) "Push").run Tryd.prog W = .ok (some false) W := fun _ => by kernel_rfl
theorem na_pop (hb : Nat) : ∀ W : World, (nilAhead 245 50 (.pointer (some ⟨hb, 0, none⟩)) "Pop").run Tryd.prog W = .ok (some false) W := fun _ => by kernel_rfl
theorem me_less (hb : Nat) : ∀ W : World, (method 245 50 (.pointer (some ⟨hb, 0, none⟩)) "Less").run Tryd.prog W = .ok (119, .pointer (some ⟨hb, 0, none⟩)) W := fun _ => by kernel_rfl
theorem me_swap (hb : Nat) : ∀ W : World, (method 245 50 (.pointer (some ⟨hb, 0, none⟩)) "Swap").run Tryd.prog W = .ok (122, .pointer (some ⟨hb, 0, none⟩)) W := fun _ => by kernel_rfl
theorem me_len (hb : Nat) : ∀ W : World, (method 245 50 (.pointer (some ⟨hb, 0, none⟩)) "Len").run Tryd.prog W = .ok (31, .pointer (some ⟨hb, 0, none⟩)) W := fun _ => by kernel_rfl
theorem me_push (hb : Nat) : ∀ W : World, (method 245 50 (.pointer (some ⟨hb, 0, none⟩)) "Push").run Tryd.prog W = .ok (121, .pointer (some ⟨hb, 0, none⟩)) W := fun _ => by kernel_rfl
theorem me_pop (hb : Nat) : ∀ W : World, (method 245 50 (.pointer (some ⟨hb, 0, none⟩)) "Pop").run Tryd.prog W = .ok (120, .pointer (some ⟨hb, 0, none⟩)) W := fun _ => by kernel_rfl
set_option maxHeartbeats 4000000 in
theorem up_any (lo hb j : Nat) (v : Value) (l : List Nat) (w : World) (h : Hp w lo hb v l) (hj : j < l.length) (hl : l.length ≤ 1000) (hu : UpTo l j) :
    Calls Tryd.prog 46 #[hIf hb, .int .i64 (j : Int)] w fun e w' => e = .returned (.tuple #[]) ∧ ∃ l', Hp w' lo hb v l' ∧ l'.Perm l ∧ IsHeap l' l'.length ∧ Chg (fun b => v.ownBlock = some b) w w' := by
  unfold hIf
  have HH := Lib.hid h
  have HU := Lib.hid hu
  have n1 := na_less hb
  have n2 := na_swap hb
  have m1 := me_less hb
  have m2 := me_swap hb
  clear h hu
  go_enter Tryd.func46, Tryd.ntmps46
  go_wp2_with fail
  go_loopw [1] (fun i wr => ∃ (k : Nat) (m : List Nat), i = .int .i64 (k : Int) ∧ Hid (k < m.length ∧ m.length = l.length) ∧ Hp wr lo hb v m ∧ m.Perm l ∧ UpTo m k ∧ Chg (fun b => v.ownBlock = some b) w wr) (fun i _ => (intOf i).toNat)
  case atStart => exact ⟨j, l, rfl, ⟨hj, rfl⟩, HH.out, List.Perm.refl _, HU.out, Chg.refl _ _⟩
  case round =>
    obtain ⟨k, m, rfl, hkm, hp, hperm, hut, hch⟩ := hrel
    have HP := Lib.hid hp
    have HPERM := Lib.hid hperm
    have HUT := Lib.hid hut
    have hk1 := hkm.out.1
    have hk2 := hkm.out.2
    clear hp hperm hut
    rcases Nat.eq_zero_or_pos k with e | e
    · subst e
      go_wp2_with fail
      go_end0
      exact ⟨rfl, m, HP.out, HPERM.out, up_done HUT.out (.inl rfl), hch⟩
    · obtain ⟨q, hq⟩ : ∃ q, (k - 1) / 2 = q := ⟨_, rfl⟩
      have hdiv : ((k : Int) - 1).tdiv 2 = (q : Int) := by
        rw [Int.tdiv_eq_ediv_of_nonneg (by omega)]
        omega
      have hne : ((q : Int) == (k : Int)) = false := by simp; omega
      have HQ := Lib.hid hq
      have hql : q < m.length := by omega
      have HL := Lib.hid (hless_any lo hb k q v m wr HP.out hk1 hql)
      by_cases hlt : hAt m k < hAt m q
      · rw [decide_eq_true hlt] at HL
        have HS := Lib.hid (hswap_any lo hb q k v m wr.drew (HP.out.keep fun _ _ => rfl) hql hk1)
        go_wp2_with (first
          | (go_at_call 119; refine HL.out.mono ?_; rintro e w1 ⟨rfl, rfl⟩)
          | (go_at_call 122; refine HS.out.mono ?_; rintro e w2 ⟨rfl, hp2, hc2⟩))
        go_roundw
        case rel => exact ⟨q, swp m q k, rfl, ⟨by rw [swp_len]; exact hql, by rw [swp_len]; exact hk2⟩, hp2, (swp_perm m hql hk1).trans HPERM.out, up_round HUT.out HQ.out (by omega) hk1 hlt, hch.drew.trans hc2 (fun _ _ h => h)⟩
        case measure => simp [intOf]; omega
      · rw [decide_eq_false hlt] at HL
        go_wp2_with (go_at_call 119; refine HL.out.mono ?_; rintro e w1 ⟨rfl, rfl⟩)
        go_end0
        exact ⟨rfl, m, HP.out.keep fun _ _ => rfl, HPERM.out, up_done HUT.out (.inr (by rw [HQ.out]; omega)), hch.drew⟩
end Go.Proofs.YtdebnnigbbjbcaaDoor

namespace Go.Proofs.YtdebnnigbbjbcaaDoor
open Go Go.RowKit

set_option maxHeartbeats 4000000 in
theorem down_any (lo hb n : Nat) (v : Value) (l : List Nat) (w : World) (h : Hp w lo hb v l) (hnl : n ≤ l.length) (hl : l.length ≤ 1000) (hd : DownTo l 0 n) :
    Calls Tryd.prog 47 #[hIf hb, .int .i64 0, .int .i64 (n : Int)] w fun e w' => ∃ b, e = .returned (.bool b) ∧ ∃ l', Hp w' lo hb v l' ∧ l'.Perm l ∧ IsHeap l' n ∧ (∀ x, n ≤ x → hAt l' x = hAt l x) ∧ Chg (fun b => v.ownBlock = some b) w w' := by
  unfold hIf
  have HH := Lib.hid h
  have HU := Lib.hid hd
  have n1 := na_less hb
  have n2 := na_swap hb
  have m1 := me_less hb
  have m2 := me_swap hb
  clear h hd
  go_enter Tryd.func47, Tryd.ntmps47
  go_wp2_with fail
  go_loopw [7] (fun i wr => ∃ (k : Nat) (m : List Nat), i = .int .i64 (k : Int) ∧ Hid (k ≤ n ∧ m.length = l.length) ∧ Hp wr lo hb v m ∧ m.Perm l ∧ (∀ x, n ≤ x → hAt m x = hAt l x) ∧ DownTo m k n ∧ Chg (fun b => v.ownBlock = some b) w wr) (fun i _ => n - (intOf i).toNat)
  case atStart => exact ⟨0, l, rfl, ⟨Nat.zero_le _, rfl⟩, HH.out, List.Perm.refl _, fun _ _ => rfl, HU.out, Chg.refl _ _⟩
  case round =>
    obtain ⟨k, m, rfl, hkm, hp, hperm, hkeep, hdt, hch⟩ := hrel
    have HP := Lib.hid hp
    have HPERM := Lib.hid hperm
    have HD := Lib.hid hdt
    have HKEEP := Lib.hid hkeep
    have HCH := Lib.hid hch
    have hkn := hkm.out.1
    have hml := hkm.out.2
    clear hp hperm hdt hkeep hch
    obtain ⟨a, ha⟩ : ∃ a, 2 * k + 1 = a := ⟨_, rfl⟩
    obtain ⟨b, hb'⟩ : ∃ b, a + 1 = b := ⟨_, rfl⟩
    have hja : 2 * (k : Int) + 1 = (a : Int) := by omega
    have hjb : (a : Int) + 1 = (b : Int) := by omega
    rcases Nat.lt_or_ge a n with han | han
    · rcases Nat.lt_or_ge b n with hbn | hbn
      · have HL1 := Lib.hid (hless_any lo hb b a v m wr HP.out (by omega) (by omega))
        by_cases hba : hAt m b < hAt m a
        · rw [decide_eq_true hba] at HL1
          have HMIN := Lib.hid (show ∀ x, x = 2 * k + 1 ∨ x = 2 * k + 2 → x < n → hAt m b ≤ hAt m x from fun x hx _ => by
            rcases hx with rfl | rfl
            · rw [ha]; omega
            · rw [show 2 * k + 2 = b by omega]; exact Nat.le_refl _)
          have HL2 := Lib.hid (hless_any lo hb b k v m wr.drew (HP.out.keep fun _ _ => rfl) (by omega) (by omega))
          have HS := Lib.hid (hswap_any lo hb k b v m wr.drew.drew (HP.out.keep fun _ _ => rfl) (by omega) (by omega))
          by_cases hlt : hAt m b < hAt m k
          · rw [decide_eq_true hlt] at HL2
            go_wp2_with (first
              | (go_at_call 119; refine HL1.out.mono ?_; rintro e w0 ⟨rfl, rfl⟩; clear HL1)
              | (go_at_call 119; refine HL2.out.mono ?_; rintro e w1 ⟨rfl, rfl⟩)
              | (go_at_call 122; refine HS.out.mono ?_; rintro e w2 ⟨rfl, hp2, hc2⟩))
            go_roundw
            case rel => exact ⟨b, swp m k b, rfl, ⟨by omega, by rw [swp_len]; exact hml⟩, hp2, (swp_perm m (by omega) (by omega)).trans HPERM.out, fun x hx => by rw [hAt_swp m x (by omega) (by omega), if_neg (by omega), if_neg (by omega)]; exact HKEEP.out x hx, down_round HD.out (by omega) (by omega) (.inr (by omega)) hlt HMIN.out, HCH.out.drew.drew.trans hc2 (fun _ _ h => h)⟩
            case measure => simp [intOf]; omega
          · rw [decide_eq_false hlt] at HL2
            go_wp2_with (first
              | (go_at_call 119; refine HL1.out.mono ?_; rintro e w0 ⟨rfl, rfl⟩; clear HL1)
              | (go_at_call 119; refine HL2.out.mono ?_; rintro e w1 ⟨rfl, rfl⟩))
            go_ret
            exact ⟨_, rfl, m, HP.out.keep fun _ _ => rfl, HPERM.out, down_done HD.out (fun x hx hxn => by have := HMIN.out x hx hxn; omega), HKEEP.out, HCH.out.drew.drew⟩
        · rw [decide_eq_false hba] at HL1
          have HMIN := Lib.hid (show ∀ x, x = 2 * k + 1 ∨ x = 2 * k + 2 → x < n → hAt m a ≤ hAt m x from fun x hx _ => by
            rcases hx with rfl | rfl
            · rw [ha]; exact Nat.le_refl _
            · rw [show 2 * k + 2 = b by omega]; omega)
          have HL2 := Lib.hid (hless_any lo hb a k v m wr.drew (HP.out.keep fun _ _ => rfl) (by omega) (by omega))
          have HS := Lib.hid (hswap_any lo hb k a v m wr.drew.drew (HP.out.keep fun _ _ => rfl) (by omega) (by omega))
          by_cases hlt : hAt m a < hAt m k
          · rw [decide_eq_true hlt] at HL2
            go_wp2_with (first
              | (go_at_call 119; refine HL1.out.mono ?_; rintro e w0 ⟨rfl, rfl⟩; clear HL1)
              | (go_at_call 119; refine HL2.out.mono ?_; rintro e w1 ⟨rfl, rfl⟩)
              | (go_at_call 122; refine HS.out.mono ?_; rintro e w2 ⟨rfl, hp2, hc2⟩))
            go_roundw
            case rel => exact ⟨a, swp m k a, rfl, ⟨by omega, by rw [swp_len]; exact hml⟩, hp2, (swp_perm m (by omega) (by omega)).trans HPERM.out, fun x hx => by rw [hAt_swp m x (by omega) (by omega), if_neg (by omega), if_neg (by omega)]; exact HKEEP.out x hx, down_round HD.out (by omega) (by omega) (.inl (by omega)) hlt HMIN.out, HCH.out.drew.drew.trans hc2 (fun _ _ h => h)⟩
            case measure => simp [intOf]; omega
          · rw [decide_eq_false hlt] at HL2
            go_wp2_with (first
              | (go_at_call 119; refine HL1.out.mono ?_; rintro e w0 ⟨rfl, rfl⟩; clear HL1)
              | (go_at_call 119; refine HL2.out.mono ?_; rintro e w1 ⟨rfl, rfl⟩))
            go_ret
            exact ⟨_, rfl, m, HP.out.keep fun _ _ => rfl, HPERM.out, down_done HD.out (fun x hx hxn => by have := HMIN.out x hx hxn; omega), HKEEP.out, HCH.out.drew.drew⟩
      · have HMIN := Lib.hid (show ∀ x, x = 2 * k + 1 ∨ x = 2 * k + 2 → x < n → hAt m a ≤ hAt m x from fun x hx hxn => by
          rcases hx with rfl | rfl
          · rw [ha]; exact Nat.le_refl _
          · omega)
        have HL2 := Lib.hid (hless_any lo hb a k v m wr (HP.out.keep fun _ _ => rfl) (by omega) (by omega))
        have HS := Lib.hid (hswap_any lo hb k a v m wr.drew (HP.out.keep fun _ _ => rfl) (by omega) (by omega))
        by_cases hlt : hAt m a < hAt m k
        · rw [decide_eq_true hlt] at HL2
          go_wp2_with (first
            | (go_at_call 119; refine HL2.out.mono ?_; rintro e w1 ⟨rfl, rfl⟩)
            | (go_at_call 122; refine HS.out.mono ?_; rintro e w2 ⟨rfl, hp2, hc2⟩))
          go_roundw
          case rel => exact ⟨a, swp m k a, rfl, ⟨by omega, by rw [swp_len]; exact hml⟩, hp2, (swp_perm m (by omega) (by omega)).trans HPERM.out, fun x hx => by rw [hAt_swp m x (by omega) (by omega), if_neg (by omega), if_neg (by omega)]; exact HKEEP.out x hx, down_round HD.out (by omega) (by omega) (.inl (by omega)) hlt HMIN.out, HCH.out.drew.trans hc2 (fun _ _ h => h)⟩
          case measure => simp [intOf]; omega
        · rw [decide_eq_false hlt] at HL2
          go_wp2_with (first
            | (go_at_call 119; refine HL2.out.mono ?_; rintro e w1 ⟨rfl, rfl⟩))
          go_ret
          exact ⟨_, rfl, m, HP.out.keep fun _ _ => rfl, HPERM.out, down_done HD.out (fun x hx hxn => by have := HMIN.out x hx hxn; omega), HKEEP.out, HCH.out.drew⟩
    · go_wp2_with fail
      go_ret
      exact ⟨_, rfl, m, HP.out, HPERM.out, down_done HD.out (fun x hx hxn => by omega), HKEEP.out, HCH.out⟩
end Go.Proofs.YtdebnnigbbjbcaaDoor

namespace Go.Proofs.YtdebnnigbbjbcaaDoor
open Go Go.RowKit

set_option maxHeartbeats 4000000 in
theorem heapPush_any (lo hb n : Nat) (v : Value) (l : List Nat) (w : World) (h : Hp w lo hb v l) (hh : IsHeap l l.length) (hl : l.length ≤ 900) (hlo : lo ≤ w.heap.size) :
    Calls Tryd.prog 30 #[hIf hb, .iface 3 (.int .i64 (n : Int))] w fun e w' => e = .returned (.tuple #[]) ∧ ∃ v' l', Hp w' lo hb v' l' ∧ l'.Perm (l ++ [n]) ∧ IsHeap l' l'.length ∧ (∀ b, v'.ownBlock = some b → v.ownBlock = some b ∨ w.heap.size ≤ b) ∧ Chg (fun b => b = hb ∨ v.ownBlock = some b) w w' := by
  have HPU := Lib.hid (hpush_any lo hb n v l w h (by omega) hlo)
  have HH := Lib.hid hh
  have n1 := na_push hb
  have n2 := na_len hb
  have m1 := me_push hb
  have m2 := me_len hb
  have hjl : (l.length : Int) + 1 - 1 = (l.length : Int) := by omega
  unfold hIf
  clear h hh
  go_enter Tryd.func30, Tryd.ntmps30
  go_wp2_with (first
    | (go_at_call 121
       refine HPU.out.mono ?_
       rintro e w1 ⟨rfl, v1, hp1, hb1, hc1⟩
       have HLE := Lib.hid (hlen_any lo hb v1 _ w1 hp1)
       rw [show (((l ++ [n]).length : Nat) : Int) = (l.length : Int) + 1 by simp] at HLE
       have HUP := Lib.hid (up_any lo hb l.length v1 (l ++ [n]) w1 hp1 (by simp) (by simp; omega) (up_start l n HH.out))
       unfold hIf at HUP
       have HB1 := Lib.hid hb1
       have HC1 := Lib.hid hc1
       clear hp1 hb1 hc1)
    | (go_at_call 31
       refine HLE.out.mono ?_
       rintro e w2 ⟨rfl, rfl⟩)
    | (go_at_call 46
       refine HUP.out.mono ?_
       rintro e w3 ⟨rfl, l', hp3, hq3, hh3, hc3⟩
       have HP3 := Lib.hid hp3
       have HQ3 := Lib.hid hq3
       have HH3 := Lib.hid hh3
       have HC3 := Lib.hid hc3
       clear hp3 hq3 hh3 hc3))
  go_end0
  exact ⟨rfl, v1, l', HP3.out, HQ3.out, HH3.out, HB1.out, HC1.out.trans HC3.out fun x hx hxv => .inr (by
    rcases HB1.out x hxv with e | e
    · exact e
    · omega)⟩
set_option maxHeartbeats 4000000 in
theorem heapPop_any (lo hb n : Nat) (v : Value) (l : List Nat) (w : World) (h : Hp w lo hb v l) (hh : IsHeap l l.length) (hl : l.length = n + 1) (hn : n ≤ 900) :
    Calls Tryd.prog 32 #[hIf hb] w fun e w' => e = .returned (.iface 3 (.int .i64 (hAt l 0 : Int))) ∧ ∃ v' l', Hp w' lo hb v' l' ∧ (hAt l 0 :: l').Perm l ∧ IsHeap l' l'.length ∧ v'.ownBlock = v.ownBlock ∧ Chg (fun b => b = hb ∨ v.ownBlock = some b) w w' := by
  have HLE := Lib.hid (hlen_any lo hb v l w h)
  rw [hl, show (((n + 1 : Nat)) : Int) = (n : Int) + 1 by simp] at HLE
  have HSW := Lib.hid (hswap_any lo hb 0 n v l w h (by omega) (by omega))
  have HH := Lib.hid hh
  have n1 := na_pop hb
  have n2 := na_len hb
  have n3 := na_swap hb
  have m1 := me_pop hb
  have m2 := me_len hb
  have m3 := me_swap hb
  have hjl : (n : Int) + 1 - 1 = (n : Int) := by omega
  unfold hIf
  clear h hh
  go_enter Tryd.func32, Tryd.ntmps32
  go_wp2_with (first
    | (go_at_call 31
       refine HLE.out.mono ?_
       rintro e w2 ⟨rfl, rfl⟩)
    | (go_at_call 122
       refine HSW.out.mono ?_
       rintro e w3 ⟨rfl, hp3, hc3⟩
       have HDO := Lib.hid (down_any lo hb n v (swp l 0 n) w3 hp3 (by rw [swp_len]; omega) (by rw [swp_len]; omega) (down_start HH.out hl))
       unfold hIf at HDO
       have HC3 := Lib.hid hc3
       clear hp3 hc3)
    | (go_at_call 47
       refine HDO.out.mono ?_
       rintro e w4 ⟨b4, rfl, l4, hp4, hq4, hh4, hk4, hc4⟩
       have hl4 : l4.length = n + 1 := by rw [hq4.length_eq, swp_len]; exact hl
       have hr4 : hAt l4 n = hAt l 0 := by rw [hk4 n (Nat.le_refl _), hAt_swp l n (by omega) (by omega), if_pos rfl]
       have HPO := Lib.hid (hpop_any lo hb n v l4 w4 hp4 hl4 (by omega))
       rw [hr4] at HPO
       have HQ4 := Lib.hid hq4
       have HH4 := Lib.hid hh4
       have HR4 := Lib.hid hr4
       have HC4 := Lib.hid hc4
       clear hp4 hq4 hh4 hk4 hc4 hr4)
    | (go_at_call 120
       refine HPO.out.mono ?_
       rintro e w5 ⟨rfl, v5, hp5, hv5, hc5⟩
       have HP5 := Lib.hid hp5
       have HC5 := Lib.hid hc5
       clear hp5 hc5))
  go_ret
  refine ⟨rfl, v5, _, HP5.out, ?_, heap_take HH4.out (by omega), hv5, ((HC3.out.mono (fun _ _ h => .inr h)).trans HC4.out (fun _ _ h => .inr h)).trans HC5.out (fun _ _ h => .inl h)⟩
  have h1 := last_take hl4
  rw [HR4.out] at h1
  have h2 : (hAt l 0 :: l4.take n).Perm l4 := by
    conv => rhs; rw [h1]
    exact (List.perm_append_singleton _ _).symm
  exact h2.trans (HQ4.out.trans (swp_perm l (by omega) (by omega)))
end Go.Proofs.YtdebnnigbbjbcaaDoor
