/-
  The contract of the search's closures: what visit and leave do to memory is what 'dfs' does to lists.
  The contract of depthFirst: the closure that it hands back, and what lies in memory then. Condition: the graph lies below, the closure's list is empty.
-/
import Derived.Test.YtlgdcbhdmffnoaaDoorK25
import Derived.Test.YtlgdcbhdmffnoaaDoorK27
import Derived.Shelf.Abstract

namespace Go.Proofs.YtlgdcbhdmffnoaaDoor
open Go Go.RowKit

/-- What the search only reads: four boxes and the graph, all below block M. -/
structure Env (W : World) (M lo hi g bv gv bn bs bl L B c : Nat) (cs : Array Value) (nx : List (List Nat)) : Prop where
  rows : Rows2 W lo hi g cs nx
  hi_ : hi ≤ M
  cv : W.heap[bv]? = some (.cells #[.slice (some ⟨gv, 0, none⟩) nx.length nx.length] 76 (0, 0))
  cn : W.heap[bn]? = some (.cells #[.slice (some ⟨g, 0, none⟩) nx.length c] 56 (0, 0))
  csb : W.heap[bs]? = some (.cells #[.func (.func 73) #[] #[.pointer (some ⟨bv, 0, none⟩), .pointer (some ⟨bn, 0, none⟩), .pointer (some ⟨bs, 0, none⟩), .pointer (some ⟨bl, 0, none⟩)]] 73 (0, 0))
  cl : W.heap[bl]? = some (.cells #[.func (.func L) #[] #[.pointer (some ⟨B, 0, none⟩)]] 73 (0, 0))
  below : bv < M ∧ bn < M ∧ bs < M ∧ bl < M ∧ gv < M ∧ B < M
  apart : bv ≠ gv ∧ bn ≠ gv ∧ bs ≠ gv ∧ bl ≠ gv ∧ bv ≠ B ∧ bn ≠ B ∧ bs ≠ B ∧ bl ≠ B ∧ gv ≠ B ∧ (gv < lo ∨ hi ≤ gv) ∧ (B < lo ∨ hi ≤ B)
/-- Which blocks a search may turn. -/
def May (M gv B : Nat) (b : Nat) : Prop := b = gv ∨ b = B ∨ M ≤ b
/-- The box B holds a row of the naturals out, that lies at M or later. -/
def Boxl (W : World) (M B : Nat) (out : List Nat) : Prop := ∃ sv, W.heap[B]? = some (.cells #[sv] 22 (0, 0)) ∧ Own W M sv out
/-- What the search turns. -/
structure Dyn (W : World) (M gv B : Nat) (s : List Bool × List Nat) : Prop where
  vis : W.heap[gv]? = some (.cells (s.1.map Value.bool).toArray 4 (0, 0))
  out : Boxl W M B s.2
  size : M ≤ W.heap.size
theorem Env.chg {W W' : World} {M lo hi g bv gv bn bs bl L B c : Nat} {cs : Array Value} {nx : List (List Nat)} (h : Env W M lo hi g bv gv bn bs bl L B c cs nx) (hc : Chg (May M gv B) W W') (hM : M ≤ W.heap.size) : Env W' M lo hi g bv gv bn bs bl L B c cs nx := by
  obtain ⟨b1, b2, b3, b4, b5, b6⟩ := h.below
  obtain ⟨a1, a2, a3, a4, a5, a6, a7, a8, a9, a10, a11⟩ := h.apart
  have key : ∀ b, b < M → b ≠ gv → b ≠ B → W'.heap[b]? = W.heap[b]? := fun b h1 h2 h3 => hc.block b (by omega) (by rintro (h | h | h) <;> omega)
  have hh := h.hi_
  exact ⟨h.rows.keep fun b h1 h2 => key b (by omega) (by omega) (by omega), h.hi_, (key _ b1 a1 a5).trans h.cv, (key _ b2 a2 a6).trans h.cn, (key _ b3 a3 a7).trans h.csb, (key _ b4 a4 a8).trans h.cl, h.below, h.apart⟩

/-- What is asked of the closure that is called when a vertex is left. -/
def LeaveOk (L : Nat) : Prop := ∀ (M B v : Nat) (out : List Nat) (W : World), Boxl W M B out → B < M → M ≤ W.heap.size → out.length ≤ 10000 →
  Calls Tryd.prog L #[.int .i64 (v : Int), .pointer (some ⟨B, 0, none⟩)] W fun e W' => e = .returned (.tuple #[]) ∧ Boxl W' M B (out ++ [v]) ∧ Chg (fun b => b = B ∨ M ≤ b) W W'

theorem leave_end {M B v g c : Nat} {out : List Nat} {W w1 : World} {sv : Value} {o : Obj} (hb : W.heap[B]? = some (.cells #[sv] 22 (0, 0))) (ho : Own W M sv out) (hB : B < M) (hM : M ≤ W.heap.size)
    (hown : w1.ownsRow M 3 1 (.slice (some ⟨g, 0, none⟩) (out.length + 1) c) (out.length + 1) (out.map nv ++ [.int .i64 (v : Int)])) (hg : (W.alloc o).grownBy w1 sv.ownBlock) :
    Boxl (w1.setCell ⟨B, 0, none⟩ (.slice (some ⟨g, 0, none⟩) (out.length + 1) c)) M B (out ++ [v]) ∧ Chg (fun b => b = B ∨ M ≤ b) W (w1.setCell ⟨B, 0, none⟩ (.slice (some ⟨g, 0, none⟩) (out.length + 1) c)) := by
  have hlt := ho.lt
  have hsv : some B ≠ sv.ownBlock := fun e => by have := (hlt B e.symm).1; omega
  have hown' : Own w1 M (.slice (some ⟨g, 0, none⟩) (out.length + 1) c) (out ++ [v]) := by
    unfold Own
    rw [List.length_append, List.map_append]
    exact hown
  have hgM := (hown'.lt g rfl).1
  have hB1 : w1.heap[B]? = some (.cells #[sv] 22 (0, 0)) := ((hg.block B (by simp; omega) hsv).trans (Below.heap_alloc _ _ _ (by omega))).trans hb
  refine ⟨⟨_, ?_, hown'.keep fun b hbb => Below.heap_setCell _ _ _ _ ?_⟩, ?_⟩
  · simp only [World.setCell, Array.getElem?_modify]
    simp [hB1]
  · have := (hown'.lt b hbb).1
    show b ≠ B
    omega
  · refine Chg.setCell (p := ⟨B, 0, none⟩) ?_ (fun _ => .inl rfl) _
    exact ((Chg.refl _ _).alloc o).grown hg fun k hk _ => .inr (hlt k hk).1

set_option maxHeartbeats 1000000 in
theorem leave_reach : LeaveOk 61 := by
  intro M B v out W hb hB hM hl
  obtain ⟨sv, hb, ho⟩ := hb
  obtain ⟨i0, hi0, hz0, hz1, hz2⟩ := info_parts info_int
  obtain ⟨A, cc, rfl, hlc, hcm⟩ := ho.slice
  have hc := cell_of_row W B 0 _ 22 (0, 0) hb
  simp at hc
  have hsz : B < W.heap.size := by omega
  have hne : some B ≠ (Value.slice A out.length cc).ownBlock := fun e => by have := (ho.lt B e.symm).1; omega
  have HB := Lib.hid hb
  have HO := Lib.hid ho
  have HOA := Lib.hid (own_of_block (w' := W.alloc (.cells #[.int .i64 (v : Int)] 3)) ho (fun b hb => Below.heap_alloc _ _ _ (ho.lt b hb).2))
  have hfz : W.frozen? ⟨B, 0, none⟩ = false := by simp [World.frozen?, hb]
  clear hb ho
  go_enter Tryd.func61, Tryd.ntmps61
  go_wp2_with (at_builtin
               refine wpList_append_lies _ rfl (.tmp 3) (.tmp 5) 22 rfl M 3 i0 _ 1 8 Tryd.underlying22 hi0 hz0 hz1 hz2 rfl (by decide) _ out.length (out.map nv) rfl HOA.out ⟨W.heap.size, 0, none⟩ 1 1 [.int .i64 (v : Int)] rfl rfl (fun j u hu => cell_one_new W _ _ j u hu) (by simp [Value.oneCell']) (by decide) (by simp only [maxLen]; omega) (by omega) (by simp; omega) _ rfl ?_
               intro gg cap w1 hown1 hgrow hat hlt
               have hcz := hgrow.cell ((World.cell?_alloc_lt W _ _ hsz).trans hc) hne
               have hf1 : w1.frozen? ⟨B, 0, none⟩ = false := (World.frozen?_of_block (hgrow.block B (by simp; omega) hne)).trans ((World.frozen?_alloc_old W _ _ (by show B ≠ _; omega)).trans hfz))
  go_end0
  obtain ⟨k1, k2⟩ := leave_end HB.out HO.out hB hM hown1 hgrow
  exact ⟨rfl, k1, k2⟩
theorem vis_at {s : List Bool × List Nat} {v : Nat} {b : Bool} (h : s.1[v]? = some b) : ((s.1.map Value.bool).toArray)[v]? = some (.bool b) := by simp [h]
theorem Dyn.mark {W : World} {M gv B v : Nat} {s : List Bool × List Nat} (h : Dyn W M gv B s) (hne : gv ≠ B) (hg : gv < M) : Dyn (W.setCell ⟨gv, v, none⟩ (.bool true)) M gv B (s.1.set v true, s.2) := by
  obtain ⟨sv, h1, h2⟩ := h.out
  have hsz := h.size
  refine ⟨?_, ⟨sv, ?_, h2.keep fun b hb => Below.heap_setCell _ _ _ _ ?_⟩, by simpa [World.setCell] using hsz⟩
  · simp only [World.setCell, Array.getElem?_modify]
    simp [h.vis, List.map_set]
  · rw [Below.heap_setCell _ _ _ _ (Ne.symm hne)]
    exact h1
  · have := (h2.lt b hb).1
    show b ≠ gv
    omega

set_option maxRecDepth 100000 in
set_option maxHeartbeats 2000000 in
theorem visit_any (L : Nat) (eg : ∀ args w, (callFunc L args).run Tryd.prog w = .ok (.enter L args) w) (hL : LeaveOk L) (M lo hi g bv gv bn bs bl B c : Nat) (cs : Array Value) (nx : List (List Nat)) (hg : Good nx) (hn : nx.length ≤ 1000) :
    ∀ (f v : Nat) (W : World) (s : List Bool × List Nat), v < nx.length → s.1.length = nx.length → unv s.1 < f → s.2.length + unv s.1 ≤ 5000 → Env W M lo hi g bv gv bn bs bl L B c cs nx → Dyn W M gv B s →
    Calls Tryd.prog 73 #[.int .i64 (v : Int), .pointer (some ⟨bv, 0, none⟩), .pointer (some ⟨bn, 0, none⟩), .pointer (some ⟨bs, 0, none⟩), .pointer (some ⟨bl, 0, none⟩)] W fun e W' => e = .returned (.tuple #[]) ∧ Dyn W' M gv B (dfs nx f v s) ∧ Chg (May M gv B) W W' := by
  intro f
  induction f with
  | zero => intro v W s _ _ h; omega
  | succ f ih =>
    intro v W s hv hs hu hall hE hD
    obtain ⟨b, hb⟩ : ∃ b, s.1[v]? = some b := ⟨_, List.getElem?_eq_getElem (by omega)⟩
    have hvis := hD.vis
    have hcb : W.cell? ⟨gv, v, none⟩ = some (.bool b) := by rw [cell_of_row W gv v _ 4 (0, 0) hD.vis]; exact vis_at hb
    have c1 : W.cell? ⟨bv, 0, none⟩ = some (.slice (some ⟨gv, 0, none⟩) nx.length nx.length) := cell_of_row W bv 0 _ _ (0, 0) hE.cv
    have HB := Lib.hid hb
    cases b with
    | true =>
      have HE := Lib.hid (dfs_seen nx f v s (by rw [hb]; rfl))
      clear hb hvis
      have HD := Lib.hid hD
      clear hD hE ih
      go_enter Tryd.func73, Tryd.ntmps73
      go_wp2_with fail
      refine bodyPost_ret (results_none rfl _ _ _) rfl ?_
      exact ⟨rfl, by rw [HE.out]; exact HD.out, Chg.refl _ _⟩
    | false =>
      have hE0 := hE.below
      have hA0 := hE.apart
      have hM := hD.size
      have h1 := hD.mark (v := v) hA0.2.2.2.2.2.2.2.2.1 hE0.2.2.2.2.1
      have hC1 : Chg (May M gv B) W (W.setCell ⟨gv, v, none⟩ (.bool true)) := (Chg.refl _ _).setCell (fun _ => .inl rfl) _
      have hE1 := hE.chg hC1 hM
      have hfz : W.frozen? ⟨gv, v, none⟩ = false := by simp [World.frozen?, hvis]
      have hu1 := unv_set s.1 v hb
      have HNEW := Lib.hid (dfs_new nx f v s hb)
      obtain ⟨W1, hW1⟩ : ∃ W1, W.setCell ⟨gv, v, none⟩ (.bool true) = W1 := ⟨_, rfl⟩
      rw [hW1] at h1 hC1 hE1
      have HW1 := Lib.hid hW1
      clear hW1
      obtain ⟨s1, hs1⟩ : ∃ s1, (s.1.set v true, s.2) = s1 := ⟨_, rfl⟩
      rw [hs1] at h1
      have hs1l : s1.1.length = nx.length := by rw [← hs1]; simpa using hs
      have hs1u : unv s1.1 < f := by rw [← hs1]; show unv (s.1.set v true) < f; omega
      have hs1a : s1.2.length + unv s1.1 ≤ 5000 := by rw [← hs1]; show s.2.length + unv (s.1.set v true) ≤ 5000; omega
      have HS1 := Lib.hid hs1
      have d1 : W1.cell? ⟨bn, 0, none⟩ = some (.slice (some ⟨g, 0, none⟩) nx.length c) := cell_of_row W1 bn 0 _ _ (0, 0) hE1.cn
      obtain ⟨r, l, hr, hl, ho, hcr⟩ := hE1.rows.at_ (i := v) hv
      obtain ⟨A, cc, rfl, hlc, hcm⟩ := ho.slice
      have hnb : nb nx v = l := by unfold nb; rw [hl]; rfl
      have hll : l.length ≤ 1000 := by rw [← hnb]; exact Nat.le_trans (nb_short nx hg v) hn
      have hlr : ∀ x ∈ l, x < nx.length := (hg l (List.mem_of_getElem? hl)).2
      have HNB := Lib.hid hnb
      have HLR := Lib.hid hlr
      have hgm : ∀ b, (Value.slice A l.length cc).ownBlock = some b → b < M ∧ ¬ May M gv B b := fun b hb => by
        have h1 := (ho.lt b hb).1
        have h2 := hE1.rows.inn v _ b hr hb
        have h3 := hE1.hi_
        obtain ⟨_, _, _, _, _, _, _, _, _, a10, a11⟩ := hA0
        exact ⟨by omega, by rintro (h | h | h) <;> omega⟩
      have HGM := Lib.hid hgm
      have HO := Lib.hid ho
      have H1 := Lib.hid h1
      have HC1 := Lib.hid hC1
      have HE1 := Lib.hid hE1
      have HIH := Lib.hid ih
      have HLV := Lib.hid hL
      have hM1 := h1.size
      have d1' : (W.setCell ⟨gv, v, none⟩ (.bool true)).cell? ⟨bn, 0, none⟩ = some (.slice (some ⟨g, 0, none⟩) nx.length c) := by rw [HW1.out]; exact d1
      have hcr' : (W.setCell ⟨gv, v, none⟩ (.bool true)).cell? ⟨g, v, none⟩ = some (.slice A l.length cc) := by rw [HW1.out]; exact hcr
      clear hb hs hs1 hnb hl hr hlr hgm ho h1 hC1 hE1 hE hD hvis ih hL d1 hcr
      go_enter Tryd.func73, Tryd.ntmps73
      go_wp2_with fail
      rw [HW1.out]
      rw [HW1.out] at d1' hcr'
      go_loopw [20] (fun i wr => ∃ j : Nat, j ≤ l.length ∧ i = .int .i64 j ∧ Dyn wr M gv B (dfsL nx f (l.take j) s1) ∧ Env wr M lo hi g bv gv bn bs bl L B c cs nx ∧ Chg (May M gv B) W1 wr) (fun i _ => l.length - (intOf i).toNat)
      case atStart => exact ⟨0, Nat.zero_le _, rfl, H1.out, HE1.out, Chg.refl _ _⟩
      case round =>
        obtain ⟨j, hj, rfl, hDj, hEj, hCj⟩ := hrel
        have hst := dfsL_step nx f (l.take j) s1
        have hst1 := hst.len
        have hst2 := hst.unv_
        have hst3 := hst.all
        obtain ⟨sj, hsj⟩ : ∃ sj, dfsL nx f (l.take j) s1 = sj := ⟨_, rfl⟩
        rw [hsj] at hDj hst1 hst2 hst3
        have HSJ := Lib.hid hsj
        have HDJ := Lib.hid hDj
        have HEJ := Lib.hid hEj
        have hMj := hDj.size
        by_cases hlj : j < l.length
        · obtain ⟨gl, cl, e, _, hg2, _, _⟩ := HO.out.form (by omega)
          injection e with e1 e2 e3
          subst e1 e3
          obtain ⟨x, hxl⟩ : ∃ x, l[j]? = some x := ⟨_, List.getElem?_eq_getElem hlj⟩
          have hcx := HO.out.cell hlj
          rw [hxl] at hcx
          have hgl := HGM.out gl rfl
          have hcx1 : wr.cell? ⟨gl, j, none⟩ = some (.int .i64 (x : Int)) := (hCj.cell (p := ⟨gl, j, none⟩) hg2 hgl.2).trans hcx
          have d2 := cell_of_row wr bs 0 _ _ (0, 0) hEj.csb
          simp at d2
          have HX := Lib.hid (HIH.out x wr sj (HLR.out x (List.mem_of_getElem? hxl)) (by omega) (by omega) (by omega) hEj hDj)
          have HXL := Lib.hid hxl
          clear hxl hcx hDj hEj hst1 hsj e2
          go_wp2_with fail
          refine HX.out.mono ?_
          rintro e w2 ⟨rfl, hD2, hC2⟩
          go_wp2_with fail
          go_roundw
          case rel => exact ⟨j + 1, by omega, by go_num, by rw [take_snoc' HXL.out, dfsL_snoc, HSJ.out]; exact hD2, HEJ.out.chg hC2 hMj, hCj.trans hC2 (fun _ _ h => h)⟩
          case measure => simp [intOf]; omega
        · obtain rfl : l.length = j := by omega
          have d2 := cell_of_row wr bl 0 _ _ (0, 0) hEj.cl
          simp at d2
          have hlv := HLV.out M B v sj.2 wr hDj.out hE0.2.2.2.2.2 hMj (by omega)
          have HV := Lib.hid hlv
          have hvisj := hDj.vis
          have HVJ := Lib.hid hvisj
          clear hDj hEj hst1 hsj hlv hvisj
          go_wp2_with (go_at_fn L
                       refine HV.out.mono ?_
                       rintro e w2 ⟨rfl, hbx, hC2⟩)
          go_end0
          have hC3 : Chg (May M gv B) wr w2 := hC2.mono fun b _ h => h.elim (fun h => .inr (.inl h)) (fun h => .inr (.inr h))
          refine ⟨rfl, ?_, HC1.out.trans (hCj.trans hC3 (fun _ _ h => h)) (fun _ _ h => h)⟩
          rw [HNEW.out, HNB.out, HS1.out]
          rw [List.take_length] at HSJ
          rw [HSJ.out]
          refine ⟨(hC2.block gv (by omega) ?_).trans HVJ.out, hbx, Nat.le_trans hMj hC2.size⟩
          rintro (h | h)
          · exact hA0.2.2.2.2.2.2.2.2.1 h
          · omega
end Go.Proofs.YtlgdcbhdmffnoaaDoor

namespace Go.Proofs.YtlgdcbhdmffnoaaDoor
open Go Go.RowKit

theorem info_boolG : (Tryd.prog.info? 4).map (fun i => (i.zero, i.size, i.bytes)) = some (some (.bool false), 1, 1) := by kernel_rfl
theorem make_boolsG (n : Nat) (hn : n ≤ 100000) : ∀ W : World, (Instr.makeSlice 76 (.int .i64 (n : Int)) (.int .i64 (n : Int))).run Tryd.prog W = .ok (.slice (some ⟨W.heap.size, 0, none⟩) n n) (W.alloc (.cells (Array.replicate n (.bool false)) 4)) := by
  obtain ⟨i, hi, hz, h1, h2⟩ := info_parts info_boolG
  intro W
  have h := run_make_rowN 76 4 i _ Tryd.underlying76 hi hz .i64 .i64 n n (Nat.le_refl _) (by rw [h2]; omega) (by omega) W
  rw [h1, Nat.mul_one, made_one _ _ rfl] at h
  exact h
theorem heap_alloc_if (w : World) (o : Obj) (k : Nat) : (w.alloc o).heap[k]? = if k = w.heap.size then some o else w.heap[k]? := by
  show (w.heap.push o)[k]? = _
  rw [Array.getElem?_push]
theorem heap_set_if (w : World) (b i : Nat) (v : Value) (k : Nat) : (w.setCell ⟨b, i, none⟩ v).heap[k]? = if k = b then (w.heap[b]?).map (fun o => match o with | .cells c e f => .cells (c.setIfInBounds i v) e f | o => o) else w.heap[k]? := by
  simp only [World.setCell, Array.getElem?_modify]
  by_cases h : k = b
  · subst h
    rw [if_pos rfl, if_pos rfl]
    congr 1
  · rw [if_neg (fun e => h e.symm), if_neg h]
theorem size_setCell (w : World) (a : Addr) (v : Value) : (w.setCell a v).heap.size = w.heap.size := by simp [World.setCell]

theorem run_store_func (P : Program) (w : World) (a : Addr) (m : Mode) (fn : Fn) (x y : Array Value) : (store a (.func fn x y) m).run P w = stored P w a (.func fn x y) m := run_store P w a _ m rfl
attribute [local go_sem] run_store_func

/-- What depthFirst hands back. -/
def Search (L g B c lo hi : Nat) (cs : Array Value) (nx : List (List Nat)) (w : World) (e : Ending) (w' : World) : Prop :=
  ∃ bv gv bn bs bl, e = .returned (.func (.func 73) #[] #[.pointer (some ⟨bv, 0, none⟩), .pointer (some ⟨bn, 0, none⟩), .pointer (some ⟨bs, 0, none⟩), .pointer (some ⟨bl, 0, none⟩)]) ∧
    Env w' w'.heap.size lo hi g bv gv bn bs bl L B c cs nx ∧ Dyn w' w'.heap.size gv B (List.replicate nx.length false, []) ∧ Below w.heap.size w w' ∧ w.heap.size ≤ gv ∧ w.heap.size ≤ bv ∧ w.heap.size ≤ bn ∧ w.heap.size ≤ bs ∧ w.heap.size ≤ bl

theorem alloc5 (w : World) (a b c d e : Obj) : let w' := ((((w.alloc a).alloc b).alloc c).alloc d).alloc e
    w'.heap.size = w.heap.size + 5 ∧ w'.heap[w.heap.size]? = some a ∧ w'.heap[w.heap.size + 1]? = some b ∧ w'.heap[w.heap.size + 1 + 1]? = some c ∧ w'.heap[w.heap.size + 1 + 1 + 1]? = some d ∧ w'.heap[w.heap.size + 1 + 1 + 1 + 1]? = some e ∧ Below w.heap.size w w' := by
  intro w'
  have hB : Below w.heap.size w w' := ((((((Below.refl _ _).alloc (Nat.le_refl _) _).alloc (by simp) _).alloc (by simp; omega) _).alloc (by simp; omega) _).alloc (by simp; omega) _)
  refine ⟨by simp [w'], ?_, ?_, ?_, ?_, ?_, hB⟩ <;> (simp only [w', heap_alloc_if, World.size_alloc]; repeat (first | rw [if_pos trivial] | rw [if_neg (by omega)]))

set_option maxHeartbeats 1000000 in
theorem depthFirst_any (L g B c lo hi : Nat) (cs : Array Value) (nx : List (List Nat)) (w : World) (hn : nx.length ≤ 1000) (hR : Rows2 w lo hi g cs nx) (hh : hi ≤ w.heap.size) (hB : w.heap[B]? = some (.cells #[.slice none 0 0] 22 (0, 0))) (hBo : B < lo ∨ hi ≤ B) :
    Calls Tryd.prog 60 #[.slice (some ⟨g, 0, none⟩) nx.length c, .func (.func L) #[] #[.pointer (some ⟨B, 0, none⟩)]] w (Search L g B c lo hi cs nx w) := by
  have hmk := make_boolsG nx.length (by omega)
  have hBl := heap_lt hB
  have HR := Lib.hid hR
  have HBB := Lib.hid hB
  clear hR hB
  go_enter Tryd.func60, Tryd.ntmps60
  go_wp2
  go_ret
  obtain ⟨z, h0, h1, h2, h3, h4, hb⟩ := alloc5 w (.cells #[.slice (some ⟨g, 0, none⟩) nx.length c] 56) (.cells #[.func (.func L) #[] #[.pointer (some ⟨B, 0, none⟩)]] 73) (.cells (Array.replicate nx.length (.bool false)) 4) (.cells #[.slice (some ⟨w.heap.size + 1 + 1, 0, none⟩) nx.length nx.length] 76)
    (.cells #[.func (.func 73) #[] #[.pointer (some ⟨w.heap.size + 1 + 1 + 1, 0, none⟩), .pointer (some ⟨w.heap.size, 0, none⟩), .pointer (some ⟨w.heap.size + 1 + 1 + 1 + 1, 0, none⟩), .pointer (some ⟨w.heap.size + 1, 0, none⟩)]] 73)
  have hgin := HR.out.gin
  refine ⟨_, w.heap.size + 1 + 1, _, _, _, rfl, ⟨HR.out.keep fun b _ h2 => hb.block b (by omega), by rw [z]; omega, h3, h0, h4, h1, by rw [z]; omega, by omega⟩, ⟨?_, ⟨_, (hb.block B hBl).trans HBB.out, Own.nil _ _⟩, Nat.le_refl _⟩, hb, by omega, by omega, by omega, by omega, by omega⟩
  rw [h2]
  simp
end Go.Proofs.YtlgdcbhdmffnoaaDoor
