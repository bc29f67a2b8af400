/-
  What Topo keeps in memory between its rounds: the heap, the counts, the order; how the counts are made. Mathematics and words for memory; no function of the program.
  The contract of graph.Topo: the least topological order, or nil. Conditions: the edges' ends are vertices; at most 900 vertices.
-/
import Derived.Test.YtlgdcbhdmffnoaaDoorK4
import Derived.Test.YtlgdcbhdmffnoaaDoorK25

namespace Go.Proofs.YtlgdcbhdmffnoaaDoor
open Go Go.RowKit

/-- How many of the first k vertices have w as a successor. -/
def cnt (nx : List (List Nat)) (k w : Nat) : Nat := ((List.range k).filter fun u => decide (w ∈ nb nx u)).length
def cntAt (nx : List (List Nat)) (k j w : Nat) : Nat := cnt nx k w + if w ∈ (nb nx k).take j then 1 else 0
theorem cnt_succ (nx : List (List Nat)) (k w : Nat) : cnt nx (k + 1) w = cnt nx k w + if w ∈ nb nx k then 1 else 0 := by
  unfold cnt
  rw [List.range_succ, List.filter_append, List.length_append]
  by_cases h : w ∈ nb nx k
  · simp [h]
  · simp [h]
theorem cnt_le (nx : List (List Nat)) (k w : Nat) : cnt nx k w ≤ k := by
  unfold cnt
  have := List.length_filter_le (fun u => decide (w ∈ nb nx u)) (List.range k)
  rw [List.length_range] at this
  exact this
theorem cntAt_zero (nx : List (List Nat)) (k w : Nat) : cntAt nx k 0 w = cnt nx k w := by simp [cntAt]
theorem cntAt_all (nx : List (List Nat)) (k w : Nat) : cntAt nx k (nb nx k).length w = cnt nx (k + 1) w := by rw [cnt_succ]; simp [cntAt]
theorem cntAt_le (nx : List (List Nat)) (k j w : Nat) : cntAt nx k j w ≤ k + 1 := by
  have := cnt_le nx k w
  unfold cntAt
  split <;> omega
theorem cntAt_hit {nx : List (List Nat)} {k j x : Nat} (hp : (nb nx k).Pairwise (· < ·)) (h : (nb nx k)[j]? = some x) (y : Nat) : cntAt nx k (j + 1) y = if x = y then cntAt nx k j x + 1 else cntAt nx k j y := by
  obtain ⟨h1, h2⟩ := take_at h hp
  unfold cntAt
  by_cases e : x = y
  · subst e
    rw [if_pos rfl, if_neg h1, if_pos ((h2 x).2 (.inr rfl))]
  · rw [if_neg e]
    by_cases hm : y ∈ (nb nx k).take j
    · rw [if_pos hm, if_pos ((h2 y).2 (.inl hm))]
    · rw [if_neg hm, if_neg (fun h => by
        rcases (h2 y).1 h with h | h
        · exact hm h
        · exact e h.symm)]
theorem wait_cnt (nx : List (List Nat)) (w : Nat) : kWait nx [] w = cnt nx nx.length w := by
  unfold kWait cnt
  congr 1
  apply List.filter_congr
  intro u _
  simp
/-- The heap holds the vertices below k whose count is zero. -/
theorem ready_start {nx : List (List Nat)} {H : List Nat} (hn : H.Nodup) (hm : ∀ x, x ∈ H ↔ x < nx.length ∧ cnt nx nx.length x = 0) : Ready nx [] H := ⟨hn, fun x => by
  rw [hm, ← wait_cnt, wait_zero, canGo_iff]
  simp⟩

structure TI (n lo gw hb : Nat) (W : World) (hv ov : Value) (ws H d : List Nat) : Prop where
  hp : Hp W lo hb hv H
  wt : Own W lo (.slice (some ⟨gw, 0, none⟩) ws.length n) ws
  wl : ws.length = n
  od : Own W lo ov d
  a1 : hv.ownBlock ≠ some gw
  a2 : ov.ownBlock ≠ some gw
  a3 : ∀ b, hv.ownBlock = some b → ov.ownBlock ≠ some b
  heap : IsHeap H H.length
theorem hp_other {W : World} {lo lo' hb : Nat} {v v' : Value} {l l' : List Nat} (h : Hp W lo hb v l) (ho : Own W lo' v' l') : v'.ownBlock ≠ some hb := by
  rcases ho.2 with ⟨rfl, _⟩ | ⟨g, cap, cur, rfl, _, h2, _⟩
  · simp [Value.ownBlock]
  · intro e
    have e : g = hb := by simpa [Value.ownBlock] using e
    subst e
    exact heapT_ne h.box h2 (by decide) rfl
section
variable {n lo gw hb x : Nat} {W W' : World} {hv ov hv' ov' : Value} {ws H H' d d' : List Nat}
theorem TI.gne (h : TI n lo gw hb W hv ov ws H d) : gw ≠ hb := fun e => hp_other h.hp h.wt (by rw [← e]; rfl)
theorem TI.drew (h : TI n lo gw hb W hv ov ws H d) : TI n lo gw hb W.drew hv ov ws H d := ⟨h.hp.keep fun _ _ => rfl, h.wt.keep fun _ _ => rfl, h.wl, h.od.keep fun _ _ => rfl, h.a1, h.a2, h.a3, h.heap⟩
theorem TI.setw (h : TI n lo gw hb W hv ov ws H d) (x c : Nat) : TI n lo gw hb (W.setCell ⟨gw, x, none⟩ (nv c)) hv ov (ws.set x c) H d := by
  have hne := h.gne
  refine ⟨h.hp.keep fun b hb' => Below.heap_setCell W _ _ b ?_, ?_, by rw [List.length_set]; exact h.wl, h.od.keep fun b hb' => Below.heap_setCell W _ _ b ?_, h.a1, h.a2, h.a3, h.heap⟩
  · rcases hb' with e | e
    · show b ≠ gw
      omega
    · show b ≠ gw
      rintro rfl
      exact h.a1 e
  · have h1 := h.wt
    rw [h.wl] at h1
    exact own_setCell (c := n) (i := x) (x := c) h.wt
  · show b ≠ gw
    rintro rfl
    exact h.a2 hb'
theorem TI.chg {lo' : Nat} (h : TI n lo gw hb W hv ov ws H d) (hc : Chg (fun b => b = hb ∨ hv.ownBlock = some b) W W') (hp : Hp W' lo hb hv' H') (hv1 : ∀ b, hv'.ownBlock = some b → hv.ownBlock = some b ∨ W.heap.size ≤ b) (hh : IsHeap H' H'.length) (_ : lo' = lo) : TI n lo gw hb W' hv' ov ws H' d := by
  have hne := h.gne
  have hwl := (h.wt.lt gw rfl).2
  refine ⟨hp, h.wt.chg hc fun b hb' e => ?_, h.wl, h.od.chg hc fun b hb' e => ?_, fun e => ?_, h.a2, fun b hb' e => ?_, hh⟩
  · have e1 : gw = b := by simpa [Value.ownBlock] using hb'
    rcases e with e | e
    · omega
    · exact h.a1 (by rw [e1]; exact e)
  · rcases e with e | e
    · exact hp_other h.hp h.od (by rw [← e]; exact hb')
    · exact h.a3 b e hb'
  · rcases hv1 gw e with e1 | e1
    · exact h.a1 e1
    · omega
  · rcases hv1 b hb' with e1 | e1
    · exact h.a3 b e1 e
    · have := (h.od.lt b e).2
      omega
theorem TI.app {c : Value} {t : TypeId} (h : TI n lo gw hb W hv ov ws H d) (ho : Own W' lo ov' d') (hg : (W.alloc (.cells #[c] t)).grownBy W' ov.ownBlock) (hor : ∀ b, ov'.ownBlock = some b → ov.ownBlock = some b ∨ W.heap.size ≤ b) : TI n lo gw hb W' hv ov' ws H d' := by
  have hwl := (h.wt.lt gw rfl).2
  have hsz : (W.alloc (.cells #[c] t)).heap.size = W.heap.size + 1 := by simp
  have hk : ∀ b, b < W.heap.size → ov.ownBlock ≠ some b → W'.heap[b]? = W.heap[b]? := fun b hb' hne => (hg.block b (by omega) (Ne.symm hne)).trans (Below.heap_alloc W _ b hb')
  refine ⟨h.hp.keep fun b hb' => ?_, h.wt.keep fun b hb' => ?_, h.wl, ho, h.a1, fun e => ?_, fun b hb' e => ?_, h.heap⟩
  · rcases hb' with e | e
    · subst e
      exact hk b h.hp.lt (hp_other h.hp h.od)
    · exact hk b (h.hp.own.lt b e).2 (h.a3 b e)
  · have e1 : gw = b := by simpa [Value.ownBlock] using hb'
    subst e1
    exact hk gw hwl h.a2
  · rcases hor gw e with e1 | e1
    · exact h.a2 e1
    · omega
  · rcases hor b e with e1 | e1
    · exact h.a3 b hb' e1
    · have := (h.hp.own.lt b hb').2
      omega
theorem TI.wcell (h : TI n lo gw hb W hv ov ws H d) (hx : x < n) : W.cell? ⟨gw, x, none⟩ = some (.int .i64 (hAt ws x : Int)) := hAt_cell h.wt (by rw [h.wl]; exact hx)
theorem TI.wfree (h : TI n lo gw hb W hv ov ws H d) (x : Nat) : W.frozen? ⟨gw, x, none⟩ = false := h.wt.frozen x
end
end Go.Proofs.YtlgdcbhdmffnoaaDoor

namespace Go.Proofs.YtlgdcbhdmffnoaaDoor
open Go Go.RowKit

/-- What Topo gives: nil where there is a cycle. -/
def topoR (nx : List (List Nat)) : List Nat := if (topoL nx).length = nx.length then topoL nx else []
/-- The counts so far. -/
def CntIn (n lo gw : Nat) (W : World) (F : Nat → Nat) : Prop := ∃ ws : List Nat, ws.length = n ∧ Own W lo (.slice (some ⟨gw, 0, none⟩) ws.length n) ws ∧ ∀ x, x < n → hAt ws x = F x
theorem CntIn.set {n lo gw x c : Nat} {W : World} {F F' : Nat → Nat} (h : CntIn n lo gw W F) (hx : x < n) (hF : ∀ y, y < n → F' y = if x = y then c else F y) : CntIn n lo gw (W.setCell ⟨gw, x, none⟩ (nv c)) F' := by
  obtain ⟨ws, h1, h2, h3⟩ := h
  refine ⟨ws.set x c, by rw [List.length_set]; exact h1, own_setCell h2, fun y hy => ?_⟩
  rw [hAt_set _ _ _ _ (by rw [h1]; exact hx), hF y hy, h3 y hy]
theorem CntIn.congr {n lo gw : Nat} {W : World} {F F' : Nat → Nat} (h : CntIn n lo gw W F) (hF : ∀ y, y < n → F' y = F y) : CntIn n lo gw W F' := by
  obtain ⟨ws, h1, h2, h3⟩ := h
  exact ⟨ws, h1, h2, fun y hy => by rw [hF y hy, h3 y hy]⟩
theorem hAt_rep (n x : Nat) : hAt (List.replicate n 0) x = 0 := by
  unfold hAt
  rw [List.getElem?_replicate]
  split <;> rfl

/-- The length of a slice. -/
def vLenG : Value → Nat
  | .slice _ n _ => n
  | _ => 0
theorem own_vlen {W : World} {lo : Nat} {v : Value} {l : List Nat} (h : Own W lo v l) : vLenG v = l.length := by
  obtain ⟨A, c, rfl, _, _⟩ := h.slice
  rfl
theorem kWait_le (nx : List (List Nat)) (d : List Nat) (w : Nat) : kWait nx d w ≤ nx.length := by
  unfold kWait
  have := List.length_filter_le (fun u => decide (w ∈ nb nx u) && !decide (u ∈ d)) (List.range nx.length)
  rw [List.length_range] at this
  exact this
theorem TI.ord {n lo gw hb k : Nat} {W : World} {hv : Value} {ws H : List Nat} (h : TI n lo gw hb W hv (.slice none 0 0) ws H []) (hk : k ≤ 100000) (hlo : lo ≤ W.heap.size) : TI n lo gw hb (W.alloc (.cells (Array.replicate k (.int .i64 0)) 3)) hv (.slice (some ⟨W.heap.size, 0, none⟩) 0 k) ws H [] := by
  have hwl := (h.wt.lt gw rfl).2
  have ho : Own (W.alloc (.cells (Array.replicate k (.int .i64 0)) 3)) lo (.slice (some ⟨W.heap.size, 0, none⟩) 0 k) [] := own_made W lo k 0 (Nat.zero_le _) hk hlo
  refine ⟨h.hp.keep fun b hb' => Below.heap_alloc W _ b ?_, h.wt.keep fun b hb' => Below.heap_alloc W _ b (h.wt.lt b hb').2, h.wl, ho, h.a1, fun e => ?_, fun b hb' e => ?_, h.heap⟩
  · rcases hb' with e | e
    · subst e
      exact h.hp.lt
    · exact (h.hp.own.lt b e).2
  · have e1 : W.heap.size = gw := by simpa [Value.ownBlock] using e
    omega
  · have e1 : W.heap.size = b := by simpa [Value.ownBlock] using e
    have := (h.hp.own.lt b hb').2
    omega
set_option maxRecDepth 100000 in
set_option maxHeartbeats 8000000 in
theorem topo_any (HS : SortOwn) (HC : CompactOwn) (n m c : Nat) (A : Option Addr) (E : List (Nat × Nat)) (w : World) (hn : n ≤ 800) (hm : m ≤ 1000) (hE : Edg w w.heap.size A m E) (hd : ∀ e ∈ E, e.1 < n ∧ e.2 < n) :
    Calls Tryd.prog 39 #[.int .i64 n, .slice A m c] w fun e w' => ∃ v, e = .returned (.tuple #[v, .bool (decide ((topoL (succs n E)).length = n))]) ∧ Own w' w.heap.size v (topoR (succs n E)) ∧ Below w.heap.size w w' := by
  have HSU := Lib.hid (successors_any HS HC n m c A E w (by omega) hm hE hd)
  obtain ⟨nx, hnx⟩ : ∃ nx, succs n E = nx := ⟨_, rfl⟩
  have hlen : nx.length = n := by rw [← hnx, succs_len]
  have hgd : Good nx := by rw [← hnx]; exact succs_good n E
  rw [hnx] at HSU ⊢
  have HN := Lib.hid hlen
  have HG := Lib.hid hgd
  have hmk := make_ints n n (Nat.le_refl _) (by omega)
  have hmk0 : ∀ W : World, (Instr.makeSlice 22 (.int .i64 0) (.int .i64 (n : Int))).run Tryd.prog W = .ok (.slice (some ⟨W.heap.size, 0, none⟩) 0 n) (W.alloc (.cells (Array.replicate n (.int .i64 0)) 3)) := make_ints 0 n (Nat.zero_le _) (by omega)
  obtain ⟨i0, hi0, hz0, hz1, hz2⟩ := info_parts info_int
  have HNB := Lib.hid (show ∀ v, (nb nx v).length ≤ 800 from fun v => Nat.le_trans (nb_short nx hgd v) (by omega))
  have HTA := Lib.hid assert_int
  clear hE hd hnx hlen hgd
  go_enter Tryd.func39, Tryd.ntmps39
  go_wp2_with (go_at_call 56
               refine HSU.out.mono ?_
               rintro e w1 ⟨g, cs, rfl, hR, hb1⟩
               have HR := Lib.hid hR
               have HB1 := Lib.hid hb1
               have hgin := hR.gin
               have hs1 := hb1.size
               clear hR hb1)
  obtain ⟨lo, hlo⟩ : ∃ lo, w1.heap.size = lo := ⟨_, rfl⟩
  obtain ⟨w2, hw2⟩ : ∃ W, w1.alloc (.cells (Array.replicate n (.int .i64 0)) 3) = W := ⟨_, rfl⟩
  have hown2 : CntIn n lo lo w2 (cnt nx 0) := by
    refine ⟨List.replicate n 0, by simp, ?_, fun x hx => by rw [hAt_rep]; rfl⟩
    rw [← hw2, ← hlo, List.length_replicate]
    exact own_made w1 w1.heap.size n n (Nat.le_refl _) (by omega) (Nat.le_refl _)
  have hbel2 : Below lo w1 w2 := by rw [← hw2, ← hlo]; exact (Below.refl _ _).alloc (Nat.le_refl _) _
  rw [hw2, hlo]
  have HLO := Lib.hid hlo
  go_loopw [28] (fun i wr => ∃ k : Nat, k ≤ n ∧ i = .int .i64 k ∧ CntIn n lo lo wr (cnt nx k) ∧ Below lo w1 wr) (fun i _ => n - (intOf i).toNat)
  case atStart => exact ⟨0, Nat.zero_le _, rfl, hown2, hbel2⟩
  case round =>
    obtain ⟨k, hk, rfl, hS, hB⟩ := hrel
    obtain ⟨wo, hwo⟩ : ∃ W, W = wr := ⟨_, rfl⟩
    subst hwo
    by_cases hlt : k < n
    · obtain ⟨v, l, hv, hl, ho, hcv⟩ := HR.out.at_ (i := k) (by rw [HN.out]; exact hlt)
      obtain ⟨A', cc, rfl, hlc, hcm⟩ := ho.slice
      have hcv1 := (hB.cell (p := ⟨g, k, none⟩) (by show g < _; omega)).trans hcv
      have hnb : nb nx k = l := by unfold nb; rw [hl]; rfl
      have HNBK := Lib.hid hnb
      have hll : l.length ≤ 800 := by rw [← hnb]; exact HNB.out k
      have HL := Lib.hid (HG.out l (List.mem_of_getElem? hl))
      have HO := Lib.hid ho
      have HSo := Lib.hid hS
      have HBo := Lib.hid hB
      clear hnb hv hl ho hcv hS hB hown2 hbel2
      go_wp2_with fail
      go_loopw [34] (fun i wr => ∃ j : Nat, j ≤ l.length ∧ i = .int .i64 j ∧ CntIn n lo lo wr (cntAt nx k j) ∧ Below lo w1 wr) (fun i _ => l.length - (intOf i).toNat)
      case atStart => exact ⟨0, Nat.zero_le _, rfl, HSo.out.congr fun y _ => cntAt_zero nx k y, HBo.out⟩
      case round =>
        obtain ⟨j, hj, rfl, hS, hB⟩ := hrel
        by_cases hlj : j < l.length
        · obtain ⟨gl, cl, e, hg1, hg2, _, _⟩ := HO.out.form (by omega)
          injection e with e1 e2 e3
          subst e1 e3
          have hcx := HO.out.cell hlj
          obtain ⟨x, hx⟩ : ∃ x, l[j]?.getD 0 = x := ⟨_, rfl⟩
          rw [hx] at hcx
          have hxl : l[j]? = some x := by rw [List.getElem?_eq_getElem hlj] at hx ⊢; exact congrArg some hx
          have hxn : x < n := by have := HL.out.2 x (List.mem_of_getElem? hxl); rw [HN.out] at this; exact this
          have hcx1 : wr.cell? ⟨gl, j, none⟩ = some (.int .i64 (x : Int)) := (hB.cell (p := ⟨gl, j, none⟩) (by show gl < _; omega)).trans hcx
          have HXL := Lib.hid hxl
          have hS2 := hS
          obtain ⟨ws, hws1, hws2, hws3⟩ := hS2
          have hcw := hAt_cell (i := x) hws2 (by omega)
          have hfw := hws2.frozen x
          rw [hws3 x hxn] at hcw
          have hle := cntAt_le nx k j x
          obtain ⟨y, hy⟩ : ∃ y, cntAt nx k j x = y := ⟨_, rfl⟩
          rw [hy] at hcw hle
          have HY := Lib.hid hy
          have HSi := Lib.hid hS
          have HBi := Lib.hid hB
          clear hx hxl hcx hS hB hws1 hws2 hws3 hy
          go_wp2_with fail
          go_roundw
          case rel =>
            refine ⟨j + 1, by omega, by go_num, ?_, HBi.out.setCell (p := ⟨lo, x, none⟩) (Nat.le_refl _) _⟩
            have h1 := HSi.out.set (c := y + 1) hxn (F' := cntAt nx k (j + 1)) fun z _ => by
              rw [cntAt_hit (by rw [HNBK.out]; exact HL.out.1) (by rw [HNBK.out]; exact HXL.out), HY.out]
            have e : ((y + 1 : Nat) : Int) = (y : Int) + 1 := by omega
            unfold nv at h1
            rw [e] at h1
            exact h1
          case measure => simp [intOf]; omega
        · obtain rfl : l.length = j := by omega
          have HSi := Lib.hid (show CntIn n lo lo wr (cnt nx (k + 1)) from hS.congr fun y _ => by rw [← HNBK.out, cntAt_all])
          have HBi := Lib.hid hB
          clear hS hB
          go_wp2_with fail
          go_roundw
          case rel => exact ⟨k + 1, by omega, by go_num, HSi.out, HBi.out⟩
          case measure => simp [intOf]; omega
    · obtain rfl : n = k := by omega
      have HSo := Lib.hid hS
      have HBo := Lib.hid hB
      clear hS hB hown2 hbel2
      go_wp2_with fail
      obtain ⟨hb, hhb⟩ : ∃ hb, wo.heap.size = hb := ⟨_, rfl⟩
      obtain ⟨w3, hw3⟩ : ∃ W, wo.alloc (.cells #[.slice none 0 0] 93) = W := ⟨_, rfl⟩
      obtain ⟨ws, hws1, hws2, hws3⟩ := HSo.out
      have hlob := (hws2.lt lo rfl).2
      have hti3 : TI n lo lo hb w3 (.slice none 0 0) (.slice none 0 0) ws [] [] := by
        rw [← hw3, ← hhb]
        refine ⟨⟨World.alloc_heap_new wo _, Own.nil _ _⟩, hws2.keep fun b hb' => Below.heap_alloc wo _ b (hws2.lt b hb').2, hws1, Own.nil _ _, by simp [Value.ownBlock], by simp [Value.ownBlock], fun b hb' => ?_, fun k k0 hk' => ?_⟩
        · simp [Value.ownBlock] at hb'
        · simp at hk'
      have hbel3 : Below lo w1 w3 := by rw [← hw3]; exact HBo.out.alloc (by omega) _
      have HWS := Lib.hid hws3
      rw [hw3, hhb]
      clear hws3 hws2
      go_loopw [48] (fun i wr => ∃ (k : Nat) (hv : Value) (H : List Nat), k ≤ n ∧ i = .int .i64 k ∧ TI n lo lo hb wr hv (.slice none 0 0) ws H [] ∧ Hid (H.Nodup) ∧ Hid (∀ x, x ∈ H ↔ x < k ∧ cnt nx n x = 0) ∧ Below lo w1 wr) (fun i _ => n - (intOf i).toNat)
      case atStart => exact ⟨0, _, [], Nat.zero_le _, rfl, hti3, List.nodup_nil, (show ∀ x, x ∈ ([] : List Nat) ↔ x < 0 ∧ cnt nx n x = 0 from fun x => by simp), hbel3⟩
      case round =>
        obtain ⟨k, hv, H, hk, rfl, hti, hnd, hmem, hB⟩ := hrel
        have HTI := Lib.hid hti
        have HBi := Lib.hid hB
        have hHl : H.length ≤ n := nodup_len n H hnd.out fun x hx => by have := ((hmem.out x).1 hx).1; omega
        have hlow := (hti.wt.lt lo rfl).2
        by_cases hlt : k < n
        · have hcw := hti.wcell hlt
          rw [HWS.out k hlt] at hcw
          have HPU := Lib.hid (heapPush_any lo hb k hv H wr hti.hp hti.heap (by omega) (by omega))
          unfold hIf at HPU
          clear hti hti3 hbel3 hB
          by_cases hz : cnt nx n k = 0
          · rw [hz] at hcw
            go_wp2_with (go_at_call 57
                         refine HPU.out.mono ?_
                         rintro e w5 ⟨rfl, hv5, H5, hp5, hq5, hh5, ho5, hc5⟩)
            go_roundw
            case rel =>
              refine ⟨k + 1, hv5, H5, by omega, by go_num, HTI.out.chg hc5 hp5 ho5 hh5 rfl, ?_, ?_, ?_⟩
              · show H5.Nodup
                refine hq5.nodup_iff.2 ?_
                rw [List.nodup_append]
                exact ⟨hnd.out, by simp, fun a ha b hb e => by
                  rw [List.mem_singleton] at hb
                  have := ((hmem.out a).1 ha).1
                  omega⟩
              · show ∀ x, x ∈ H5 ↔ x < k + 1 ∧ cnt nx n x = 0
                intro x
                rw [hq5.mem_iff, List.mem_append, hmem.out, List.mem_singleton]
                constructor
                · rintro (⟨h1, h2⟩ | rfl)
                  · exact ⟨by omega, h2⟩
                  · exact ⟨by omega, hz⟩
                · rintro ⟨h1, h2⟩
                  rcases Nat.lt_or_ge x k with h3 | h3
                  · exact .inl ⟨h3, h2⟩
                  · exact .inr (by omega)
              · refine HBi.out.trans (hc5.below (fun b hb1 h1 => ?_) (by omega))
                rcases h1 with h1 | h1
                · omega
                · exact (HTI.out.hp.own.lt b h1).1
            case measure => simp [intOf]; omega
          · obtain ⟨y, hy⟩ : ∃ y, cnt nx n k = y := ⟨_, rfl⟩
            have hz2 : ((y : Int) == 0) = false := by simp; omega
            have HZ := Lib.hid hz
            rw [hy] at hcw
            clear hz hy
            go_wp2_with fail
            go_roundw
            case rel =>
              refine ⟨k + 1, hv, H, by omega, by go_num, HTI.out, hnd, ?_, HBi.out⟩
              show ∀ x, x ∈ H ↔ x < k + 1 ∧ cnt nx n x = 0
              intro x
              rw [hmem.out]
              constructor
              · rintro ⟨h1, h2⟩
                exact ⟨by omega, h2⟩
              · rintro ⟨h1, h2⟩
                rcases Nat.lt_or_ge x k with h3 | h3
                · exact ⟨h3, h2⟩
                · obtain rfl : x = k := by omega
                  exact absurd h2 HZ.out
            case measure => simp [intOf]; omega
        · obtain rfl : n = k := by omega
          clear hti hti3 hbel3 hB
          go_wp2_with fail
          obtain ⟨w6, hw6⟩ : ∃ W, wr.alloc (.cells (Array.replicate n (.int .i64 0)) 3) = W := ⟨_, rfl⟩
          have hti6 : TI n lo lo hb w6 hv (.slice (some ⟨wr.heap.size, 0, none⟩) 0 n) ws H [] := by rw [← hw6]; exact HTI.out.ord (by omega) (by omega)
          have hbel6 : Below lo w1 w6 := by rw [← hw6]; exact HBi.out.alloc (by omega) _
          have hrdy : Ready nx [] H := ready_start hnd.out fun x => by rw [HN.out]; exact hmem.out x
          have hwt0 : ∀ x, x < n → hAt ws x = kWait nx [] x := fun x hx => by rw [HWS.out x hx, wait_cnt, HN.out]
          rw [hw6]
          clear hnd hmem HTI HBi
          go_loopw [15] (fun i wq => ∃ (hv ov : Value) (ws H d : List Nat), i = ov ∧ TI n lo lo hb wq hv ov ws H d ∧ Hid (KOk nx d) ∧ Hid (Ready nx d H) ∧ Hid (∀ x, x < n → hAt ws x = kWait nx d x) ∧ Below lo w1 wq) (fun i _ => n - vLenG i)
          case atStart => exact ⟨_, _, _, _, _, rfl, hti6, KOk.nil nx, hrdy, hwt0, hbel6⟩
          case round =>
            obtain ⟨hv, ov, ws, H, d, rfl, hti, hok, hrd, hwt, hB⟩ := hrel
            have HTI := Lib.hid hti
            have HBq := Lib.hid hB
            have hlow := (hti.wt.lt lo rfl).2
            have hHl := hrd.out.len
            have hdl := hok.out.len
            have hNl := HN.out
            rw [hNl] at hHl hdl
            have HLE := Lib.hid (hlen_any lo hb hv H _ hti.hp)
            obtain ⟨wq, hwq⟩ : ∃ W, W = wr := ⟨_, rfl⟩
            subst hwq
            obtain ⟨ov, hov⟩ : ∃ O, O = u15 := ⟨_, rfl⟩
            subst hov
            obtain ⟨oA, oc, rfl, _, _⟩ := hti.od.slice
            clear hti6 hbel6 hrdy hwt0 hB
            rcases Nat.eq_zero_or_pos H.length with hH | hH
            · obtain rfl : H = [] := List.eq_nil_of_length_eq_zero hH
              have HEND := Lib.hid (hok.out.done hrd.out)
              clear hti
              by_cases hdn : d.length = n
              · go_wp2_with (go_at_call 58
                             refine HLE.out.mono ?_
                             rintro e w8 ⟨rfl, rfl⟩)
                go_ret2
                have hodn := HTI.out.od
                rw [hdn] at hodn
                refine ⟨.slice oA n oc, by rw [HEND.out, decide_eq_true hdn]; rfl, ?_, HB1.out.trans (HBq.out.mono (by omega))⟩
                unfold topoR
                rw [HEND.out, HN.out, if_pos hdn]
                exact hodn.base_ fun b hb' => by have := (hodn.lt b hb').1; omega
              · go_wp2_with (go_at_call 58
                             refine HLE.out.mono ?_
                             rintro e w8 ⟨rfl, rfl⟩)
                go_ret2
                refine ⟨.slice none 0 0, by rw [HEND.out, decide_eq_false hdn]; rfl, ?_, HB1.out.trans (HBq.out.mono (by omega))⟩
                unfold topoR
                rw [HEND.out, HN.out, if_neg hdn]
                exact Own.nil _ _
            · have HPO := Lib.hid (heapPop_any lo hb (H.length - 1) hv H wq hti.hp hti.heap (by omega) (by omega))
              unfold hIf at HPO
              have hv0 := List.mem_of_getElem? (hAt_get H hH)
              have hlst := heap_least hti.heap
              obtain ⟨x0, hx0⟩ : ∃ x, hAt H 0 = x := ⟨_, rfl⟩
              rw [hx0] at HPO hv0 hlst
              obtain ⟨hxn, hcan⟩ := (hrd.out.mem x0).1 hv0
              have hxd := ((canGo_iff _ _ _).1 hcan).1
              have HOK := Lib.hid (hok.out.step hrd.out hv0 hlst)
              have HCAN := Lib.hid hcan
              have HXD := Lib.hid hxd
              rw [hNl] at hxn
              have hta := HTA.out (x0 : Int)
              obtain ⟨rv, l, hrv, hl, hro, hrcv⟩ := HR.out.at_ (i := x0) (by rw [hNl]; exact hxn)
              obtain ⟨A', cc, rfl, hlc, hcm⟩ := hro.slice
              have HNBK := Lib.hid (show nb nx x0 = l by unfold nb; rw [hl]; rfl)
              have hll : l.length ≤ 800 := by rw [← HNBK.out]; exact HNB.out x0
              have HL := Lib.hid (HG.out l (List.mem_of_getElem? hl))
              have HRO := Lib.hid hro
              have HRCV := Lib.hid hrcv
              clear hti hlst hx0 hrv hl hro hrcv hxd hcan
              go_wp2_with (first
                | (go_at_call 58
                   refine HLE.out.mono ?_
                   rintro e w8 ⟨rfl, rfl⟩)
                | (go_at_call 59
                   refine HPO.out.mono ?_
                   rintro e w9 ⟨rfl, hv9, H9, hp9, hq9, hh9, ho9, hc9⟩
                   have hti9 := HTI.out.chg hc9 hp9 (fun b hb' => .inl (by rw [← ho9]; exact hb')) hh9 rfl
                   have HTI9 := Lib.hid hti9
                   have HB9 := Lib.hid (HBq.out.trans (hc9.below (B := lo) (fun b hb1 h1 => by
                     rcases h1 with h1 | h1
                     · omega
                     · exact (HTI.out.hp.own.lt b h1).1) (by omega)))
                   have HMID := Lib.hid (Mid.start hrd.out hq9)
                   have HOA := Lib.hid (own_of_block (w' := w9.alloc (.cells #[.int .i64 (x0 : Int)] 3)) hti9.od (fun b hb => Below.heap_alloc _ _ _ (hti9.od.lt b hb).2))
                   have hlow9 := (hti9.wt.lt lo rfl).2
                   clear hti9 hp9 hq9 hh9 ho9 hc9)
                | (at_builtin
                   refine wpList_append_lies _ rfl (.tmp 70) (.tmp 72) 22 rfl lo 3 i0 _ 1 8 Tryd.underlying22 hi0 hz0 hz1 hz2 rfl (by decide) (.slice oA d.length oc) d.length (d.map nv) rfl HOA.out ⟨w9.heap.size, 0, none⟩ 1 1 [.int .i64 (x0 : Int)] rfl rfl (fun j u hu => cell_one_new w9 _ _ j u hu) (by simp [Value.oneCell']) (by decide) (by simp only [maxLen]; omega) (by omega) (by simp; omega) _ rfl ?_
                   intro g7 c7 w7 hown7 hgrow7 hat7 hlt7
                   have ho7 : Own w7 lo (.slice (some ⟨g7, 0, none⟩) (d.length + 1) c7) (d ++ [x0]) := by
                     unfold Own
                     rw [List.length_append, List.map_append]
                     exact hown7
                   have HTI7 := Lib.hid (HTI9.out.app ho7 hgrow7 (fun b hb' => by
                     have e1 : g7 = b := by simpa [Value.ownBlock] using hb'
                     subst e1
                     rcases hat7 with e | e
                     · exact .inl e
                     · exact .inr (by simp at e; omega)))
                   have HB7 := Lib.hid ((HB9.out.alloc (by omega) _).grown hgrow7 (by simp; omega) (fun b e => (HTI9.out.od.lt b e).1))
                   have hc7 := (HB7.out.cell (p := ⟨g, x0, none⟩) (by show g < _; omega)).trans HRCV.out
                   clear ho7 hown7 hgrow7 hat7))
              have hwt7 : ∀ x, x < n → hAt ws x = mWait nx d x0 0 x := fun x hx => by
                rw [hwt.out x hx]
                unfold mWait
                rw [List.take_zero]
                simp
              have HWT7 := Lib.hid hwt7
              clear hwt7 hc7
              go_loopw [79] (fun i wi => ∃ (j : Nat) (hv : Value) (ws H : List Nat), j ≤ l.length ∧ i = .int .i64 j ∧ TI n lo lo hb wi hv (.slice (some ⟨g7, 0, none⟩) (d.length + 1) c7) ws H (d ++ [x0]) ∧ Hid (Mid nx d x0 j H) ∧ Hid (∀ x, x < n → hAt ws x = mWait nx d x0 j x) ∧ Below lo w1 wi) (fun i _ => l.length - (intOf i).toNat)
              case atStart => exact ⟨0, _, _, _, Nat.zero_le _, rfl, HTI7.out, HMID.out, HWT7.out, HB7.out⟩
              case round =>
                obtain ⟨j, hvi, wsi, Hi, hj, rfl, hti, hmid, hwti, hB⟩ := hrel
                have HTIi := Lib.hid hti
                have HBi := Lib.hid hB
                have hlowi := (hti.wt.lt lo rfl).2
                have hHi := hmid.out.len
                rw [hNl] at hHi
                obtain ⟨wi, hwi⟩ : ∃ W, W = wr := ⟨_, rfl⟩
                subst hwi
                by_cases hlj : j < l.length
                · obtain ⟨gl, cl, e, hg1, hg2, _, _⟩ := HRO.out.form (by omega)
                  injection e with e1 e2 e3
                  subst e1 e3
                  have hcx := HRO.out.cell hlj
                  obtain ⟨x, hx⟩ : ∃ x, l[j]?.getD 0 = x := ⟨_, rfl⟩
                  rw [hx] at hcx
                  have hxl : l[j]? = some x := by rw [List.getElem?_eq_getElem hlj] at hx ⊢; exact congrArg some hx
                  have hxnb : (nb nx x0)[j]? = some x := by rw [HNBK.out]; exact hxl
                  have hxn2 : x < n := by have := HL.out.2 x (List.mem_of_getElem? hxl); rw [hNl] at this; exact this
                  have hcx1 : wi.cell? ⟨gl, j, none⟩ = some (.int .i64 (x : Int)) := (hB.cell (p := ⟨gl, j, none⟩) (by show gl < _; omega)).trans hcx
                  have hcnt := mid_count HG.out (by rw [hNl]; exact hxn) HXD.out hxnb
                  have hkw := kWait_le nx (d ++ [x0]) x
                  have hcw := hti.wcell hxn2
                  have hfw := hti.wfree x
                  rw [hwti.out x hxn2, hcnt.1] at hcw
                  obtain ⟨y, hy⟩ : ∃ y, kWait nx (d ++ [x0]) x = y := ⟨_, rfl⟩
                  rw [hy] at hcnt hkw hcw
                  have hy8 : y ≤ 800 := by omega
                  have hcast : ((y + 1 : Nat) : Int) = (y : Int) + 1 := by omega
                  rw [hcast] at hcw
                  have hsub : (y : Int) + 1 - 1 = (y : Int) := by omega
                  have HCNT := Lib.hid hcnt
                  have HXNB := Lib.hid hxnb
                  have HY := Lib.hid hy
                  have hts := hti.setw x y
                  have HTS := Lib.hid hts
                  have HBS := Lib.hid (hB.setCell (p := ⟨lo, x, none⟩) (Nat.le_refl _) (nv y))
                  have HWN := Lib.hid (show ∀ z, z < n → hAt (wsi.set x y) z = mWait nx d x0 (j + 1) z from fun z hz => by
                    rw [hAt_set _ _ _ _ (by rw [HTIi.out.wl]; exact hxn2)]
                    by_cases e : x = z
                    · subst e
                      rw [if_pos rfl, HCNT.out.2]
                    · rw [if_neg e, hwti.out z hz, mid_other HG.out (by rw [hNl]; exact hxn) HXNB.out (fun h => e h.symm)])
                  have hsz : (wi.setCell ⟨lo, x, none⟩ (nv y)).heap.size = wi.heap.size := by simp [World.setCell]
                  have HPU := Lib.hid (heapPush_any lo hb x hvi Hi (wi.setCell ⟨lo, x, none⟩ (nv y)) hts.hp hts.heap (by omega) (by omega))
                  unfold hIf nv at HPU
                  have HHV := Lib.hid (show ∀ b, hvi.ownBlock = some b → lo ≤ b from fun b hb' => (HTIi.out.hp.own.lt b hb').1)
                  clear hx hxl hcx hB hcnt hy hts hti hkw hxnb
                  by_cases hz : y = 0
                  · have hz2 : ((y : Int) == 0) = true := by simp; omega
                    have HZ := Lib.hid hz
                    clear hz
                    go_wp2_with (go_at_call 57
                                 refine HPU.out.mono ?_
                                 rintro e w5 ⟨rfl, hv5, H5, hp5, hq5, hh5, ho5, hc5⟩)
                    go_roundw
                    case rel =>
                      refine ⟨j + 1, hv5, _, H5, by omega, by go_num, HTS.out.chg hc5 hp5 ho5 hh5 rfl, hmid.out.push hok.out (by rw [hNl]; exact hxn) HCAN.out HG.out HXNB.out (by rw [HY.out]; exact HZ.out) hq5, HWN.out, HBS.out.trans (hc5.below (fun b hb1 h1 => ?_) (by show lo ≤ (wi.setCell ⟨lo, x, none⟩ (nv y)).heap.size; omega))⟩
                      rcases h1 with h1 | h1
                      · omega
                      · exact HHV.out b h1
                    case measure => simp [intOf]; omega
                  · have hz2 : ((y : Int) == 0) = false := by simp; omega
                    go_wp2_with fail
                    go_roundw
                    case rel => exact ⟨j + 1, hvi, _, Hi, by omega, by go_num, HTS.out, hmid.out.skip (by rw [hNl]; exact hxn) HG.out HXNB.out (by rw [HY.out]; exact hz), HWN.out, HBS.out⟩
                    case measure => simp [intOf]; omega
                · obtain rfl : l.length = j := by omega
                  have HALL := Lib.hid (show Ready nx (d ++ [x0]) Hi from Mid.all (by rw [HNBK.out]; exact hmid.out) (by rw [hNl]; exact hxn) HXD.out)
                  have HWN := Lib.hid (show ∀ z, z < n → hAt wsi z = kWait nx (d ++ [x0]) z from fun z hz => by
                    rw [hwti.out z hz, ← HNBK.out, mid_end (by rw [hNl]; exact hxn) HXD.out])
                  clear hti hB
                  go_wp2_with fail
                  go_roundw
                  case rel => exact ⟨hvi, _, wsi, Hi, d ++ [x0], rfl, HTIi.out, HOK.out, HALL.out, HWN.out, HBi.out⟩
                  case measure =>
                    have := HOK.out.len
                    rw [hNl, List.length_append, List.length_singleton] at this
                    simp only [vLenG]
                    omega
end Go.Proofs.YtlgdcbhdmffnoaaDoor
