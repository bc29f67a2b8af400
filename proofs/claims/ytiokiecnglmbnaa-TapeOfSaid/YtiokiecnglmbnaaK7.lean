/-
  The iterator over a map's questions, and what slices.Collect makes of it: the questions with an answer, each once. Conditions: the map's size.
  slices.Collect of a map's questions: a new row that holds each question with an answer once. Conditions: the map's size.
-/
import Derived.RangeFuncNested
import Derived.RangeFuncBound
import Derived.RangeFuncCalls
import Derived.RangeFuncLeaves
import Derived.RangeFuncBox
import Derived.Shelf.Abstract
import Derived.Shelf.RegionOpen
import Derived.WalkKit
import Derived.OwnWalkIn
import Derived.TacticsInMore
import Derived.LoopNIn
import Derived.LoopIn
import Derived.Sort.MapsRangeIn
import Derived.Test.YtiokiecnglmbnaaK4

namespace Go.Proofs.Ytiokiecnglmbnaa
open Go Go.RowKit Go.Proofs Go.Shelf Go.MapKept
open Go.ChangeMaps (setBlock)
attribute [local go_sem] Oper.semAt_some

def quC (q : NM.Qu) : List Value := [.int .i64 q.c, .int .i64 q.h, .int .i64 q.t, .int .i64 q.k, .int .i64 q.i]
/-- A range over the map of block B is under way in block r: ss has come, cnt are left. -/
def ItQ (w : World) (r B : Nat) (f : NM.Qu → Int) (n : Nat) (ss : List NM.Qu) (cnt : Nat) : Prop :=
  ∃ es clock since seen c0 ps, w.heap[B]? = some (.map es clock) ∧ EsQ es clock f ∧ es.size ≤ n ∧ w.heap[r]? = some (.mapIter (some B) since seen c0) ∧ (∀ x ∈ es.toList, x.born < since) ∧ since ≤ c0 ∧ since ≤ clock ∧
    seen.toList = List.map (fun x : MapEntry => x.born) ps ∧ List.map (fun x : MapEntry => x.key) ps = ss.map quV ∧ (List.map (fun x : MapEntry => x.born) ps).Nodup ∧ (∀ x ∈ ps, x ∈ es.toList) ∧ (leftOf es seen).size = cnt ∧ ss.length + cnt ≤ n
/-- What comes of it: each question with an answer, once. -/
def SetQ (f : NM.Qu → Int) (ss : List NM.Qu) : Prop := ss.Nodup ∧ ∀ q, q ∈ ss ↔ 0 < f q
theorem ItQ.left_eq {w : World} {r B n cnt : Nat} {f : NM.Qu → Int} {ss : List NM.Qu} (h : ItQ w r B f n ss cnt) : w.rangeLeft B r = cnt := by
  obtain ⟨es, clock, since, seen, c0, ps, hb, _, _, hr, _, _, _, _, _, _, _, hc, _⟩ := h
  simp [World.rangeLeft, hb, hr, hc]
theorem ItQ.len {w : World} {r B n cnt : Nat} {f : NM.Qu → Int} {ss : List NM.Qu} (h : ItQ w r B f n ss cnt) : ss.length + cnt ≤ n := by
  obtain ⟨es, clock, since, seen, c0, ps, _, _, _, _, _, _, _, _, _, _, _, _, hl⟩ := h
  exact hl
theorem ItQ.iter {w : World} {r B n cnt : Nat} {f : NM.Qu → Int} {ss : List NM.Qu} (h : ItQ w r B f n ss cnt) : ∃ o : Obj, w.heap[r]? = some o ∧ o.isWalk = true := by
  obtain ⟨es, clock, since, seen, c0, ps, _, _, _, hr, _⟩ := h
  exact ⟨_, hr, rfl⟩
theorem ItQ.keep {w w' : World} {r B n cnt : Nat} {f : NM.Qu → Int} {ss : List NM.Qu} (h : ItQ w r B f n ss cnt) (hb : w'.heap[B]? = w.heap[B]?) (hr : w'.heap[r]? = w.heap[r]?) : ItQ w' r B f n ss cnt := by
  obtain ⟨es, clock, since, seen, c0, ps, h1, h2, h3, h4, h5⟩ := h
  exact ⟨es, clock, since, seen, c0, ps, hb.trans h1, h2, h3, hr.trans h4, h5⟩
theorem ItQ.walks {w w' : World} {r B n cnt : Nat} {f : NM.Qu → Int} {ss : List NM.Qu} (h : ItQ w r B f n ss cnt) (hk : KeepsWalks w w') : ItQ w' r B f n ss cnt := by
  obtain ⟨es, clock, since, seen, c0, ps, h1, h2, h3, h4, h5⟩ := h
  exact ⟨es, clock, since, seen, c0, ps, hk.same _ _ h1 rfl, h2, h3, hk.same _ _ h4 rfl, h5⟩
theorem nodup_of_map {α β : Type} {g : α → β} : ∀ {l : List α}, (l.map g).Nodup → l.Nodup := fun {l} h => (List.pairwise_map.1 h).imp fun hne e => hne (by rw [e])
theorem ItQ.done {w : World} {r B n : Nat} {f : NM.Qu → Int} {ss : List NM.Qu} (h : ItQ w r B f n ss 0) : SetQ f ss := by
  obtain ⟨es, clock, since, seen, c0, ps, hb, hE, _, _, _, _, _, hs, hk, hn, hm, hc, _⟩ := h
  have hall : ∀ x ∈ es.toList, x ∈ ps := fun x hx => by
    have h1 := all_seen es seen hc x hx
    have h2 : x.born ∈ seen.toList := by simpa using h1
    rw [hs] at h2
    obtain ⟨y, hy, e⟩ := List.mem_map.1 h2
    have hnd := ((stamped_iff es clock).1 hE.st).2.1
    have : y = x := by
      have hp := List.pairwise_map.1 hnd
      by_cases hyx : y = x
      · exact hyx
      · exfalso
        obtain ⟨i, hi, ei⟩ := List.getElem_of_mem (hm y hy)
        obtain ⟨j, hj, ej⟩ := List.getElem_of_mem hx
        have hp := List.pairwise_iff_getElem.1 hp
        rcases Nat.lt_trichotomy i j with hlt | heq | hlt
        · have := hp i j hi hj hlt
          rw [ei, ej] at this
          exact this e
        · subst heq
          exact hyx (ei.symm.trans ej)
        · have := hp j i hj hi hlt
          rw [ei, ej] at this
          exact this e.symm
    exact this ▸ hy
  have hpk : ps.Pairwise fun x y => x.key ≠ y.key := by
    have hpw := ((stamped_iff es clock).1 hE.st).2.2
    have hpp := nodup_of_map hn
    refine List.Pairwise.imp_of_mem (R := fun x y => x ≠ y) ?_ hpp
    intro a b ha hb hne e
    obtain ⟨i, hi, ei⟩ := List.getElem_of_mem (hm a ha)
    obtain ⟨j, hj, ej⟩ := List.getElem_of_mem (hm b hb)
    have hp := List.pairwise_iff_getElem.1 hpw
    rcases Nat.lt_trichotomy i j with hlt | heq | hlt
    · have := hp i j hi hj hlt
      rw [ei, ej] at this
      exact this e
    · subst heq
      exact hne (ei.symm.trans ej)
    · have := hp j i hj hi hlt
      rw [ei, ej] at this
      exact this e.symm
  refine ⟨?_, fun q => ?_⟩
  · have h1 : (ss.map quV).Nodup := by
      rw [← hk]
      exact List.pairwise_map.2 hpk
    exact nodup_of_map h1
  · constructor
    · intro hq
      have h1 : quV q ∈ ss.map quV := List.mem_map.2 ⟨q, hq, rfl⟩
      rw [← hk] at h1
      obtain ⟨x, hx, e⟩ := List.mem_map.1 h1
      obtain ⟨r, k1, _, k3⟩ := hE.val x (hm x hx)
      obtain rfl := quV_inj (k1.symm.trans e)
      exact k3
    · intro hq
      obtain ⟨x, hx, e⟩ := hE.all q hq
      have h1 : quV q ∈ List.map (fun x : MapEntry => x.key) ps := List.mem_map.2 ⟨x, hall x hx, e⟩
      rw [hk] at h1
      obtain ⟨r, hr, e2⟩ := List.mem_map.1 h1
      exact quV_inj e2 ▸ hr
theorem MapQ.range {w : World} {B n : Nat} {f : NM.Qu → Int} (h : MapQ w B f n) : ∃ w' cnt, (Instr.range 85 (.map (some B))).run Try.prog w = .ok (.pointer (some ⟨w.heap.size, 0, none⟩)) w' ∧ ItQ w' w.heap.size B f n [] cnt ∧ w.grownBy w' none ∧ w'.heap.size = w.heap.size + 1 := by
  have hlt := h.lt
  obtain ⟨es, clock, hb, hE, hs⟩ := h
  refine ⟨_, es.size, run_range_map w _ _ _ B es clock under_map hb, ⟨es, clock, clock, #[], clock, [], ((MapKept.heap_alloc w _).2 B hlt).trans hb, hE, hs, (MapKept.heap_alloc w _).1, hE.st.1, Nat.le_refl _, Nat.le_refl _, rfl, rfl, by simp, by simp, ?_, by simpa using hs⟩, World.grownBy_alloc w _ none, by simp⟩
  simp [leftOf]
theorem ItQ.next {w : World} {r B n cnt : Nat} {f : NM.Qu → Int} {ss : List NM.Qu} (h : ItQ w r B f n ss cnt) (ty : TypeId) :
    (cnt = 0 ∧ (Instr.next (.pointer (some ⟨r, 0, none⟩)) false ty).run Try.prog w = .ok (.tuple #[.bool false]) w) ∨
    ∃ q v w' cnt', (Instr.next (.pointer (some ⟨r, 0, none⟩)) false ty).run Try.prog w = .ok (.tuple #[.bool true, quV q, .int .i64 v]) w' ∧ ItQ w' r B f n (ss ++ [q]) cnt' ∧ cnt' < cnt ∧ w.grownBy w' (some r) ∧ w'.heap.size = w.heap.size ∧
      (Instr.entry (.pointer (some ⟨r, 0, none⟩))).run Try.prog w' = .ok (.tuple #[quV q, .int .i64 v]) w' ∧ v = f q ∧ 0 < f q := by
  obtain ⟨es, clock, since, seen, c0, ps, hb, hE, hs, hr, hold, hsc, hsk, hsn, hk, hn, hm, hc, hl⟩ := h
  have hne : r ≠ B := fun e => by subst e; rw [hb] at hr; cases hr
  rcases run_next_at (P := Try.prog) w ty r B since c0 seen es clock hr hb hold hsc with ⟨h0, hrun⟩ | ⟨e, he, w1, hal, hrun⟩
  · exact .inl ⟨hc.symm.trans h0, hrun⟩
  · obtain ⟨hem, hes⟩ := mem_left he
    obtain ⟨q, k1, k2, k3⟩ := hE.val e hem
    have hr1 : w1.heap[r]? = some (.mapIter (some B) since seen c0) := by rcases hal with rfl | rfl <;> exact hr
    have hb1 : w1.heap[B]? = some (.map es clock) := by rcases hal with rfl | rfl <;> exact hb
    have hset := heap_set (o' := .mapIter (some B) since (seen.push e.born) clock) hr1
    have hb' : (setBlock w1 r (.mapIter (some B) since (seen.push e.born) clock)).heap[B]? = some (.map es clock) := (hset.2 B (fun e1 => hne e1.symm)).trans hb1
    have hsh := left_shrinks es seen e he
    have hentry := run_entry_at (P := Try.prog) _ r B since seen es clock e hset.1 hb' hem ((stamped_iff es clock).1 hE.st).2.1
    rw [k1, k2] at hrun
    rw [k1, k2] at hentry
    refine .inr ⟨q, f q, _, _, hrun, ⟨es, clock, since, seen.push e.born, clock, ps ++ [e], hb', hE, hs, hset.1, hold, hsk, hsk, ?_, ?_, ?_, ?_, rfl, ?_⟩, by rw [← hc]; exact hsh, ?_, ?_, hentry, rfl, k3⟩
    · rw [Array.toList_push, hsn, List.map_append]
      rfl
    · rw [List.map_append, List.map_append, hk]
      show _ ++ [e.key] = _ ++ [quV q]
      rw [k1]
    · rw [List.map_append]
      refine List.nodup_append.2 ⟨hn, by simp, ?_⟩
      intro a ha b hb2 e2
      simp only [List.map_cons, List.map_nil, List.mem_singleton] at hb2
      subst hb2
      subst e2
      rw [← hsn] at ha
      have : seen.contains e.born = true := by simpa using ha
      rw [hes] at this
      cases this
    · intro x hx
      rcases List.mem_append.1 hx with hx | hx
      · exact hm x hx
      · rw [List.mem_singleton] at hx
        exact hx ▸ hem
    · rw [List.length_append, List.length_singleton]
      omega
    · rcases hal with rfl | rfl <;> exact ⟨rfl, rfl, rfl, by simp [setBlock], fun i _ hi => hset.2 i (fun e1 => hi (by rw [e1]))⟩
    · rcases hal with rfl | rfl <;> simp [setBlock]
section
variable {F : Fence} {m : Nat} (w : World) {ops : Array Oper} {rest : List Oper} {o : Oper} {a : Act} {Q : Exit → Act → World → Prop}
theorem wpListIn_range_q (hg : o.guard = none) (x : Operand) (hop : o.op = Op.range 85 x) (B n : Nat) (f : NM.Qu → Int) (hm : a.eval x = .map (some B)) (h : MapQ w B f n)
    (hK : ∀ w' cnt, ItQ w' w.heap.size B f n [] cnt → w.grownBy w' none → w'.heap.size = w.heap.size + 1 → wpListIn F m Try.prog ops Q rest (a.put o.dst (.pointer (some ⟨w.heap.size, 0, none⟩))) w') :
    wpListIn F m Try.prog ops Q (o :: rest) a w := by
  refine wpListIn_plain hg fun K' hK' => ?_
  obtain ⟨w', cnt, hrun, r1, r2, r3⟩ := h.range
  unfold Oper.wpIn
  refine ⟨?_, ?_⟩
  · simp [Oper.about, hop]
  · rw [Oper.semAt_plain F _ _ (by rw [hop]; intro c hc'; cases hc')]
    simp [execOp, hop, hm, hrun, Result.andThen]
    exact hK' _ _ (hK w' cnt r1 r2 r3)
theorem wpListIn_next_q (hg : o.guard = none) (it : Operand) (hop : o.op = Op.next it false) (r B n cnt : Nat) (f : NM.Qu → Int) (ss : List NM.Qu) (hit : a.eval it = .pointer (some ⟨r, 0, none⟩)) (h : ItQ w r B f n ss cnt)
    (hDone : cnt = 0 → wpListIn F m Try.prog ops Q rest (a.put o.dst (.tuple #[.bool false])) w)
    (hMore : ∀ q v w' cnt', ItQ w' r B f n (ss ++ [q]) cnt' → cnt' < cnt → w.grownBy w' (some r) → w'.heap.size = w.heap.size → (Instr.entry (.pointer (some ⟨r, 0, none⟩))).run Try.prog w' = .ok (.tuple #[quV q, .int .i64 v]) w' → v = f q → 0 < f q → wpListIn F m Try.prog ops Q rest (a.put o.dst (.tuple #[.bool true, quV q, .int .i64 v])) w') :
    wpListIn F m Try.prog ops Q (o :: rest) a w := by
  refine wpListIn_plain hg fun K' hK' => ?_
  unfold Oper.wpIn
  refine ⟨by simp [Oper.about, hop], ?_⟩
  rw [Oper.semAt_plain F _ _ (by rw [hop]; intro c hc'; cases hc')]
  rcases h.next o.type with ⟨h0, hrun⟩ | ⟨q, v, w', cnt', hrun, hrg, hlt, hgr, hsz, hen, hv, hp⟩
  · simp [execOp, hop, hit, hrun, Result.andThen]
    exact hK' _ _ (hDone h0)
  · simp [execOp, hop, hit, hrun, Result.andThen]
    exact hK' _ _ (hMore q v w' cnt' hrg hlt hgr hsz hen hv hp)
end
set_option maxRecDepth 100000 in
set_option maxHeartbeats 2000000 in
theorem keys1_in (n : Nat) (hn : 1 ≤ n) (l Bm B m : Nat) (f : NM.Qu → Int) (J Jx : List NM.Qu → World → Prop) (W : World) (hJ : AbidesFrom W.heap.size J)
    (hY : ∀ pre x V, J pre V → pre.length < m → YieldAt Fence.wide (n - 1) Try.prog l #[quV x] V fun e W' => (e = .returned (.bool true) ∧ J (pre ++ [x]) W' ∧ KeepsWalks V W') ∨ (e = .returned (.bool false) ∧ Jx (pre ++ [x]) W'))
    (hBm : W.cell? ⟨Bm, 0, none⟩ = some (.map (some B))) (hm : MapQ W B f m) (h0 : J [] W) :
    CallsIn Fence.wide n Try.prog 91 #[.func (.yield l) #[] #[], .pointer (some ⟨Bm, 0, none⟩)] W fun e W' => (∃ v, e = .returned v) ∧ ((∃ ss, SetQ f ss ∧ J ss W') ∨ (∃ pre, True ∧ Jx pre W')) := by
  refine callsIn_of_wp Try.func91 rfl trivial ?_ rfl
  simp only [Try.ntmps91, List.size_toArray, List.length_cons, List.length_nil, Nat.reduceAdd, Nat.reduceSub, Array.replicate_succ, Array.replicate_zero, List.push_toArray, List.append_toArray, List.nil_append, List.cons_append]
  gi_wp2_with (first
    | (gi_at_range; refine wpListIn_range_q _ rfl _ rfl B m f rfl hm ?_; intro w0 cnt0 hrg0 hg0 hs0)
    | gi_in)
  go_frame
  gi_loopw [3] (fun _ wr => ∃ (ss : List NM.Qu) (cnt : Nat), ItQ wr W.heap.size B f m ss cnt ∧ Hid (J ss wr) ∧ W.heap.size < wr.heap.size) (fun _ wr => wr.rangeLeft B W.heap.size)
  case atStart => exact ⟨[], cnt0, hrg0, hJ [] W w0 none h0 hg0 (fun r e => by cases e), by omega⟩
  case round =>
    obtain ⟨ss, cnt, hrg, hJs, hsz⟩ := hrel
    gi_wp2_with (first
      | (gi_at_next; refine wpListIn_next_q _ rfl _ rfl W.heap.size B m cnt f ss rfl hrg ?_ ?_)
      | gi_in)
    · intro hc0
      subst hc0
      gi_wp2
      go_end0
      exact ⟨⟨_, rfl⟩, .inl ⟨ss, hrg.done, hJs.out⟩⟩
    · intro q v w2 cnt2 hrg2 hlt hg2 hs2 hen hv hp
      have hJ2 : J ss w2 := hJ ss wr w2 (some W.heap.size) hJs.out hg2 (fun r e => by cases e; exact ⟨Nat.le_refl _, hrg.iter⟩)
      obtain ⟨w3, hw3⟩ : ∃ V, w2.alloc (.cells (quC q).toArray 30) = V := ⟨_, rfl⟩
      have hJ3 : J ss w3 := hJ ss w2 w3 none hJ2 (by rw [← hw3]; exact World.grownBy_alloc w2 _ none) (fun r e => by cases e)
      have hk23 : KeepsWalks w2 w3 := by rw [← hw3]; exact KeepsWalks.alloc _ _
      have hlen := hrg2.len
      rw [List.length_append, List.length_singleton] at hlen
      obtain ⟨fn, tmps, assign, body, hy, hR⟩ := hY ss q w3 hJ3 (by omega)
      have hs3 : w3.heap.size = w2.heap.size + 1 := by rw [← hw3]; simp
      have HR := Lib.hid hR
      have HK := Lib.hid (And.intro hrg2 (And.intro hk23 (And.intro hlt hrg)))
      have hsz3 : W.heap.size < w3.heap.size := by omega
      clear hs2 hR hrg2 hk23 hJ2 hJ3 hv hp hlen hs3 hg2 hY hJ hlt hrg hJs
      obtain ⟨c, h, t, k, i⟩ := q
      have hw3' : w2.alloc (.cells #[.int .i64 c, .int .i64 h, .int .i64 t, .int .i64 k, .int .i64 i] 30) = w3 := hw3
      have r5 := row5 (show w3.heap[w2.heap.size]? = some (.cells #[.int .i64 c, .int .i64 h, .int .i64 t, .int .i64 k, .int .i64 i] 30 (0, 0)) by rw [← hw3']; exact World.alloc_heap_new w2 _)
      obtain ⟨r0, r1, r2, r3, r4⟩ := r5
      clear hw3
      gi_wp2
      refine HR.out.mono ?_
      rintro e W3 (⟨rfl, hJ3, hk3⟩ | ⟨rfl, hJx3⟩)
      · have hrg3 := HK.out.1.walks (HK.out.2.1.trans hk3)
        have HJ3 := Lib.hid hJ3
        have hsz4 : W.heap.size < W3.heap.size := Nat.lt_of_lt_of_le hsz3 hk3.size
        gi_wp2
        go_roundw
        case rel => exact ⟨_, cnt2, hrg3, HJ3, hsz4⟩
        case measure => rw [hrg3.left_eq, HK.out.2.2.2.left_eq]; exact HK.out.2.2.1
      · gi_wp2
        refine bodyPost_ret (results_none rfl _ _ _) rfl ?_
        exact ⟨⟨_, rfl⟩, .inr ⟨_, trivial, hJx3⟩⟩
theorem keys_stops (n : Nat) (hn : 1 ≤ n) (Bm B m : Nat) (f : NM.Qu → Int) (w : World) (hlt : Bm < w.heap.size) (hBm : w.cell? ⟨Bm, 0, none⟩ = some (.map (some B))) (hm : MapQ w B f m) :
    SeqStopsK Fence.wide n Try.prog 91 #[.pointer (some ⟨Bm, 0, none⟩)] (fun x => #[quV x]) KeepsWalks (SetQ f) (fun _ => True) m w :=
  fun l J Jx W hW hJ _ hY h0 => keys1_in n hn l Bm B m f J Jx W hJ hY ((hW.cell (p := ⟨Bm, 0, none⟩) hlt).trans hBm) (hm.keep hm.lt hW) h0
theorem keys_any (B : Nat) (w : World) : Calls Try.prog 72 #[.map (some B)] w fun e w' => e = .returned (.func (.func 91) #[] #[.pointer (some ⟨w.heap.size, 0, none⟩)]) ∧ w' = w.alloc (.cells #[.map (some B)] 85) := by
  go_enter Try.func72, Try.ntmps72
  go_wp2
  go_ret
  exact ⟨rfl, rfl⟩
end Go.Proofs.Ytiokiecnglmbnaa

namespace Go.Proofs.Ytiokiecnglmbnaa
open Go Go.RowKit Go.Proofs Go.Shelf
attribute [local go_sem] Oper.semAt_some

theorem info_que : (Try.prog.info? 30).map (fun i => (i.zero, i.size, i.bytes)) = some (some (.agg #[.int .i64 0, .int .i64 0, .int .i64 0, .int .i64 0, .int .i64 0]), 5, 40) := by kernel_rfl
theorem walks_of_others {W W' : World} (h : KeepsOthers W W') : KeepsWalks W W' := ⟨h.size, fun k o hk ho => h.same k o hk (Obj.not_cells_of_walk ho)⟩
theorem que_slice {w : World} {base k : Nat} {v : Value} {xs : List Value} (h : w.ownsRow base 30 5 v k xs) : ∃ A c, v = .slice A k c := by
  rcases h.2 with ⟨rfl, h0⟩ | ⟨g, cap, cur, rfl, _⟩
  · exact ⟨none, 0, by rw [h0]⟩
  · exact ⟨_, cap, rfl⟩
theorem block_own_c {b : Nat} {X Y : World} {row : Option Nat} {C : Array Value} {t : TypeId} {fr : Nat × Nat} (h : X.heap[b]? = some (.cells C t fr)) (hg : X.grownBy Y row) (hr : ∀ r, row = some r → ∃ o : Obj, X.heap[r]? = some o ∧ o.isCells = false) : Y.heap[b]? = some (.cells C t fr) := by
  rw [hg.block b (heap_lt h) ?_]
  · exact h
  · intro e
    obtain ⟨o, ho, hc⟩ := hr b e.symm
    rw [h] at ho
    injection ho with ho
    subst ho
    cases hc
theorem row_put' {W : World} {D n₀ k : Nat} {e : TypeId} {v : Value} {xs : List Value} (h : W.ownsRow n₀ e 5 v k xs) (hK : W.heap[D]? = some (.deferred (some []))) (o : Obj) : (W.putObj D o).ownsRow n₀ e 5 v k xs := by
  refine h.kept (grownBy_putObj' W D o) ?_
  rcases h.2 with ⟨rfl, _⟩ | ⟨g, cap, cur, rfl, _, hgb, _⟩
  · exact .inl rfl
  · refine .inr fun e' => ?_
    obtain rfl : g = D := by simpa [Value.ownBlock] using e'
    rw [hK] at hgb
    cases hgb
set_option maxRecDepth 100000 in
set_option maxHeartbeats 8000000 in
theorem appendSeq_in (n : Nat) (hn : 4 ≤ n) (Bm B m : Nat) (f : NM.Qu → Int) (w : World) (hlt : Bm < w.heap.size) (hBm : w.cell? ⟨Bm, 0, none⟩ = some (.map (some B))) (hm : MapQ w B f m) (hmb : m ≤ 1000000) :
    CallsIn Fence.wide n Try.prog 98 #[.slice none 0 0, .func (.func 91) #[] #[.pointer (some ⟨Bm, 0, none⟩)]] w fun e w' => ∃ A c ss, e = .returned (.slice A (List.length ss) c) ∧ SetQ f ss ∧ ss.length ≤ m ∧ w'.ownsRow w.heap.size 30 5 (.slice A ss.length c) ss.length (ss.flatMap quC) ∧ Below w.heap.size w w' := by
  have h1 : 1 ≤ n := by omega
  obtain ⟨i0, hi0, hz0, hz1, hz2⟩ := info_parts info_que
  refine callsIn_of_wp_marks Try.func98 rfl trivial ?_ rfl
  simp only [Try.ntmps98, List.size_toArray, List.length_cons, List.length_nil, Nat.reduceAdd, Nat.reduceSub, Array.replicate_succ, Array.replicate_zero, List.push_toArray, List.append_toArray, List.nil_append, List.cons_append]
  gi_wp2
  obtain ⟨W0, hW0⟩ : ∃ W0, w.alloc (.cells #[.slice none 0 0] 35) = W0 := ⟨_, rfl⟩
  have hB0 : Below w.heap.size w W0 := by rw [← hW0]; exact (Below.refl _ w).alloc (Nat.le_refl _) _
  have hsz : W0.heap.size = w.heap.size + 1 := by rw [← hW0]; simp
  have b0 : Boxed W0 w.heap.size 35 (.slice none 0 0) := by rw [← hW0]; exact Boxed.new w _ _
  rw [hW0]
  clear hW0
  refine wpIn_rangeFunc_ownH rfl h1 (gf := 91) (lb := #[.pointer (some ⟨Bm, 0, none⟩)]) rfl trivial (enters_of Try.func91 (by kernel_rfl) rfl)
    (keys_stops (n - 1) (by omega) Bm B m f w hlt hBm hm)
    (fun h k => KeepsWalks.trans h k) (fun W l o o' _ h _ hw => KeepsWalks.putObj o' h hw) hB0 (fun _ => rfl)
    (fun pre W => (∃ v, Boxed W w.heap.size 35 v ∧ W.ownsRow w.heap.size 30 5 v pre.length (pre.flatMap quC) ∧ (fun (_ : List NM.Qu) (_ : Value) => True) pre v) ∧ (pre.length ≤ m ∧ Below w.heap.size w W))
    (fun _ _ _ => False)
    (OwnFrom.and (Own.from (holdsRow_own _ _ _ _ _ _ _ (fun (_ : List NM.Qu) (_ : Value) => True)) _) (OwnFrom.and (ownFrom_pure _ _) (ownFrom_below (Nat.le_refl _) (by omega))))
    (fun c pre X Y row hx hg hr => hx)
    ⟨⟨_, b0, World.ownsRow_nil _ _ _ _, trivial⟩, Nat.zero_le _, hB0⟩
    (fun x a' W => ∃ Bx, W.heap[Bx]? = some (.cells (quC x).toArray 30 (0, 0)) ∧ a' = { tmps := #[.slice none 0 0, .func (.func 91) #[] #[.pointer (some ⟨Bm, 0, none⟩)], .pointer (some ⟨w.heap.size, 0, none⟩), undef, .slice none 0 0, .pointer (some ⟨Bx, 0, none⟩), .func (.func 91) #[] #[.pointer (some ⟨Bm, 0, none⟩)], quV x, undef, undef, undef, undef, undef], defers := [] })
    (fun x a' _ X Y row hs hg hr => by obtain ⟨Bx, h1, h3⟩ := hs; exact ⟨Bx, block_own_c h1 hg (fun r e => (hr r e).2), h3⟩)
    ?assign ?body ?done ?stop
  case assign =>
    rintro l pre x W K ⟨⟨v, c3, hr, hv⟩, hz, hB⟩ hK
    have hK := Lib.hid hK
    gi_wp2
    exact hK.out _ _ ((KeepsOthers.alloc _ _).from _) (KeepsWalks.alloc _ _) ⟨⟨v, c3.alloc _, hr.alloc _, hv⟩, hz, hB.alloc hB.size _⟩ ⟨W.heap.size, World.alloc_heap_new W _, rfl⟩
  case body =>
    rintro l pre x a' W hl ⟨r, hr⟩ ⟨⟨v, c3, hrow, hv⟩, hz, hB⟩ ⟨Bx, htk, rfl⟩ hlt2
    obtain ⟨c, h, t, k, i⟩ := x
    obtain ⟨t0, t1, t2, t3, t4⟩ := row5 (show W.heap[Bx]? = some (.cells #[.int .i64 c, .int .i64 h, .int .i64 t, .int .i64 k, .int .i64 i] 30 (0, 0)) from htk)
    have hvc := c3.cell
    have hsz1 := hB.size
    have hpl : pre.length ≤ 1000000 := by omega
    have hnews : ∀ j u, (quC ⟨c, h, t, k, i⟩)[j]? = some u → (W.alloc (.cells #[.int .i64 c, .int .i64 h, .int .i64 t, .int .i64 k, .int .i64 i] 30)).cell? ((⟨W.heap.size, 0, none⟩ : Addr).add j) = some u := fun j u hu => World.news_of_block (World.alloc_heap_new W (.cells #[.int .i64 c, .int .i64 h, .int .i64 t, .int .i64 k, .int .i64 i] 30)) j u hu
    have HZ := Lib.hid (show pre.length + 1 ≤ m from hlt2)
    clear hlt2 hz
    gi_wp2_with (gi_at_builtin
                 refine wpListIn_append_own _ rfl _ _ 35 rfl w.heap.size 30 i0 _ 5 40 Try.underlying35 hi0 hz0 hz1 hz2 rfl (by decide) v pre.length _ rfl (hrow.alloc _) ⟨W.heap.size, 0, none⟩ 1 1 (quC ⟨c, h, t, k, i⟩) rfl rfl hnews (by simp [quC, Value.oneCell']) (by simp only [maxLen]; omega) (by omega) (by simp; omega) ?_
                 intro v' w1 hown' hgrow _
                 obtain ⟨A', c', rfl⟩ := que_slice hown'
                 obtain ⟨hv1, hv2, hr2, hk2, hb2⟩ := c3.appended (by decide) hrow hsz1 (by omega) hown' hgrow
                 have hc3 := hv1.cell
                 have hf3 := hv1.frozen)
    refine ⟨hk2.from _, walks_of_others hk2, ⟨⟨_, hv2, ?_⟩, ?_, hB.trans hb2⟩⟩
    · rw [List.length_append, List.length_singleton, List.flatMap_append]
      show World.ownsRow _ _ _ _ _ _ (_ ++ ([_].flatMap quC))
      rw [show ([⟨c, h, t, k, i⟩] : List NM.Qu).flatMap quC = quC ⟨c, h, t, k, i⟩ by simp]
      exact hr2
    · rw [List.length_append, List.length_singleton]
      exact HZ.out
  case done =>
    rintro D ys W hD hS ⟨⟨v, c3, hrow, hv⟩, hz, hB⟩ hK
    obtain ⟨A, c', rfl⟩ := que_slice hrow
    have d3 := c3.cell
    have HR := Lib.hid hrow
    have HK := Lib.hid hK
    have HC := Lib.hid c3
    clear hrow hK c3
    gi_wp2
    refine ⟨by simp, .inl ⟨_, _, rfl, run_takeDeferred HK.out, ?_⟩⟩
    exact ⟨_, results_tmp rfl _ _ _, A, c', ys, rfl, hS, hz, row_put' HR.out HK.out _, hB.grown (grownBy_putObj' _ _ _) hB.size (fun k e => by cases e; omega)⟩
  case stop =>
    rintro D c pre W hD hpre hF hK
    exact hF.elim
set_option maxRecDepth 100000 in
theorem collect_any (Bm B m : Nat) (f : NM.Qu → Int) (w : World) (hlt : Bm < w.heap.size) (hBm : w.cell? ⟨Bm, 0, none⟩ = some (.map (some B))) (hm : MapQ w B f m) (hmb : m ≤ 1000000) :
    Calls Try.prog 89 #[.func (.func 91) #[] #[.pointer (some ⟨Bm, 0, none⟩)]] w fun e w' => ∃ A c ss, e = .returned (.slice A (List.length ss) c) ∧ SetQ f ss ∧ ss.length ≤ m ∧ w'.ownsRow w.heap.size 30 5 (.slice A ss.length c) ss.length (ss.flatMap quC) ∧ Below w.heap.size w w' := by
  have HA := Lib.hid (callsIn_wide.1 (appendSeq_in 4 (by decide) Bm B m f w hlt hBm hm hmb))
  clear hBm hm
  go_enter Try.func89, Try.ntmps89
  go_wp2_with (go_at_call 98; refine HA.out.mono ?_; rintro e w' ⟨A, c, ss, rfl, h1, h2, h3, h4⟩)
  go_ret
  exact ⟨A, c, ss, rfl, h1, h2, h3, h4⟩
end Go.Proofs.Ytiokiecnglmbnaa
