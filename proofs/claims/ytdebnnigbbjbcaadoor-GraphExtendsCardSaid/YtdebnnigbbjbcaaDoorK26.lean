/-
  The reference's leads and less (at two walks that part at their second vertex); the walks of one length as functions; rows of walks in memory. Condition: the edges' ends are vertices.
  The walks of one length more; rows of walks in memory. Mathematics and words for memory.
  The contract of the reference's Walks: of one length, the least walk from each vertex. Conditions: the edges' ends are vertices; few vertices; the target is one.
  The contract of the reference's Cycle: the least of the shortest cycles. Conditions: the edges' ends are vertices; few vertices.
-/
import Derived.Test.YtdebnnigbbjbcaaDoorK16
import Derived.Test.YtdebnnigbbjbcaaDoorK5

namespace Go.Proofs.YtdebnnigbbjbcaaDoor
open Go Go.RowKit

set_option maxHeartbeats 1000000 in
theorem leads_any (B m c x y : Nat) (A : Option Addr) (E : List (Nat × Nat)) (w : World) (hE : Edg w B A m E) (hm : m ≤ 1000000) :
    Calls Tryd.prog 60 #[.slice A m c, .int .i64 (x : Int), .int .i64 (y : Int)] w fun e w' => e = .returned (.bool (decide ((x, y) ∈ E))) ∧ w' = w := by
  have HEL := Lib.hid hE.1
  go_enter Tryd.func60, Tryd.ntmps60
  go_wp2_with fail
  go_loopw [7] (fun i wr => ∃ j : Nat, j ≤ m ∧ i = .int .i64 j ∧ Hid ((x, y) ∉ E.take j) ∧ wr = w) (fun i _ => m - (intOf i).toNat)
  case atStart => exact ⟨0, Nat.zero_le _, rfl, (show (x, y) ∉ E.take 0 by simp), rfl⟩
  case round =>
    obtain ⟨j, hj, rfl, hT, rfl⟩ := hrel
    by_cases hlt : j < m
    · obtain ⟨b, off, x', y', rfl, hbl, hxy, hc1, hc2⟩ := hE.at_ hlt
      unfold nv at hc1 hc2
      have HXY := Lib.hid hxy
      have HSK := Lib.hid (fun (hne : (x', y') ≠ (x, y)) => (show (x, y) ∉ E.take (j + 1) from fun h => by
        rw [take_snoc' hxy] at h
        rcases List.mem_append.1 h with h | h
        · exact hT.out h
        · rw [List.mem_singleton] at h
          exact hne h.symm))
      clear hE hxy
      by_cases h1 : x' = x
      · have h11 : ((x' : Int) == (x : Int)) = true := by simp; omega
        by_cases h2 : y' = y
        · have h21 : ((y' : Int) == (y : Int)) = true := by simp; omega
          have HD := Lib.hid (show decide ((x, y) ∈ E) = true from decide_eq_true (by
            have := List.mem_of_getElem? HXY.out
            rw [h1, h2] at this
            exact this))
          clear h1 h2
          go_wp2_with fail
          go_ret
          exact ⟨by rw [HD.out]; rfl, by first | rfl | trivial⟩
        · have h21 : ((y' : Int) == (y : Int)) = false := by simp; omega
          have HN := Lib.hid (HSK.out (fun e => h2 (congrArg Prod.snd e)))
          clear h1 h2
          go_wp2_with fail
          go_roundw
          case rel => exact ⟨j + 1, by omega, by go_num, HN.out, by first | rfl | trivial⟩
          case measure => simp [intOf]; omega
      · have h11 : ((x' : Int) == (x : Int)) = false := by simp; omega
        have HN := Lib.hid (HSK.out (fun e => h1 (congrArg Prod.fst e)))
        clear h1
        go_wp2_with fail
        go_roundw
        case rel => exact ⟨j + 1, by omega, by go_num, HN.out, by first | rfl | trivial⟩
        case measure => simp [intOf]; omega
    · obtain rfl : m = j := by omega
      have HD := Lib.hid (show decide ((x, y) ∈ E) = false from decide_eq_false (by
        have := hT.out
        rw [List.take_of_length_le (by rw [HEL.out]; exact Nat.le_refl _)] at this
        exact this))
      clear hE
      go_wp2_with fail
      go_ret
      exact ⟨by rw [HD.out]; rfl, by first | rfl | trivial⟩
set_option maxHeartbeats 2000000 in
theorem less_far (lo lo2 c c2 x y z : Nat) (A A2 : Option Addr) (l l2 : List Nat) (w : World) (h : Own w lo (.slice A l.length c) l) (h2 : Own w lo2 (.slice A2 l2.length c2) l2) (hl : l.length ≤ 1000) (hl2 : l2.length ≤ 1000) (h0 : l[0]? = some x) (h1 : l[1]? = some y) (k0 : l2[0]? = some x) (k1 : l2[1]? = some z) (hzy : z < y) :
    Calls Tryd.prog 61 #[.slice A l.length c, .slice A2 l2.length c2] w fun e w' => e = .returned (.bool false) ∧ Below w.heap.size w w' := by
  have g1 : 1 < l.length := (List.getElem?_eq_some_iff.1 h1).1
  have g2 : 1 < l2.length := (List.getElem?_eq_some_iff.1 k1).1
  obtain ⟨ga, ca, e, _, hga, _, _⟩ := h.form (by omega)
  injection e with e1 _ e3
  subst e1 e3
  obtain ⟨gb, cb, e, _, hgb, _, _⟩ := h2.form (by omega)
  injection e with e1 _ e3
  subst e1 e3
  have q0 := hAt_cell h (i := 0) (by omega)
  have q1 := hAt_cell h (i := 1) g1
  have r0 := hAt_cell h2 (i := 0) (by omega)
  have r1 := hAt_cell h2 (i := 1) g2
  unfold hAt at q0 q1 r0 r1
  rw [h0] at q0
  rw [h1] at q1
  rw [k0] at r0
  rw [k1] at r1
  simp only [Option.getD_some] at q0 q1 r0 r1
  have hxx : ((x : Int) != (x : Int)) = false := by simp
  have hyz : ((y : Int) != (z : Int)) = true := by rw [bne_iff_ne]; omega
  clear h h2 h0 h1 k0 k1
  go_enter Tryd.func61, Tryd.ntmps61
  go_wp2_with fail
  go_loopw [5] (fun i wr => ∃ j : Nat, j ≤ 1 ∧ i = .int .i64 j ∧ Below w.heap.size w wr) (fun i _ => 2 - (intOf i).toNat)
  case atStart => exact ⟨0, by omega, rfl, Below.refl _ _⟩
  case round =>
    obtain ⟨j, hj, rfl, hB⟩ := hrel
    have s0 := (hB.cell (p := ⟨ga, 0, none⟩) hga).trans q0
    have s1 := (hB.cell (p := ⟨ga, 1, none⟩) hga).trans q1
    have t0 := (hB.cell (p := ⟨gb, 0, none⟩) hgb).trans r0
    have t1 := (hB.cell (p := ⟨gb, 1, none⟩) hgb).trans r1
    clear q0 q1 r0 r1
    rcases Nat.eq_zero_or_pos j with e | e
    · subst e
      go_wp2_with fail
      go_region
      all_goals
        go_wp2_with fail
        go_roundw
        case rel => exact ⟨1, by omega, by go_num, hB.drew⟩
        case measure => simp [intOf]
    · obtain rfl : j = 1 := by omega
      have hlt : decide ((y : Int) < (z : Int)) = false := by simp; omega
      go_wp2_with fail
      go_region
      all_goals
        go_wp2_with fail
        go_region
        all_goals
          go_wp2_with fail
          go_ret
          exact ⟨by first | rfl | (simp; done) | (simp; omega), hB.drew.drew⟩
end Go.Proofs.YtdebnnigbbjbcaaDoor

namespace Go.Proofs.YtdebnnigbbjbcaaDoor
open Go Go.RowKit

theorem wkL_head {nx : List (List Nat)} {s : Nat} : ∀ t y, wkL nx s t y ≠ [] → (wkL nx s t y)[0]? = some y
  | 0, _, h => by simp [wkL] at h
  | 1, y, h => by
    unfold wkL at h ⊢
    split at h
    · rename_i h0
      rw [if_pos h0]
      rfl
    · exact absurd rfl h
  | t + 2, y, h => by
    rw [wkL] at h ⊢
    cases hf : (nb nx y).find? fun z => decide (s < z) && !(wkL nx s (t + 1) z).isEmpty with
    | none => rw [hf] at h; exact absurd rfl h
    | some z => rfl
theorem wkL_le (nx : List (List Nat)) (s t y : Nat) : (wkL nx s t y).length ≤ t := by
  rcases Classical.em (wkL nx s t y = []) with h | h
  · rw [h]
    exact Nat.zero_le _
  · rw [wkL_len nx s t y h]
    exact Nat.le_refl _
/-- y may follow v in a walk of t + 1 edges. -/
def foll (nx : List (List Nat)) (E : List (Nat × Nat)) (s t v y : Nat) : Bool := decide ((v, y) ∈ E) && (if t = 0 then decide (y = s) else decide (s < y) && !(wkL nx s t y).isEmpty)
/-- The least walk from v over the followers below j. -/
def nxt (nx : List (List Nat)) (E : List (Nat × Nat)) (s t v j : Nat) : List Nat := match (List.range j).find? (foll nx E s t v) with
  | none => []
  | some y => if t = 0 then [v] else v :: wkL nx s t y
theorem nxt_skip {nx : List (List Nat)} {E : List (Nat × Nat)} {s t v j : Nat} (h : foll nx E s t v j = false) : nxt nx E s t v (j + 1) = nxt nx E s t v j := by
  unfold nxt
  rw [List.range_succ, List.find?_append]
  cases (List.range j).find? (foll nx E s t v) with
  | none => simp [h]
  | some y => rfl
theorem nxt_cases {nx : List (List Nat)} {E : List (Nat × Nat)} {s t v j : Nat} : (nxt nx E s t v j = [] ∧ nxt nx E s t v (j + 1) = if foll nx E s t v j = true then (if t = 0 then [v] else v :: wkL nx s t j) else []) ∨
    ∃ y, y < j ∧ foll nx E s t v y = true ∧ nxt nx E s t v j = (if t = 0 then [v] else v :: wkL nx s t y) ∧ nxt nx E s t v (j + 1) = nxt nx E s t v j := by
  unfold nxt
  rw [List.range_succ, List.find?_append]
  cases hf : (List.range j).find? (foll nx E s t v) with
  | none =>
    left
    refine ⟨rfl, ?_⟩
    cases hp : foll nx E s t v j <;> simp [hp]
  | some y =>
    right
    exact ⟨y, List.mem_range.1 (List.mem_of_find?_eq_some hf), List.find?_some hf, rfl, rfl⟩
theorem nxt_all {n : Nat} {E : List (Nat × Nat)} {s t v : Nat} (hs : s < n) (hv : v < n) : nxt (succs n E) E s t v n = wkL (succs n E) s (t + 1) v := by
  have hnb : nb (succs n E) v = (List.range n).filter fun y => decide ((v, y) ∈ E) := by
    unfold nb
    rw [succs_at n E hv]
    rfl
  unfold nxt
  cases t with
  | zero =>
    rw [wkL, hnb]
    cases hf : (List.range n).find? (foll (succs n E) E s 0 v) with
    | none =>
      rw [List.find?_eq_none] at hf
      rw [if_neg]
      intro hm
      have h1 := (List.mem_filter.1 hm).2
      have h2 := hf s (List.mem_range.2 hs)
      unfold foll at h2
      simp only [decide_eq_true_eq] at h1
      simp [h1] at h2
    | some y =>
      have h1 := List.find?_some hf
      unfold foll at h1
      simp only [if_pos, Bool.and_eq_true, decide_eq_true_eq] at h1
      obtain ⟨h2, h3⟩ := h1
      subst h3
      rw [if_pos (List.mem_filter.2 ⟨List.mem_range.2 hs, by simpa using h2⟩)]
      rfl
  | succ t =>
    rw [wkL, hnb, find_filter]
    have hp : (List.range n).find? (foll (succs n E) E s (t + 1) v) = (List.range n).find? fun a => decide ((v, a) ∈ E) && (decide (s < a) && !(wkL (succs n E) s (t + 1) a).isEmpty) := find_congr _ fun y _ => by
      unfold foll
      rw [if_neg (by omega)]
    rw [hp]
    rfl

/-- Block g holds n slices, the i-th of which reads f i. -/
def RowsF (W : World) (lo g n : Nat) (f : Nat → List Nat) : Prop := ∃ cs : Array Value, W.heap[g]? = some (.cells cs 22 (0, 0)) ∧ cs.size = n ∧ lo ≤ g ∧ ∀ i, i < n → ∃ v, cs[i]? = some v ∧ Own W lo v (f i)
section
variable {W W' : World} {lo g n : Nat} {f : Nat → List Nat}
theorem RowsF.lt (h : RowsF W lo g n f) : lo ≤ g ∧ g < W.heap.size := by
  obtain ⟨cs, h1, _, h3, _⟩ := h
  exact ⟨h3, heap_lt h1⟩
theorem RowsF.below {B : Nat} (h : RowsF W lo g n f) (hb : Below B W W') (hB : W.heap.size ≤ B) : RowsF W' lo g n f := by
  obtain ⟨cs, h1, h2, h3, h4⟩ := h
  refine ⟨cs, (hb.block g (Nat.lt_of_lt_of_le (heap_lt h1) hB)).trans h1, h2, h3, fun i hi => ?_⟩
  obtain ⟨v, h5, h6⟩ := h4 i hi
  exact ⟨v, h5, h6.keep fun b hb' => hb.block b (Nat.lt_of_lt_of_le (h6.lt b hb').2 hB)⟩
theorem RowsF.at_ (h : RowsF W lo g n f) {i : Nat} (hi : i < n) : ∃ A c, W.cell? ⟨g, i, none⟩ = some (.slice A (f i).length c) ∧ Own W lo (.slice A (f i).length c) (f i) := by
  obtain ⟨cs, h1, h2, h3, h4⟩ := h
  obtain ⟨v, h5, h6⟩ := h4 i hi
  obtain ⟨A, c, rfl, _, _⟩ := h6.slice
  exact ⟨A, c, by rw [cell_of_row W g i cs _ (0, 0) h1, h5], h6⟩
theorem RowsF.free (h : RowsF W lo g n f) (i : Nat) : W.frozen? ⟨g, i, none⟩ = false := by
  obtain ⟨cs, h1, _⟩ := h
  simp [World.frozen?, h1]
theorem rowsF_own {v : Value} {l : List Nat} {lo2 : Nat} (h : RowsF W lo g n f) (ho : Own W lo2 v l) : v.ownBlock ≠ some g := by
  obtain ⟨cs, h1, _⟩ := h
  rcases ho.2 with ⟨rfl, _⟩ | ⟨g', cap, cur, rfl, _, h2, _⟩
  · simp [Value.ownBlock]
  · intro e
    have e : g' = g := by simpa [Value.ownBlock] using e
    subst e
    exact heapT_ne h1 h2 (by decide) rfl
theorem RowsF.set (h : RowsF W lo g n f) {i : Nat} {v : Value} {l : List Nat} (ho : Own W lo v l) : RowsF (W.setCell ⟨g, i, none⟩ v) lo g n (fun u => if u = i then l else f u) := by
  have key : ∀ (x u : Value) (m : List Nat), Own W lo u m → Own (W.setCell ⟨g, i, none⟩ x) lo u m := fun x u m hu => hu.keep fun b hb => Below.heap_setCell W _ _ b (by
    show b ≠ g
    rintro rfl
    exact rowsF_own h hu hb)
  obtain ⟨cs, h1, h2, h3, h4⟩ := h
  refine ⟨cs.setIfInBounds i v, ?_, by simpa using h2, h3, fun j hj => ?_⟩
  · simp only [World.setCell, Array.getElem?_modify]
    simp [h1]
  · rw [Array.getElem?_setIfInBounds]
    by_cases e : j = i
    · subst e
      exact ⟨v, by rw [if_pos rfl, if_pos (by omega)], by
        show Own _ _ _ (if j = j then l else f j)
        rw [if_pos rfl]
        exact key v v l ho⟩
    · obtain ⟨u, h5, h6⟩ := h4 j hj
      exact ⟨u, by rw [if_neg (fun h => e h.symm)]; exact h5, by
        show Own _ _ _ (if j = i then l else f j)
        rw [if_neg e]
        exact key v u _ h6⟩
theorem RowsF.other (h : RowsF W lo g n f) {g2 i : Nat} {x : Value} {f2 : Nat → List Nat} (h2 : RowsF W lo g2 n f2) (hne : g ≠ g2) : RowsF (W.setCell ⟨g2, i, none⟩ x) lo g n f := by
  obtain ⟨cs, k1, k2, k3, k4⟩ := h
  refine ⟨cs, (Below.heap_setCell W _ _ g (by show g ≠ g2; exact hne)).trans k1, k2, k3, fun j hj => ?_⟩
  obtain ⟨v, k5, k6⟩ := k4 j hj
  refine ⟨v, k5, k6.keep fun b hb => Below.heap_setCell W _ _ b (by
    show b ≠ g2
    rintro rfl
    exact rowsF_own h2 k6 hb)⟩
theorem RowsF.congr (h : RowsF W lo g n f) {f2 : Nat → List Nat} (hf : ∀ i, i < n → f2 i = f i) : RowsF W lo g n f2 := by
  obtain ⟨cs, h1, h2, h3, h4⟩ := h
  refine ⟨cs, h1, h2, h3, fun i hi => ?_⟩
  obtain ⟨v, h5, h6⟩ := h4 i hi
  exact ⟨v, h5, by rw [hf i hi]; exact h6⟩
theorem RowsF.make (W : World) (lo n : Nat) (hlo : lo ≤ W.heap.size) : RowsF (W.alloc (.cells (Array.replicate n (.slice none 0 0)) 22)) lo W.heap.size n (fun _ => []) :=
  ⟨Array.replicate n (.slice none 0 0), World.alloc_heap_new W _, by simp, hlo, fun i hi => ⟨.slice none 0 0, by rw [Array.getElem?_replicate, if_pos hi], Own.nil _ _⟩⟩
theorem own_lit1 (W : World) (lo v : Nat) (hlo : lo ≤ W.heap.size) : Own (W.alloc (.cells #[.int .i64 (v : Int)] 3)) lo (.slice (some ⟨W.heap.size, 0, none⟩) 1 1) [v] :=
  ⟨rfl, .inr ⟨W.heap.size, 1, #[.int .i64 (v : Int)], rfl, hlo, World.alloc_heap_new W _, Nat.le_refl _, by simp [maxLen], rfl, rfl⟩⟩
end
end Go.Proofs.YtdebnnigbbjbcaaDoor

namespace Go.Proofs.YtdebnnigbbjbcaaDoor
open Go Go.RowKit

set_option maxRecDepth 100000 in
set_option maxHeartbeats 8000000 in
theorem walks_any (B n m c s len : Nat) (A : Option Addr) (E : List (Nat × Nat)) (w : World) (hn : n ≤ 100) (hm : m ≤ 1000) (hB0 : B ≤ w.heap.size) (hE : Edg w B A m E) (hs : s < n) (hlen : len ≤ 100) :
    Calls Tryd.prog 42 #[.int .i64 (n : Int), .slice A m c, .int .i64 (s : Int), .int .i64 (s : Int), .int .i64 (len : Int)] w fun e w' => ∃ g, e = .returned (.slice (some ⟨g, 0, none⟩) n n) ∧ RowsF w' w.heap.size g n (fun v => wkL (succs n E) s len v) ∧ Below w.heap.size w w' := by
  obtain ⟨i0, hi0, hz0, hz1, hz2⟩ := info_parts info_int
  have hmk := make_ints2 n (by omega)
  have HLE := Lib.hid (fun (W : World) (hB : Below w.heap.size w W) (x y : Nat) => leads_any B m c x y A E W (hE.below (hB.mono hB0)) (by omega))
  have HNA := Lib.hid (fun (t v : Nat) (hv : v < n) => nxt_all (n := n) (E := E) (t := t) hs hv)
  obtain ⟨nx, hnx⟩ : ∃ nx, succs n E = nx := ⟨_, rfl⟩
  rw [hnx] at HNA ⊢
  clear hE hnx
  go_enter Tryd.func42, Tryd.ntmps42
  go_wp2_with fail
  go_loopw [11, 12] (fun o i wr => ∃ t g : Nat, t ≤ len ∧ o = .slice (some ⟨g, 0, none⟩) n n ∧ i = .int .i64 ((t : Int) + 1) ∧ RowsF wr w.heap.size g n (fun v => wkL nx s t v) ∧ Below w.heap.size w wr) (fun _ i _ => len + 1 - (intOf i).toNat)
  case atStart => exact ⟨0, w.heap.size, Nat.zero_le _, rfl, rfl, (RowsF.make w w.heap.size n (Nat.le_refl _)).congr fun _ _ => rfl, (Below.refl _ _).alloc (Nat.le_refl _) _⟩
  case round =>
    obtain ⟨t, g, ht, rfl, rfl, hR, hB⟩ := hrel
    have hsz := hB.size
    have hgl := hR.lt
    obtain ⟨wo, hwo⟩ : ∃ W, W = wr := ⟨_, rfl⟩
    subst hwo
    by_cases hlt : t < len
    · have hmake := RowsF.make wo w.heap.size n hsz
      have hR1 := hR.below ((Below.refl wo.heap.size wo).alloc (Nat.le_refl _) (.cells (Array.replicate n (.slice none 0 0)) 22)) (Nat.le_refl _)
      have hB1 := hB.alloc hsz (.cells (Array.replicate n (.slice none 0 0)) 22)
      obtain ⟨gn, hgn⟩ : ∃ gn, wo.heap.size = gn := ⟨_, rfl⟩
      have hne : g ≠ gn := by omega
      have htl : (t : Int) + 1 ≤ (len : Int) := by omega
      have hgn2 : w.heap.size ≤ gn := by omega
      rw [hgn] at hmake
      have HMK := Lib.hid hmake
      have HR1 := Lib.hid hR1
      have HB1 := Lib.hid hB1
      clear hR hmake hR1 hB1
      go_wp2_with fail
      go_loopw [14] (fun i wi => ∃ v : Nat, v ≤ n ∧ i = .int .i64 v ∧ RowsF wi w.heap.size g n (fun v => wkL nx s t v) ∧ RowsF wi w.heap.size gn n (fun u => if u < v then wkL nx s (t + 1) u else []) ∧ Below w.heap.size w wi) (fun i _ => n - (intOf i).toNat)
      case atStart => exact ⟨0, Nat.zero_le _, rfl, HR1.out, HMK.out.congr fun u _ => by simp, HB1.out⟩
      case round =>
        obtain ⟨v, hv, rfl, hR, hN, hB⟩ := hrel
        have HRv := Lib.hid hR
        have HNv := Lib.hid hN
        have HBv := Lib.hid hB
        obtain ⟨wv, hwv⟩ : ∃ W, W = wr := ⟨_, rfl⟩
        subst hwv
        clear hR hN hB
        by_cases hvn : v < n
        · go_wp2_with fail
          go_loopw [15] (fun i wi => ∃ j : Nat, j ≤ n ∧ i = .int .i64 j ∧ RowsF wi w.heap.size g n (fun v => wkL nx s t v) ∧ RowsF wi w.heap.size gn n (fun u => if u < v then wkL nx s (t + 1) u else if u = v then nxt nx E s t v j else []) ∧ Below w.heap.size w wi) (fun i _ => n - (intOf i).toNat)
          case atStart => exact ⟨0, Nat.zero_le _, rfl, HRv.out, HNv.out.congr fun u _ => by
            by_cases h1 : u < v
            · rw [if_pos h1, if_pos h1]
            · rw [if_neg h1, if_neg h1]
              by_cases h2 : u = v
              · rw [if_pos h2]; rfl
              · rw [if_neg h2], HBv.out⟩
          case round =>
            obtain ⟨j, hj, rfl, hR, hN, hB⟩ := hrel
            have hszj := hB.size
            by_cases hjn : j < n
            · have HL := Lib.hid (HLE.out wr hB v j)
              obtain ⟨Aj, cj, hcj, hoj⟩ := hR.at_ hjn
              obtain ⟨Av, cv, hcv, hov⟩ := hN.at_ hvn
              have hfv := hN.free v
              simp only [Nat.lt_irrefl, if_false, if_true] at hcv hov
              have hll := wkL_le nx s t j
              have NC := Lib.hid (nxt_cases (nx := nx) (E := E) (s := s) (t := t) (v := v) (j := j))
              have HSK := Lib.hid (fun h : foll nx E s t v j = false => nxt_skip h)
              have HFO := Lib.hid (show foll nx E s t v j = (decide ((v, j) ∈ E) && (if t = 0 then decide (j = s) else decide (s < j) && !(wkL nx s t j).isEmpty)) from rfl)
              obtain ⟨N, hN'⟩ : ∃ N, nxt nx E s t v j = N := ⟨_, rfl⟩
              rw [hN'] at hcv hov
              have HN := Lib.hid hN'
              have HRR := Lib.hid hR
              have HRN := Lib.hid hN
              have HB := Lib.hid hB
              have HOJ := Lib.hid hoj
              have HOV := Lib.hid hov
              have HSAME := Lib.hid (fun h : nxt nx E s t v (j + 1) = nxt nx E s t v j => hN.congr (f2 := fun u => if u < v then wkL nx s (t + 1) u else if u = v then nxt nx E s t v (j + 1) else []) fun u _ => by rw [h])
              clear hoj hov hN' hR hN hB
              cases he : decide ((v, j) ∈ E) with
              | false =>
                rw [he] at HL HFO
                clear he
                go_wp2_with (go_at_call 60; refine HL.out.mono ?_; rintro e w5 ⟨rfl, rfl⟩)
                go_roundw
                case rel => exact ⟨j + 1, by omega, by go_num, HRR.out, HSAME.out (HSK.out (by rw [HFO.out]; rfl)), HB.out⟩
                case measure => simp [intOf]; omega
              | true =>
                rw [he] at HL HFO
                clear he
                rcases Nat.eq_zero_or_pos t with e | e
                · have ht1 : ((t : Int) + 1 == 1) = true := by simp; omega
                  have ht2 : ¬ (1 : Int) < (t : Int) + 1 := by omega
                  have HT0 := Lib.hid e
                  clear e
                  by_cases hjs : j = s
                  · have hjs1 : ((j : Int) == (s : Int)) = true := by simp; omega
                    have hN0 : N = [] := by
                      rw [← HN.out]
                      rcases NC.out with ⟨h1, _⟩ | ⟨y, h1, h2, _⟩
                      · exact h1
                      · unfold foll at h2
                        rw [if_pos HT0.out] at h2
                        simp only [Bool.and_eq_true, decide_eq_true_eq] at h2
                        omega
                    subst hN0
                    have HNX := Lib.hid (show nxt nx E s t v (j + 1) = [v] by
                      rcases NC.out with ⟨_, h2⟩ | ⟨y, h1, h2, _⟩
                      · rw [h2, HFO.out, hjs, if_pos HT0.out, if_pos HT0.out]
                        simp
                      · unfold foll at h2
                        rw [if_pos HT0.out] at h2
                        simp only [Bool.and_eq_true, decide_eq_true_eq] at h2
                        omega)
                    have HLIT := Lib.hid (own_lit1 wr w.heap.size v hszj)
                    have hb1 := (Below.refl wr.heap.size wr).alloc (Nat.le_refl _) (.cells #[.int .i64 (v : Int)] 3)
                    have HRR1 := Lib.hid (HRR.out.below hb1 (Nat.le_refl _))
                    have HRN1 := Lib.hid (HRN.out.below hb1 (Nat.le_refl _))
                    have HB1' := Lib.hid (HB.out.alloc hszj (.cells #[.int .i64 (v : Int)] 3))
                    have hgn3 := HRN.out.lt.2
                    have hcv1 := (hb1.cell (p := ⟨gn, v, none⟩) hgn3).trans hcv
                    have hfv1 := HRN1.out.free v
                    clear hjs hb1
                    go_wp2_with (go_at_call 60; refine HL.out.mono ?_; rintro e w5 ⟨rfl, rfl⟩)
                    go_roundw
                    case rel =>
                      rw [← World.setCell_alloc_past _ gn v _ hgn3]
                      refine ⟨j + 1, by omega, by go_num, HRR1.out.other HRN1.out hne, (HRN1.out.set HLIT.out).congr fun u _ => ?_, HB1'.out.setCell (p := ⟨gn, v, none⟩) hgn2 _⟩
                      by_cases h1 : u < v
                      · rw [if_pos h1, if_neg (by omega), if_pos h1]
                      · rw [if_neg h1]
                        by_cases h2 : u = v
                        · rw [if_pos h2, if_pos h2, HNX.out]
                        · rw [if_neg h2, if_neg h2, if_neg h1, if_neg h2]
                    case measure => simp [intOf]; omega
                  · have hjs1 : ((j : Int) == (s : Int)) = false := by simp; omega
                    have HK := Lib.hid (HSK.out (by rw [HFO.out, if_pos HT0.out]; simp [hjs]))
                    clear hjs
                    go_wp2_with (go_at_call 60; refine HL.out.mono ?_; rintro e w5 ⟨rfl, rfl⟩)
                    go_roundw
                    case rel => exact ⟨j + 1, by omega, by go_num, HRR.out, HSAME.out HK.out, HB.out⟩
                    case measure => simp [intOf]; omega
                · have ht1 : ((t : Int) + 1 == 1) = false := by simp; omega
                  have ht2 : (1 : Int) < (t : Int) + 1 := by omega
                  by_cases hsj : s < j
                  · have hsj1 : (s : Int) < (j : Int) := by omega
                    by_cases hw0 : wkL nx s t j = []
                    · have HK := Lib.hid (HSK.out (by rw [HFO.out, hw0, if_neg (by omega)]; simp))
                      rw [hw0] at hcj
                      clear hw0
                      go_wp2_with (go_at_call 60; refine HL.out.mono ?_; rintro e w5 ⟨rfl, rfl⟩)
                      go_roundw
                      case rel => exact ⟨j + 1, by omega, by go_num, HRR.out, HSAME.out HK.out, HB.out⟩
                      case measure => simp [intOf]; omega
                    · have hwp : 0 < (wkL nx s t j).length := by
                        rcases Nat.eq_zero_or_pos (wkL nx s t j).length with h | h
                        · exact absurd (List.eq_nil_of_length_eq_zero h) hw0
                        · exact h
                      have HFT := Lib.hid (show foll nx E s t v j = true by
                        rw [HFO.out, if_neg (by omega)]
                        simp [hsj, hw0])
                      have hhd := wkL_head t j hw0
                      obtain ⟨R, hR'⟩ : ∃ R, wkL nx s t j = R := ⟨_, rfl⟩
                      rw [hR'] at hcj hwp hhd hll
                      have HRE := Lib.hid hR'
                      have HHD := Lib.hid hhd
                      have hoj2 : Own wr w.heap.size (.slice Aj R.length cj) R := by have := HOJ.out; rw [hR'] at this; exact this
                      have HSL := Lib.hid (own_slc (w := wr.alloc (.cells #[.int .i64 (v : Int)] 3)) (zs := R.map fun n : Nat => (n : Int)) (by
                        have h1 := own_of_block (w' := wr.alloc (.cells #[.int .i64 (v : Int)] 3)) hoj2 (fun b hb => Below.heap_alloc _ _ _ (hoj2.lt b hb).2)
                        rw [map_nv] at h1
                        exact h1))
                      have HLIT := Lib.hid (own_lit1 wr w.heap.size v hszj)
                      have hb1 := (Below.refl wr.heap.size wr).alloc (Nat.le_refl _) (.cells #[.int .i64 (v : Int)] 3)
                      have hgl2 := HRR.out.lt.2
                      have hgn3 := HRN.out.lt.2
                      have hcj1 := (hb1.cell (p := ⟨g, j, none⟩) hgl2).trans hcj
                      have hal : (wr.alloc (.cells #[.int .i64 (v : Int)] 3)).heap.size = wr.heap.size + 1 := by simp
                      have hq : (v :: R).length = 1 + R.length := by simp; omega
                      have HB1x := Lib.hid hb1
                      clear hw0 hR' hhd hb1 hoj2
                      rcases NC.out with ⟨n1, n2⟩ | ⟨y, n1, n2, n3, n4⟩
                      · have hN0 : N = [] := HN.out.symm.trans n1
                        subst hN0
                        have HNX := Lib.hid (show nxt nx E s t v (j + 1) = v :: R by rw [n2, HFT.out, if_pos rfl, if_neg (by omega), HRE.out])
                        clear n1 n2
                        go_wp2_with (first
                          | (go_at_call 60; refine HL.out.mono ?_; rintro e w5 ⟨rfl, rfl⟩)
                          | (at_builtin
                             refine wpList_append_slc rfl (.tmp 66) (.tmp 70) 22 rfl w.heap.size 3 i0 _ 8 Tryd.underlying22 hi0 hz0 hz1 hz2 rfl (.slice (some ⟨_, 0, none⟩) 1 1) 1 [nv v] rfl HLIT.out .i64 Aj R.length cj _ rfl HSL.out (by simp only [maxLen]; omega) (by omega) (by omega) ?_
                             intro A7 c7 w7 hown7 hgrow7
                             have hB7 := HB1x.out.grown hgrow7 (by omega) (fun b e => by
                               have e1 : w5.heap.size = b := by simpa [Value.ownBlock] using e
                               omega)
                             have HRR7 := Lib.hid (HRR.out.below hB7 (Nat.le_refl _))
                             have HRN7 := Lib.hid (HRN.out.below hB7 (Nat.le_refl _))
                             have HB7 := Lib.hid (HB.out.trans (hB7.mono hszj))
                             have hcv7 := (hB7.cell (p := ⟨gn, v, none⟩) hgn3).trans hcv
                             have hfv7 := HRN7.out.free v
                             have HO7 := Lib.hid (show Own w7 w.heap.size (.slice A7 (1 + R.length) c7) (v :: R) from by
                               unfold Own
                               rw [hq, List.map_cons, map_nv]
                               exact hown7)
                             clear hown7 hgrow7 hB7))
                        go_roundw
                        case rel =>
                          refine ⟨j + 1, by omega, by go_num, HRR7.out.other HRN7.out hne, (HRN7.out.set HO7.out).congr fun u _ => ?_, HB7.out.setCell (p := ⟨gn, v, none⟩) hgn2 _⟩
                          by_cases h1 : u < v
                          · rw [if_pos h1, if_neg (by omega), if_pos h1]
                          · rw [if_neg h1]
                            by_cases h2 : u = v
                            · rw [if_pos h2, if_pos h2, HNX.out]
                            · rw [if_neg h2, if_neg h2, if_neg h1, if_neg h2]
                        case measure => simp [intOf]; omega
                      · have hty : wkL nx s t y ≠ [] := by
                          unfold foll at n2
                          rw [if_neg (by omega)] at n2
                          simp only [Bool.and_eq_true, Bool.not_eq_true', List.isEmpty_eq_false_iff] at n2
                          exact n2.2.2
                        have hNf : N = v :: wkL nx s t y := by rw [← HN.out, n3, if_neg (by omega)]
                        have hN1 : N[1]? = some y := by rw [hNf]; exact wkL_head t y hty
                        have hN0 : N[0]? = some v := by rw [hNf]; rfl
                        have hNl : N.length ≤ 1000 := by
                          have := wkL_le nx s t y
                          rw [hNf, List.length_cons]
                          omega
                        have hNz : ((N.length : Int) == 0) = false := by
                          have : 0 < N.length := by rw [hNf]; simp
                          simp
                          intro h
                          rw [h] at this
                          simp at this
                        have HN1 := Lib.hid hN1
                        have HN0 := Lib.hid hN0
                        have HKE := Lib.hid (HSAME.out n4)
                        clear n2 n3 n4 hty hNf hN1 hN0
                        go_wp2_with (first
                          | (go_at_call 60; refine HL.out.mono ?_; rintro e w5 ⟨rfl, rfl⟩)
                          | (at_builtin
                             refine wpList_append_slc rfl (.tmp 66) (.tmp 70) 22 rfl w.heap.size 3 i0 _ 8 Tryd.underlying22 hi0 hz0 hz1 hz2 rfl (.slice (some ⟨_, 0, none⟩) 1 1) 1 [nv v] rfl HLIT.out .i64 Aj R.length cj _ rfl HSL.out (by simp only [maxLen]; omega) (by omega) (by omega) ?_
                             intro A7 c7 w7 hown7 hgrow7
                             have hB7 := HB1x.out.grown hgrow7 (by omega) (fun b e => by
                               have e1 : w5.heap.size = b := by simpa [Value.ownBlock] using e
                               omega)
                             have hcv7 := (hB7.cell (p := ⟨gn, v, none⟩) hgn3).trans hcv
                             have HO7 := Lib.hid (show Own w7 w.heap.size (.slice A7 (1 + R.length) c7) (v :: R) from by
                               unfold Own
                               rw [hq, List.map_cons, map_nv]
                               exact hown7)
                             have HOV7 := Lib.hid (HOV.out.keep (w' := w7) fun b hb => hB7.block b (HOV.out.lt b hb).2)
                             have HLS := Lib.hid (less_far w.heap.size w.heap.size c7 cv v j y A7 Av (v :: R) N w7 (by rw [hq]; exact HO7.out) HOV7.out (by rw [hq]; omega) hNl rfl HHD.out HN0.out HN1.out n1)
                             rw [hq] at HLS
                             have HB7 := Lib.hid hB7
                             have hs7 := hB7.size
                             clear hown7 hgrow7 hB7)
                          | (go_at_call 61
                             refine HLS.out.mono ?_
                             rintro e w8 ⟨rfl, hB8⟩
                             have hB78 := HB7.out.trans (hB8.mono hs7)
                             have HRR8 := Lib.hid (HRR.out.below hB78 (Nat.le_refl _))
                             have HRN8 := Lib.hid (HKE.out.below hB78 (Nat.le_refl _))
                             have HB8 := Lib.hid (HB.out.trans (hB78.mono hszj))
                             clear hB8 hB78))
                        go_roundw
                        case rel => exact ⟨j + 1, by omega, by go_num, HRR8.out, HRN8.out, HB8.out⟩
                        case measure => simp [intOf]; omega
                  · have HK := Lib.hid (HSK.out (by rw [HFO.out, if_neg (by omega)]; simp; omega))
                    go_wp2_with (go_at_call 60; refine HL.out.mono ?_; rintro e w5 ⟨rfl, rfl⟩)
                    go_roundw
                    case rel => exact ⟨j + 1, by omega, by go_num, HRR.out, HSAME.out HK.out, HB.out⟩
                    case measure => simp [intOf]; omega
            · obtain rfl : n = j := by omega
              have HRR := Lib.hid hR
              have HRN := Lib.hid (hN.congr (f2 := fun u => if u < v + 1 then wkL nx s (t + 1) u else []) fun u _ => by
                by_cases h1 : u < v
                · rw [if_pos h1, if_pos (by omega)]
                · rw [if_neg h1]
                  by_cases h2 : u = v
                  · subst h2
                    rw [if_pos rfl, if_pos (by omega), HNA.out t u hvn]
                  · rw [if_neg h2, if_neg (by omega)])
              have HB := Lib.hid hB
              clear hR hN hB
              go_wp2_with fail
              go_roundw
              case rel => exact ⟨v + 1, by omega, by go_num, HRR.out, HRN.out, HB.out⟩
              case measure => simp [intOf]; omega
        · obtain rfl : n = v := by omega
          have HNN := Lib.hid (HNv.out.congr (f2 := fun u => wkL nx s (t + 1) u) fun u hu => by rw [if_pos hu])
          go_wp2_with fail
          go_roundw
          case rel => exact ⟨t + 1, gn, by omega, rfl, by go_num, HNN.out, HBv.out⟩
          case measure => simp [intOf]; omega
    · obtain rfl : len = t := by omega
      have HRR := Lib.hid hR
      clear hR
      go_wp2_with fail
      go_ret
      exact ⟨g, rfl, HRR.out, hB⟩
end Go.Proofs.YtdebnnigbbjbcaaDoor

namespace Go.Proofs.YtdebnnigbbjbcaaDoor
open Go Go.RowKit

set_option maxRecDepth 100000 in
set_option maxHeartbeats 4000000 in
theorem refcyc_any (B n m c : Nat) (A : Option Addr) (E : List (Nat × Nat)) (w : World) (hn : n ≤ 90) (hm : m ≤ 1000) (hB0 : B ≤ w.heap.size) (hE : Edg w B A m E) :
    Calls Tryd.prog 22 #[.int .i64 (n : Int), .slice A m c] w fun e w' => ∃ v C, e = .returned v ∧ IsCyc (succs n E) n n C ∧ Own w' w.heap.size v C ∧ Below w.heap.size w w' := by
  have HWA := Lib.hid (fun (W : World) (hB : Below w.heap.size w W) (s t : Nat) (hs : s < n) (ht : t < n) => (show Calls Tryd.prog 42 #[.int .i64 (n : Int), .slice A m c, .int .i64 (s : Int), .int .i64 (s : Int), .int .i64 ((t : Int) + 1)] W fun e w' => ∃ g, e = .returned (.slice (some ⟨g, 0, none⟩) n n) ∧ RowsF w' W.heap.size g n (fun v => wkL (succs n E) s (t + 1) v) ∧ Below W.heap.size W w' from by
    have h := walks_any B n m c s (t + 1) A E W (by omega) hm (by have := hB.size; omega) (hE.below (hB.mono hB0)) hs (by omega)
    rw [show (((t + 1 : Nat)) : Int) = (t : Int) + 1 by omega] at h
    exact h))
  obtain ⟨nx, hnx⟩ : ∃ nx, succs n E = nx := ⟨_, rfl⟩
  rw [hnx] at HWA ⊢
  clear hE hnx
  go_enter Tryd.func22, Tryd.ntmps22
  go_wp2_with fail
  go_loopw [5] (fun i wr => ∃ t : Nat, t ≤ n ∧ i = .int .i64 ((t : Int) + 1) ∧ Hid (∀ s, s < n → ∀ r, r ≤ t → ¬ Wk nx s r s) ∧ Below w.heap.size w wr) (fun i _ => n + 1 - (intOf i).toNat)
  case atStart => exact ⟨0, Nat.zero_le _, rfl, (show ∀ s, s < n → ∀ r, r ≤ 0 → ¬ Wk nx s r s from fun s _ r hr h => by
    obtain rfl : r = 0 := by omega
    exact h), Below.refl _ _⟩
  case round =>
    obtain ⟨t, ht, rfl, hno, hB⟩ := hrel
    have hsz := hB.size
    obtain ⟨wo, hwo⟩ : ∃ W, W = wr := ⟨_, rfl⟩
    subst hwo
    by_cases hlt : t < n
    · have htl : (t : Int) + 1 ≤ (n : Int) := by omega
      have HBo := Lib.hid hB
      clear hB
      go_wp2_with fail
      go_loopw [6] (fun i wi => ∃ j : Nat, j ≤ n ∧ i = .int .i64 j ∧ Hid (∀ s, s < j → ¬ Wk nx s (t + 1) s) ∧ Below w.heap.size w wi) (fun i _ => n - (intOf i).toNat)
      case atStart => exact ⟨0, Nat.zero_le _, rfl, (show ∀ s, s < 0 → ¬ Wk nx s (t + 1) s from fun s hs => by omega), HBo.out⟩
      case round =>
        obtain ⟨j, hj, rfl, hnj, hB⟩ := hrel
        have hszj := hB.size
        obtain ⟨wi, hwi⟩ : ∃ W, W = wr := ⟨_, rfl⟩
        subst hwi
        by_cases hjn : j < n
        · have HW := Lib.hid (HWA.out wi hB j t hjn hlt)
          have HIF := Lib.hid (wkL_iff nx j (t + 1) j)
          have hwl := wkL_le nx j (t + 1) j
          obtain ⟨C, hC⟩ : ∃ C, wkL nx j (t + 1) j = C := ⟨_, rfl⟩
          rw [hC] at HIF hwl
          have HC := Lib.hid hC
          have HB := Lib.hid hB
          clear hC hB
          by_cases hC0 : C = []
          · subst hC0
            have HNW := Lib.hid (show ¬ Wk nx j (t + 1) j from fun h => absurd rfl (HIF.out.2 h))
            go_wp2_with (go_at_call 42
                         refine HW.out.mono ?_
                         rintro e w2 ⟨g, rfl, hR, hb2⟩
                         obtain ⟨Aj, cj, hcj, hoj⟩ := hR.at_ hjn
                         simp only [HC.out] at hcj hoj
                         have HB2 := Lib.hid (HB.out.trans (hb2.mono hszj))
                         clear hR hoj hb2)
            go_roundw
            case rel => exact ⟨j + 1, by omega, by go_num, (show ∀ s, s < j + 1 → ¬ Wk nx s (t + 1) s from fun s hs => by
              rcases Nat.lt_or_ge s j with h | h
              · exact hnj.out s h
              · obtain rfl : s = j := by omega
                exact HNW.out), HB2.out⟩
            case measure => simp [intOf]; omega
          · have hCp : 0 < C.length := by
              rcases Nat.eq_zero_or_pos C.length with h | h
              · exact absurd (List.eq_nil_of_length_eq_zero h) hC0
              · exact h
            have HIS := Lib.hid (show IsCyc nx n n C from .inr ⟨t + 1, j, by omega, by omega, hjn, HIF.out.1 hC0, HC.out.symm, fun s hs r hr => hno.out s hs r (by omega), hnj.out⟩)
            clear hC0
            go_wp2_with (go_at_call 42
                         refine HW.out.mono ?_
                         rintro e w2 ⟨g, rfl, hR, hb2⟩
                         obtain ⟨Aj, cj, hcj, hoj⟩ := hR.at_ hjn
                         simp only [HC.out] at hcj hoj
                         have HOJ := Lib.hid hoj
                         have HB2 := Lib.hid (HB.out.trans (hb2.mono hszj))
                         clear hR hoj hb2)
            go_ret
            exact ⟨_, C, rfl, HIS.out, HOJ.out.base_ fun b hb => by have := (HOJ.out.lt b hb).1; omega, HB2.out⟩
        · obtain rfl : n = j := by omega
          have HB := Lib.hid hB
          have HNT := Lib.hid (show ∀ s, s < n → ∀ r, r ≤ t + 1 → ¬ Wk nx s r s from fun s hs r hr => by
            rcases Nat.lt_or_ge r (t + 1) with h | h
            · exact hno.out s hs r (by omega)
            · obtain rfl : r = t + 1 := by omega
              exact hnj.out s hs)
          clear hB
          go_wp2_with fail
          go_roundw
          case rel => exact ⟨t + 1, by omega, by go_num, HNT.out, HB.out⟩
          case measure => simp [intOf]; omega
    · obtain rfl : n = t := by omega
      go_wp2_with fail
      go_ret
      exact ⟨_, [], rfl, .inl ⟨rfl, hno.out⟩, Own.nil _ _, hB⟩
end Go.Proofs.YtdebnnigbbjbcaaDoor
