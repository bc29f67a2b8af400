/-
  One more edge behind a copy of the edges: laws of append for rows of pairs, at a step of a region that draws and at a plain one. No function of the program.
-/
import Derived.Laws.AppendOwnNone
import Derived.Deep.RegionHeld3
import Derived.Deep.RegionLaw
import Derived.Test.YtdebnnigbbjbcaaDoorK5

namespace Go.Proofs.YtdebnnigbbjbcaaDoor
open Go Go.RowKit

theorem info_pair2 : (Tryd.prog.info? 39).map (fun i => (i.zero, i.size, i.bytes)) = some (some (.agg #[.int .i64 0, .int .i64 0]), 2, 16) := info_pair
theorem pcs_one (E : List (Nat × Nat)) : ∀ u ∈ pcs E, u.oneCell' = true := by
  intro u hu
  unfold pcs at hu
  rw [List.mem_flatMap] at hu
  obtain ⟨e, _, h⟩ := hu
  simp at h
  rcases h with rfl | rfl <;> rfl
theorem pcs_app (E G : List (Nat × Nat)) : pcs (E ++ G) = pcs E ++ pcs G := by unfold pcs; rw [List.flatMap_append]
/-- What is appended: nothing that is nil, or cells that are there. -/
def Src2 (w : World) (A : Option Addr) (m c : Nat) (E : List (Nat × Nat)) : Prop := E.length = m ∧ ((A = none ∧ m = 0 ∧ c = 0) ∨ ∃ ad, A = some ad ∧ ∀ j u, (pcs E)[j]? = some u → w.cell? (ad.add j) = some u)
theorem OwnE.src {w : World} {lo m c : Nat} {A : Option Addr} {E : List (Nat × Nat)} (h : OwnE w lo (.slice A m c) E) : Src2 w A m c E := by
  obtain ⟨hm, _⟩ := h.edg
  refine ⟨hm.symm, ?_⟩
  rcases h.2 with ⟨e, e2⟩ | ⟨g, cap, cur, e, _, h2, _⟩
  · injection e with e1 e3 e4
    exact .inl ⟨e1, e3, e4⟩
  · injection e with e1 e3 e4
    subst e1
    exact .inr ⟨_, rfl, fun j u hu => World.ownsRow.cells h rfl j u hu⟩
theorem src_lit {w : World} {g x y : Nat} (h : w.heap[g]? = some (.cells #[nv x, nv y] 39 (0, 0))) : Src2 w (some ⟨g, 0, none⟩) 1 1 [(x, y)] :=
  ⟨rfl, .inr ⟨_, rfl, fun j u hu => World.news_of_block h j u hu⟩⟩
/-- append of pairs onto an own row. -/
theorem wp_append_pairs {o : Oper} {a : Act} {w : World} {K : Act → World → Prop} {Q : Exit → Act → World → Prop} (s x : Operand)
    (ho : o.op = .call { callee := .builtin .append, args := #[s, x], argTypes := #[24, 24] }) (base : Nat)
    (B : Option Addr) (k d : Nat) (G : List (Nat × Nat)) (hs : a.eval s = .slice B k d) (hown : OwnE w base (.slice B k d) G)
    (A : Option Addr) (m c : Nat) (E : List (Nat × Nat)) (hx : a.eval x = .slice A m c) (hsrc : Src2 w A m c E) (hlen : G.length + E.length ≤ 1000000) (hbase : base ≤ w.heap.size)
    (h : ∀ A' c' w', OwnE w' base (.slice A' (k + m) c') (G ++ E) → w.grownBy w' (Value.slice B k d).ownBlock → K (a.put o.dst (.slice A' (k + m) c')) w') : o.wp Tryd.prog a w K Q := by
  obtain ⟨i0, hi0, hz0, hz1, hz2⟩ := info_parts info_pair2
  obtain ⟨hk, _⟩ := hown.edg
  obtain ⟨hm, hsr⟩ := hsrc
  rcases hsr with ⟨rfl, rfl, rfl⟩ | ⟨ad, rfl, hc⟩
  · have hE : E = [] := List.eq_nil_of_length_eq_zero hm
    subst hE
    have hown' : w.ownsRow base 39 2 (.slice B k d) k (pcs G) := by
      have := hown
      unfold OwnE at this
      rw [← hk] at this
      exact this
    have hrun := run_append_owned_none (P := Tryd.prog) (w := w) base 24 o.type 39 i0 2 Tryd.underlying24 hi0 (.slice B k d) k (pcs G) hown'
    unfold Oper.wp
    simp [execOp, ho, resolve, invoke, builtin, hs, hx, hrun, Result.andThen]
    have := h B d w (by rw [List.append_nil]; exact hown) ⟨rfl, rfl, rfl, Nat.le_refl _, fun _ _ _ => rfl⟩
    exact this
  · have hown' : w.ownsRow base 39 2 (.slice B k d) k (pcs G) := by
      have := hown
      unfold OwnE at this
      rw [← hk] at this
      exact this
    refine wp_append_own (P := Tryd.prog) w s x 24 ho base 39 i0 _ 2 16 Tryd.underlying24 hi0 hz0 hz1 hz2 rfl (by decide) (.slice B k d) k (pcs G) hs hown' ad m c (pcs E) hx (by rw [pcs_len, hm]) hc (pcs_one E) (by simp only [maxLen]; omega) (by omega) hbase ?_
    intro v' w' h1 h2 _
    obtain ⟨A', c', rfl⟩ : ∃ A' c', v' = .slice A' (k + m) c' := by
      rcases h1.2 with ⟨rfl, h0⟩ | ⟨g, cap, cur, rfl, _⟩
      · exact ⟨none, 0, by rw [h0]⟩
      · exact ⟨_, cap, rfl⟩
    refine h A' c' w' ?_ h2
    unfold OwnE
    rw [List.length_append, ← hk, hm, pcs_app]
    exact h1
theorem step_append_pairs {ops : Array Oper} {o : Oper} {a : Act} {w : World} {K : Act → World → Prop} {Q : Exit → Act → World → Prop} {Z : Prop} (hgd : o.guard = none) (s x : Operand)
    (ho : o.op = .call { callee := .builtin .append, args := #[s, x], argTypes := #[24, 24] }) (base : Nat)
    (B : Option Addr) (k d : Nat) (G : List (Nat × Nat)) (hs : a.eval s = .slice B k d) (hown : OwnE w base (.slice B k d) G)
    (A : Option Addr) (m c : Nat) (E : List (Nat × Nat)) (hx : a.eval x = .slice A m c) (hsrc : Src2 w A m c E) (hlen : G.length + E.length ≤ 1000000) (hbase : base ≤ w.heap.size)
    (h : ∀ A' c' w', OwnE w' base (.slice A' (k + m) c') (G ++ E) → w.grownBy w' (Value.slice B k d).ownBlock → K (a.put o.dst (.slice A' (k + m) c')) w') :
    if Region.wanted o (yielded ops a.tmps) = true then Oper.wp Tryd.prog o a w K Q else Z := by
  have hw : Region.wanted o (yielded ops a.tmps) = true := by simp [Region.wanted, hgd]
  rw [if_pos hw]
  exact wp_append_pairs s x ho base B k d G hs hown A m c E hx hsrc hlen hbase h
theorem wpList_append_pairs {ops : Array Oper} {rest : List Oper} {o : Oper} {a : Act} {w : World} {Q : Exit → Act → World → Prop} (hgd : o.guard = none) (s x : Operand)
    (ho : o.op = .call { callee := .builtin .append, args := #[s, x], argTypes := #[24, 24] }) (base : Nat)
    (B : Option Addr) (k d : Nat) (G : List (Nat × Nat)) (hs : a.eval s = .slice B k d) (hown : OwnE w base (.slice B k d) G)
    (A : Option Addr) (m c : Nat) (E : List (Nat × Nat)) (hx : a.eval x = .slice A m c) (hsrc : Src2 w A m c E) (hlen : G.length + E.length ≤ 1000000) (hbase : base ≤ w.heap.size)
    (h : ∀ A' c' w', OwnE w' base (.slice A' (k + m) c') (G ++ E) → w.grownBy w' (Value.slice B k d).ownBlock → wpList Tryd.prog ops Q rest (a.put o.dst (.slice A' (k + m) c')) w') : wpList Tryd.prog ops Q (o :: rest) a w :=
  wpList_plain hgd fun _ hK => wp_append_pairs s x ho base B k d G hs hown A m c E hx hsrc hlen hbase fun A' c' w' h1 h2 => hK _ _ (h A' c' w' h1 h2)
/-- An empty literal of pairs. -/
theorem ownE_lit0 (w : World) (lo : Nat) (h : lo ≤ w.heap.size) : OwnE (w.alloc (.cells #[] 39)) lo (.slice (some ⟨w.heap.size, 0, none⟩) 0 0) [] :=
  ⟨rfl, .inr ⟨w.heap.size, 0, #[], rfl, h, World.alloc_heap_new w _, Nat.le_refl _, by simp [maxLen], rfl, rfl⟩⟩
theorem ownE_lit0g (w : World) (lo g : Nat) (hg : w.heap.size = g) (h : lo ≤ g) : OwnE (w.alloc (.cells #[] 39)) lo (.slice (some ⟨g, 0, none⟩) 0 0) [] := by
  subst hg
  exact ownE_lit0 w lo h
theorem ownE_drew {w : World} {lo : Nat} {v : Value} {E : List (Nat × Nat)} (h : OwnE w lo v E) : OwnE w.drew lo v E := h.keep fun _ _ => rfl
theorem ownE_alloc {w : World} {lo : Nat} {v : Value} {E : List (Nat × Nat)} {o : Obj} (h : OwnE w lo v E) : OwnE (w.alloc o) lo v E := h.keep fun b hb => Below.heap_alloc _ _ _ (h.lt b hb).2
theorem src_litg (w : World) (g x y : Nat) (hg : w.heap.size = g) : Src2 (w.alloc (.cells #[.int .i64 (x : Int), .int .i64 (y : Int)] 39)) (some ⟨g, 0, none⟩) 1 1 [(x, y)] := by
  subst hg
  exact src_lit (World.alloc_heap_new w _)
theorem pair_new {w : World} {o : Obj} {P : Obj} : ((w.alloc o).alloc P).heap[w.heap.size + 1]? = some P := by
  have := World.alloc_heap_new (w.alloc o) P
  rw [World.size_alloc] at this
  exact this
theorem pair_old {w : World} {o : Obj} {P : Obj} : ((w.alloc P).alloc o).heap[w.heap.size]? = some P := (Below.heap_alloc _ _ _ (by simp)).trans (World.alloc_heap_new w P)
theorem src_drew {w : World} {A : Option Addr} {m c : Nat} {E : List (Nat × Nat)} (h : Src2 w A m c E) : Src2 w.drew A m c E := h
theorem src_keep_new {w w' : World} {o : Obj} {x y : Nat} (h : ((w.alloc o).alloc (.cells #[.int .i64 (x : Int), .int .i64 (y : Int)] 39)).drew.grownBy w' (Value.slice (some ⟨w.heap.size, 0, none⟩) 0 0).ownBlock) : Src2 w' (some ⟨w.heap.size + 1, 0, none⟩) 1 1 [(x, y)] := by
  refine src_lit ((h.block (w.heap.size + 1) ?_ ?_).trans ?_)
  · show w.heap.size + 1 < ((w.alloc o).alloc _).heap.size
    simp
  · simp [Value.ownBlock]
  · exact pair_new
theorem src_keep_old {w w' : World} {o : Obj} {x y : Nat} (h : ((w.alloc (.cells #[.int .i64 (x : Int), .int .i64 (y : Int)] 39)).alloc o).drew.grownBy w' (Value.slice (some ⟨w.heap.size + 1, 0, none⟩) 0 0).ownBlock) : Src2 w' (some ⟨w.heap.size, 0, none⟩) 1 1 [(x, y)] := by
  refine src_lit ((h.block w.heap.size ?_ ?_).trans ?_)
  · show w.heap.size < ((w.alloc _).alloc o).heap.size
    simp; omega
  · simp [Value.ownBlock]
  · exact pair_old
end Go.Proofs.YtdebnnigbbjbcaaDoor
