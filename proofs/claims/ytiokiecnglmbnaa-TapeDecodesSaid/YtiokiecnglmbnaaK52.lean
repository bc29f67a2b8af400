/-
  What stands between two steps of the reference's decoder. No function of the program.
-/
import Derived.Test.YtiokiecnglmbnaaK20
import Derived.Test.YtiokiecnglmbnaaK46

namespace Go.Proofs.Ytiokiecnglmbnaa
open Go Go.RowKit Go.Proofs
attribute [local go_sem] Oper.semAt_some

/-- What stands between two steps of the decoder: its reader in block g, its tape in block t5 with these events and answers, its result's cell. -/
structure RcAt (lo B g t5 r0 : Nat) (W : World) (s : St) (E : Option Addr) (ne ce : Nat) (A : Option Addr) (na ca : Nat) (es : List NM.Ev) (l : List TP.An) : Prop where
  rd : RAt B W g s
  box : W.heap[t5]? = some (.cells #[.slice E ne ce, .slice A na ca] 26 (0, 0))
  res : W.heap[r0]? = some (.cells #[.slice none 0 0, .slice none 0 0] 26 (0, 0))
  row : TapeIs lo W E ne ce A na ca es l
  bg : B ≤ lo
  g0 : r0 < g
  g1 : g < t5
  g2 : t5 < lo
/-- The reader has read on. -/
theorem RcAt.but {lo B g t5 r0 : Nat} {W W' : World} {s s' : St} {E A : Option Addr} {ne ce na ca : Nat} {es : List NM.Ev} {l : List TP.An} (h : RcAt lo B g t5 r0 W s E ne ce A na ca es l) (hb : But g W W') (hi : RAt B W' g s') : RcAt lo B g t5 r0 W' s' E ne ce A na ca es l := by
  obtain ⟨C, hC⟩ := h.rd.struct
  have h0 := h.g0
  have h1 := h.g1
  exact ⟨hi, (hb.block t5 (heap_lt h.box) (fun e => by injection e with e; omega)).trans h.box, (hb.block r0 (heap_lt h.res) (fun e => by injection e with e; omega)).trans h.res, h.row.grown hb hC (by decide) (by decide), h.bg, h.g0, h.g1, h.g2⟩
theorem RcAt.below {lo B g t5 r0 : Nat} {W W' : World} {s : St} {E A : Option Addr} {ne ce na ca : Nat} {es : List NM.Ev} {l : List TP.An} (h : RcAt lo B g t5 r0 W s E ne ce A na ca es l) (hb : Below W.heap.size W W') : RcAt lo B g t5 r0 W' s E ne ce A na ca es l :=
  ⟨h.rd.below hb, (hb.block _ (heap_lt h.box)).trans h.box, (hb.block _ (heap_lt h.res)).trans h.res, h.row.keep hb, h.bg, h.g0, h.g1, h.g2⟩
/-- An event is appended: the row has grown, the box's first cell is set. -/
theorem RcAt.event {lo B g t5 r0 : Nat} {W W7 : World} {s : St} {E A E' : Option Addr} {ne ce na ca ce' : Nat} {es : List NM.Ev} {l : List TP.An} {x : NM.Ev} (h : RcAt lo B g t5 r0 W s E ne ce A na ca es l)
    (hown : W7.ownsRow lo 47 8 (.slice E' (ne + 1) ce') (ne + 1) (es.flatMap evC ++ evC x)) (hgr : W.grownBy W7 (Value.slice E ne ce).ownBlock) :
    RcAt lo B g t5 r0 (W7.setCell ⟨t5, 0, none⟩ (.slice E' (ne + 1) ce')) s E' (ne + 1) ce' A na ca (es ++ [x]) l := by
  have hob : ∀ b, (Value.slice E ne ce).ownBlock = some b → lo ≤ b := fun b hb => (evRow_ne h.row.2.1 hb).1
  have h2 := h.g2
  have h1 := h.g1
  have h0 := h.g0
  have hbx : W7.heap[t5]? = _ := (hgr.block t5 (heap_lt h.box) (fun e => by have := hob _ e.symm; omega)).trans h.box
  have hrs : W7.heap[r0]? = _ := (hgr.block r0 (heap_lt h.res) (fun e => by have := hob _ e.symm; omega)).trans h.res
  have hrd : RAt B W7 g s := h.rd.grown hgr (fun e => by have := hob _ e.symm; omega) (fun b e => .inl (Nat.le_trans h.bg (hob b e)))
  have han : W7.ownsRow lo 71 6 (.slice A na ca) na (TP.ansC l) := h.row.2.2.kept hgr (by
    rcases hv : (Value.slice A na ca).ownBlock with _ | b
    · exact .inl rfl
    · refine .inr fun e => ?_
      obtain ⟨_, C, hC⟩ := anRow_ne h.row.2.2 hv
      obtain ⟨_, D, hD⟩ := evRow_ne h.row.2.1 e.symm
      rw [hC] at hD
      injection hD with hD
      injection hD with _ hD
      cases hD)
  obtain ⟨W8, hW8, k8, o8, z8, p8, q8, r8⟩ := set1D hbx (i := 0) (.slice E' (ne + 1) ce')
  rw [hW8]
  have hg8 : W7.grownBy W8 (some t5) := ⟨p8, q8, r8, by omega, fun b _ hne => o8 b (fun e => hne (by rw [e]))⟩
  refine ⟨hrd.grown hg8 (fun e => by injection e with e; omega) (fun b e => .inr (fun C hC => by injection e with e; subst e; rw [hbx] at hC; injection hC with hC; injection hC with _ hC; cases hC)), k8, (o8 r0 (by omega)).trans hrs, ⟨⟨by rw [List.length_append, List.length_singleton, h.row.1.1], h.row.1.2⟩, ?_, han.kept hg8 (own_ne han hbx (by decide))⟩, h.bg, h.g0, h.g1, h.g2⟩
  rw [List.flatMap_append, show [x].flatMap evC = evC x by simp]
  exact hown.kept hg8 (own_ne hown hbx (by decide))
/-- An answer is appended. -/
theorem RcAt.answer {lo B g t5 r0 : Nat} {W W7 : World} {s : St} {E A A' : Option Addr} {ne ce na ca ca' : Nat} {es : List NM.Ev} {l : List TP.An} {x : TP.An} (h : RcAt lo B g t5 r0 W s E ne ce A na ca es l)
    (hown : W7.ownsRow lo 71 6 (.slice A' (na + 1) ca') (na + 1) (TP.ansC l ++ TP.anC x)) (hgr : W.grownBy W7 (Value.slice A na ca).ownBlock) :
    RcAt lo B g t5 r0 (W7.setCell ⟨t5, 1, none⟩ (.slice A' (na + 1) ca')) s E ne ce A' (na + 1) ca' es (l ++ [x]) := by
  have hob : ∀ b, (Value.slice A na ca).ownBlock = some b → lo ≤ b := fun b hb => (anRow_ne h.row.2.2 hb).1
  have h2 := h.g2
  have h1 := h.g1
  have h0 := h.g0
  have hbx : W7.heap[t5]? = _ := (hgr.block t5 (heap_lt h.box) (fun e => by have := hob _ e.symm; omega)).trans h.box
  have hrs : W7.heap[r0]? = _ := (hgr.block r0 (heap_lt h.res) (fun e => by have := hob _ e.symm; omega)).trans h.res
  have hrd : RAt B W7 g s := h.rd.grown hgr (fun e => by have := hob _ e.symm; omega) (fun b e => .inl (Nat.le_trans h.bg (hob b e)))
  have hev : W7.ownsRow lo 47 8 (.slice E ne ce) ne (es.flatMap evC) := h.row.2.1.kept hgr (by
    rcases hv : (Value.slice E ne ce).ownBlock with _ | b
    · exact .inl rfl
    · refine .inr fun e => ?_
      obtain ⟨_, C, hC⟩ := evRow_ne h.row.2.1 hv
      obtain ⟨_, D, hD⟩ := anRow_ne h.row.2.2 e.symm
      rw [hC] at hD
      injection hD with hD
      injection hD with _ hD
      cases hD)
  obtain ⟨W8, hW8, k8, o8, z8, p8, q8, r8⟩ := set1D hbx (i := 1) (.slice A' (na + 1) ca')
  rw [hW8]
  have hg8 : W7.grownBy W8 (some t5) := ⟨p8, q8, r8, by omega, fun b _ hne => o8 b (fun e => hne (by rw [e]))⟩
  refine ⟨hrd.grown hg8 (fun e => by injection e with e; omega) (fun b e => .inr (fun C hC => by injection e with e; subst e; rw [hbx] at hC; injection hC with hC; injection hC with _ hC; cases hC)), k8, (o8 r0 (by omega)).trans hrs, ⟨⟨h.row.1.1, by rw [List.length_append, List.length_singleton, h.row.1.2]⟩, hev.kept hg8 (own_ne hev hbx (by decide)), ?_⟩, h.bg, h.g0, h.g1, h.g2⟩
  rw [ansC_snoc]
  exact hown.kept hg8 (own_ne hown hbx (by decide))
end Go.Proofs.Ytiokiecnglmbnaa
