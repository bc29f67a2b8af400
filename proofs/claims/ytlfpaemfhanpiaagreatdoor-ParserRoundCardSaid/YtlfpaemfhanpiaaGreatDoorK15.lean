/-
  The printer in memory: its block, the text so far; what a printing function leaves alone. No function of the program.
-/
import Derived.Test.YtlfpaemfhanpiaaGreatDoorK12
import Derived.Test.YtlfpaemfhanpiaaGreatDoorK3
import Derived.Lib.AppendStr

namespace Go.Proofs.YtlfpaemfhanpiaaGreatDoor
open Go Go.RowKit Go.Proofs

def bcells (l : PS.Bs) : List Value := l.map fun c => Value.int .u8 ((c.toNat : Nat) : Int)
theorem strCells_bs (l : PS.Bs) : Go.Lib.strCells (PS.bs l) = bcells l := by
  simp [Go.Lib.strCells, bcells]
theorem bcells_append (a b : PS.Bs) : bcells (a ++ b) = bcells a ++ bcells b := by simp [bcells]
theorem bcells_len (a : PS.Bs) : (bcells a).length = a.length := by simp [bcells]
/-- The printer in block g, with this text; all of it from block lo on. -/
def PrV (lo : Nat) (W : World) (g : Nat) (x : PS.Bs) : Prop := lo ≤ g ∧ ∃ v, W.heap[g]? = some (.cells #[v] 51 (0, 0)) ∧ W.ownsRow lo 5 1 v x.length (bcells x)
/-- Blocks of other types stand; whatever turns lies from lo on. -/
structure QT (lo : Nat) (W W' : World) : Prop where
  chg : Chg (lo ≤ ·) W W'
  ty : ∀ (b : Nat) (C : Array Value) (T : TypeId), W.heap[b]? = some (.cells C T (0, 0)) → T ≠ 5 → T ≠ 51 → W'.heap[b]? = some (.cells C T (0, 0))
section
variable {lo g : Nat} {W V U : World} {x : PS.Bs}
theorem QT.refl (lo : Nat) (W : World) : QT lo W W := ⟨Chg.refl _ _, fun _ _ _ h _ _ => h⟩
theorem QT.trans (h : QT lo W V) (k : QT lo V U) : QT lo W U := ⟨h.chg.trans k.chg fun _ _ e => e, fun b C T hb h1 h2 => k.ty b C T (h.ty b C T hb h1 h2) h1 h2⟩
theorem QT.alloc (h : QT lo W V) (o : Obj) : QT lo W (V.alloc o) := ⟨h.chg.alloc o, fun b _ _ hb h1 h2 => by
  have := h.ty b _ _ hb h1 h2
  exact (Below.heap_alloc V o b (heap_lt this)).trans this⟩
theorem QT.below (h : QT lo W V) (hl : lo ≤ W.heap.size) : Below lo W V := h.chg.below (fun _ _ e => e) hl
theorem QT.size (h : QT lo W V) : W.heap.size ≤ V.heap.size := h.chg.size
theorem QT.of_below (h : Below W.heap.size W V) : QT lo W V := ⟨Chg.of_new h _, fun b _ _ hb _ _ => (h.block b (heap_lt hb)).trans hb⟩
theorem QT.drewN (h : QT lo W V) (q : Nat) : QT lo W (V.drewN q) := ⟨h.chg.drewN q, h.ty⟩
theorem QT.drew (h : QT lo W V) : QT lo W V.drew := ⟨h.chg.drew, h.ty⟩
/-- A tree stands where blocks of its type do. -/
theorem QT.nd {hi : Nat} {t : TY.Nd} {v : Value} (h : QT lo W V) (hv : NdV W hi t v) : NdV V hi t v :=
  hv.keep (fun b C _ hC => (h.ty b C _ hC (by decide) (by decide)).trans hC.symm) (Nat.le_refl _)
theorem row_one {g : Nat} {T : TypeId} {x0 : Value} (h : W.heap[g]? = some (.cells #[x0] T (0, 0))) (v : Value) : (W.setCell ⟨g, 0, none⟩ v).heap[g]? = some (.cells #[v] T (0, 0)) := by
  simp only [World.setCell, Array.getElem?_modify]
  simp [h]
theorem PrV.lt (h : PrV lo W g x) : g < W.heap.size := by
  obtain ⟨_, v, h1, _⟩ := h
  exact heap_lt h1
theorem PrV.keep (h : PrV lo W g x) (hb : Below W.heap.size W V) : PrV lo V g x := by
  obtain ⟨h0, v, h1, h2⟩ := h
  exact ⟨h0, v, (hb.block g (heap_lt h1)).trans h1, own_of_block h2 fun b hbb => hb.block b (World.ownsRow.lt h2 b hbb).2⟩
theorem PrV.alloc (h : PrV lo W g x) (o : Obj) : PrV lo (W.alloc o) g x := h.keep ((Below.refl _ _).alloc (Nat.le_refl _) o)
/-- The text's slice. -/
theorem PrV.form (h : PrV lo W g x) : ∃ A c, W.heap[g]? = some (.cells #[.slice A x.length c] 51 (0, 0)) ∧ W.ownsRow lo 5 1 (.slice A x.length c) x.length (bcells x) ∧ lo ≤ g := by
  obtain ⟨h0, v, h1, h2⟩ := h
  obtain ⟨A, c, rfl, _, _⟩ := own_slice h2
  exact ⟨A, c, h1, h2, h0⟩
/-- Behind an append and the store of its result. -/
theorem PrV.put {A : Option Addr} {c : Nat} {v' : Value} {y : PS.Bs} {w2 : World} (h1 : W.heap[g]? = some (.cells #[.slice A x.length c] 51 (0, 0))) (h2 : W.ownsRow lo 5 1 (.slice A x.length c) x.length (bcells x)) (h0 : lo ≤ g) (hg : W.grownBy w2 (Value.slice A x.length c).ownBlock) (ho : w2.ownsRow lo 5 1 v' y.length (bcells y)) :
    PrV lo (w2.setCell ⟨g, 0, none⟩ v') g y ∧ QT lo W (w2.setCell ⟨g, 0, none⟩ v') := by
  have hgt : ∀ k, (Value.slice A x.length c).ownBlock = some k → ∃ C, W.heap[k]? = some (.cells C 5 (0, 0)) := fun k hk => by
    rcases h2.2 with ⟨e, _⟩ | ⟨q, cap, cur, e, _, hq, _⟩
    · rw [e] at hk; cases hk
    · rw [e] at hk
      injection hk with hk
      subst hk
      exact ⟨_, hq⟩
  have hne : ∀ k, (Value.slice A x.length c).ownBlock = some k → k ≠ g := fun k hk => by
    obtain ⟨C, hC⟩ := hgt k hk
    exact heapT_ne hC h1 (by decide)
  have hgl := heap_lt h1
  have hg2 : w2.heap[g]? = some (.cells #[.slice A x.length c] 51 (0, 0)) := (hg.block g hgl (fun e => hne g e.symm rfl)).trans h1
  refine ⟨⟨h0, v', row_one hg2 v', own_of_block ho fun b hb => Below.heap_setCell _ _ _ _ ?_⟩, ⟨?_, fun b C T hb n1 n2 => ?_⟩⟩
  · show b ≠ g
    rcases ho.2 with ⟨e, _⟩ | ⟨q, cap, cur, e, _, hq, _⟩
    · rw [e] at hb; cases hb
    · rw [e] at hb
      injection hb with hb
      subst hb
      exact heapT_ne hq hg2 (by decide)
  · refine ((Chg.of_grown hg).mono fun b hb e => ?_).setCell (p := ⟨g, 0, none⟩) (fun _ => h0) _
    exact (World.ownsRow.lt h2 b e.symm).1
  · have hbl := heap_lt hb
    have n3 : b ≠ g := heapT_ne hb h1 n2
    refine (Below.heap_setCell _ _ _ _ n3).trans ((hg.block b hbl fun e => ?_).trans hb)
    obtain ⟨C', hC'⟩ := hgt b e.symm
    exact heapT_ne hb hC' n1 rfl
end
end Go.Proofs.YtlfpaemfhanpiaaGreatDoor
