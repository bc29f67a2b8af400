/-
  (The template XMem under the namespace H, for seats that hold other stages too.) What a slice of integers holds, nil let in; no program.
-/
import Derived.Test.YtjbmmagaeaphoaaDoorK21
import Derived.Below
import Derived.Laws.OwnMore
import Derived.Deep.Draws
import Derived.Deep.AppendLies

namespace Go.Proofs.YtjbmmagaeaphoaaDoor.H
open Go Go.RowKit

/-- The slice at A, of length n, lies below block B and holds the integers zs of kind k. -/
def Ints (k : IntKind) (B : Nat) (w : World) (A : Option Addr) (n : Nat) (zs : List Int) : Prop :=
  zs.length = n ∧ (0 < n → ∃ b off, A = some ⟨b, off, none⟩ ∧ b < B ∧ ∀ j, j < n → w.cell? ⟨b, off + j, none⟩ = some (.int k (zs[j]?.getD 0)))

section
variable {k : IntKind} {B B' n : Nat} {w w' : World} {A : Option Addr} {zs : List Int}
theorem Ints.len (h : Ints k B w A n zs) : zs.length = n := h.1
theorem Ints.nil (k : IntKind) (B : Nat) (w : World) (A : Option Addr) : Ints k B w A 0 [] := ⟨rfl, fun h => absurd h (by omega)⟩
theorem Ints.at_ (h : Ints k B w A n zs) (hn : 0 < n) : ∃ b off, A = some ⟨b, off, none⟩ ∧ b < B ∧ ∀ j, j < n → w.cell? ⟨b, off + j, none⟩ = some (.int k (zs[j]?.getD 0)) := h.2 hn
theorem Ints.keep (h : Ints k B w A n zs) (hk : ∀ p : Addr, p.block < B → w'.cell? p = w.cell? p) : Ints k B w' A n zs :=
  ⟨h.1, fun hn => by
    obtain ⟨b, off, e, hb, hc⟩ := h.2 hn
    exact ⟨b, off, e, hb, fun j hj => (hk ⟨b, off + j, none⟩ hb).trans (hc j hj)⟩⟩
theorem Ints.more (h : Ints k B w A n zs) (hB : B ≤ B') : Ints k B' w A n zs :=
  ⟨h.1, fun hn => by
    obtain ⟨b, off, e, hb, hc⟩ := h.2 hn
    exact ⟨b, off, e, by omega, hc⟩⟩
theorem Ints.below (h : Ints k B w A n zs) (hb : Below B w w') : Ints k B w' A n zs := h.keep fun _ hp => hb.cell hp
theorem Ints.alloc (h : Ints k B w A n zs) (hB : B ≤ w.heap.size) (o : Obj) : Ints k B (w.alloc o) A n zs := h.below ((Below.refl _ _).alloc hB o)
theorem Ints.drew (h : Ints k B w A n zs) : Ints k B w.drew A n zs := h.below (Below.refl _ _).drew
theorem Ints.setCell (h : Ints k B w A n zs) {p : Addr} (hB : B ≤ p.block) (u : Value) : Ints k B (w.setCell p u) A n zs := h.below ((Below.refl _ _).setCell hB u)

theorem getD_mem {l : List Int} {j : Nat} (h : j < l.length) : l[j]?.getD 0 ∈ l := by
  rw [List.getElem?_eq_getElem h]; exact List.getElem_mem h

/-- What a row that the call owns holds. -/
theorem Ints.of_own {base size : Nat} {e : TypeId} {a : Option Addr} {n c : Nat} {zs : List Int} (hs : size = 1) (h : w.ownsRow base e size (.slice a n c) n (zs.map (Value.int k))) : Ints k w.heap.size w a n zs := by
  subst hs
  refine ⟨by have := h.1; simpa using this, fun hn => ?_⟩
  obtain ⟨g, cap, hv, _, hlt⟩ := h.form hn
  have hA : a = some ⟨g, 0, none⟩ := by injection hv
  subst hA
  refine ⟨g, 0, rfl, hlt, fun j hj => ?_⟩
  have hl : zs.length = n := by have := h.1; simpa using this
  have hc := h.cells (g := g) rfl j (.int k (zs[j]?.getD 0)) (by rw [List.getElem?_map, List.getElem?_eq_getElem (by omega)]; rfl)
  rw [Addr.add_lit] at hc
  exact hc
end
end Go.Proofs.YtjbmmagaeaphoaaDoor.H
