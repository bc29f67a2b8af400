/-
  append onto an empty row, in whatever order: nothing is turned that was there. No function of the program.
-/
import Derived.Test.YtepbppckhfiplaaRgN
import Derived.Test.YtepbppckhfiplaaRgA
import Derived.Deep.AppendSrc
import Derived.Deep.Upon
namespace Go.Proofs.Ytepbppckhfiplaa.RgX
open Go Go.RowKit Go.Proofs Go.Proofs.Ytepbppckhfiplaa

/-- What lies at a slice's start. -/
def Lies (e : TypeId) (w : World) (B : Option Addr) (m c : Nat) (news : List Value) : Prop := m ≤ c ∧ c ≤ maxLen ∧ ((B = none ∧ m = 0 ∧ c = 0 ∧ news = []) ∨ ∃ (g : Nat) (C : Array Value), B = some ⟨g, 0, none⟩ ∧ w.heap[g]? = some (.cells C e (0, 0)) ∧ ∀ (j : Nat) (u : Value), news[j]? = some u → C[j]? = some u)
theorem app_empty_exec {P : Program} {o : Oper} {a : Act} {w : World} (s x : Operand) (t : TypeId) (ho : o.op = .call { callee := .builtin .append, args := #[s, x], argTypes := #[t, t] })
    (e : TypeId) (i : TypeInfo) (z : Value) (ht : P.underlying t = some (.slice e)) (hi : P.info? e = some i) (hz : i.zero = some z)
    (g : Nat) (hs : a.eval s = .slice (some ⟨g, 0, none⟩) 0 0) (hg : w.heap[g]? = some (.cells #[] e (0, 0)))
    (A : Option Addr) (m c : Nat) (news : List Value) (hx : a.eval x = .slice A m c) (hl : news.length = m * i.size) (hsrc : RgX.Src w A m c news) (h1 : ∀ u ∈ news, u.oneCell' = true)
    (h63 : m ≤ maxLen) (hb : m * i.bytes ≤ 140737488355328) :
    ∃ B r w', (execOp a.eval o).run P w = .ok (.value (.slice B m r)) w' ∧ Below w.heap.size w w' ∧ Lies e w' B m r news := by
  have nothing : m = 0 → news = [] → Go.Src P i.size t (.slice A m c) 0 [] w → ∃ B r w', (execOp a.eval o).run P w = .ok (.value (.slice B m r)) w' ∧ Below w.heap.size w w' ∧ Lies e w' B m r news := fun hm hn hS => by
    subst hm
    subst hn
    have hr := run_append_nothing (P := P) w t t o.type e i ht hi (some ⟨g, 0, none⟩) 0 0 (Nat.le_refl _) (.slice A 0 c) hS
    refine ⟨some ⟨g, 0, none⟩, 0, w, ?_, Below.refl _ _, Nat.le_refl _, by simp [maxLen], .inr ⟨g, #[], rfl, hg, fun j u hu => by simp at hu⟩⟩
    unfold execOp
    simp only [ho, resolve, invoke, builtin, Sem.run_bind, Sem.run_pure, Result.andThen_ok, List.map_toArray, List.map_cons, List.map_nil, hs, hx, hr]
  rcases hsrc with ⟨rfl, rfl, rfl, rfl⟩ | ⟨ad, rfl, hc⟩
  · exact nothing rfl rfl (Go.Src.ofNil w ht 0)
  · by_cases hm : m = 0
    · subst hm
      obtain rfl : news = [] := List.eq_nil_of_length_eq_zero (by simpa using hl)
      exact nothing rfl rfl (Go.Src.ofSlice w ht ad 0 c [] (by simp) (fun j u hu => by simp at hu) (fun u hu => by cases hu))
    · have hold : (Builtin.firstCells i.size 0 (.slice (some ⟨g, 0, none⟩) 0 0)).run P w.drew = .ok ([] : List Value).toArray w.drew := run_firstCells_some w.drew i.size 0 ⟨g, 0, none⟩ 0 0 [] (by simp) (fun j u hu => by simp at hu)
      have hr := run_append_new (P := P) (o := o) (a := a) (w := w) s x t ho e i z ht hi hz (some ⟨g, 0, none⟩) 0 [] hs hold ad m c news hx hl hc h1 (by omega) (by omega) (by rw [Nat.zero_add]; exact hb)
      have hge := grownCap_ge w (0 + m) 0 e
      have hle := grownCap_le_maxLen w (0 + m) 0 e (by omega)
      refine ⟨some ⟨w.heap.size, 0, none⟩, grownCap w (0 + m) 0 e, _, by rw [hr, Nat.zero_add], below_drew_alloc w _, by omega, hle, .inr ⟨w.heap.size, _, rfl, heap_alloc_new w.drew _, fun j u hu => ?_⟩⟩
      rw [Array.getElem?_append, if_pos (by simpa using (List.getElem?_eq_some_iff.1 hu).1)]
      simpa using hu
/-- The same as one step of a region. -/
theorem app_empty_does {P : Program} {ops : Array Oper} {sp : Sp} {a : Act} {w : World} {o : Oper} (hw : Region.wanted o (yielded ops a.tmps) = true) (s x : Operand) (t : TypeId) (ho : o.op = .call { callee := .builtin .append, args := #[s, x], argTypes := #[t, t] })
    (e : TypeId) (i : TypeInfo) (z : Value) (ht : P.underlying t = some (.slice e)) (hi : P.info? e = some i) (hz : i.zero = some z)
    (g : Nat) (hs : a.eval s = .slice (some ⟨g, 0, none⟩) 0 0) (hg : w.heap[g]? = some (.cells #[] e (0, 0)))
    (A : Option Addr) (m c : Nat) (news : List Value) (hx : a.eval x = .slice A m c) (hl : news.length = m * i.size) (hsrc : RgX.Src w A m c news) (h1 : ∀ u ∈ news, u.oneCell' = true)
    (h63 : m ≤ maxLen) (hb : m * i.bytes ≤ 140737488355328) (hsp : ∀ B r w', Lies e w' B m r news → sp.p w' (.slice B m r)) : Does P ops sp a w o := by
  obtain ⟨B, r, w', hr, hb2, hl2⟩ := app_empty_exec s x t ho e i z ht hi hz g hs hg A m c news hx hl hsrc h1 h63 hb
  exact .run hw _ w' hr hb2 (hsp B r w' hl2)
end Go.Proofs.Ytepbppckhfiplaa.RgX
