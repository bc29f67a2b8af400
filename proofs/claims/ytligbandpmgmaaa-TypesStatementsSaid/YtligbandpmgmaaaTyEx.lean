/-
  Trees that a call has made: they lie in its new blocks; the state of the reference's source between draws. No function of the program but next.
-/
import Derived.Test.YtligbandpmgmaaaTyPi
namespace Go.Proofs.Ytligbandpmgmaaa
open Go Go.RowKit Go.Proofs Go.Shelf
attribute [local go_sem] Oper.semAt_some

/-- The tree lies in the blocks from B on. -/
def Nw (B : Nat) (w : World) (t : TY.Nd) (v : Value) : Prop := ∀ V : World, (∀ c, B ≤ c → c < w.heap.size → V.heap[c]? = w.heap[c]?) → ∀ hi, w.heap.size ≤ hi → NdV V hi t v
theorem Nw.here {B : Nat} {w : World} {t : TY.Nd} {v : Value} (h : Nw B w t v) : NdV w w.heap.size t v := h w (fun _ _ _ => rfl) _ (Nat.le_refl _)
theorem Nw.shape {B : Nat} {w : World} {t : TY.Nd} {v : Value} (h : Nw B w t v) : ∃ (k n : Int) (s : ByteArray) (A : Option Addr) (m c : Nat), v = ndv k n s (.slice A m c) := by
  have := h.here
  obtain ⟨k, n, s, l⟩ := t
  obtain ⟨A, c, _, e, _⟩ := this.open_
  exact ⟨k, n, s, A, _, c, e⟩
theorem Nw.keep {B : Nat} {w w' : World} {t : TY.Nd} {v : Value} (h : Nw B w t v) (hk : ∀ c, B ≤ c → c < w.heap.size → w'.heap[c]? = w.heap[c]?) (hs : w.heap.size ≤ w'.heap.size) : Nw B w' t v := fun V hV hi hh => h V (fun c h1 h2 => (hV c h1 (by omega)).trans (hk c h1 h2)) hi (by omega)
theorem Nw.lower {B B' : Nat} {w : World} {t : TY.Nd} {v : Value} (h : Nw B w t v) (hB : B' ≤ B) : Nw B' w t v := fun V hV hi hh => h V (fun c h1 h2 => hV c (by omega) h2) hi hh
theorem Nw.leaf (B : Nat) (w : World) (k n : Int) (s : ByteArray) (hs : s.size ≤ 1000) : Nw B w (.mk k n s []) (ndv k n s (.slice none 0 0)) := fun V _ hi _ => NdV.leaf V hi k n s hs
theorem Nw.one {B : Nat} {w : World} {k n : Int} {s : ByteArray} {t0 : TY.Nd} {k0 n0 : Int} {s0 : ByteArray} {K0 : Value} (hB : B ≤ w.heap.size) (hs : s.size ≤ 1000) (h : Nw B w t0 (ndv k0 n0 s0 K0)) : Nw B (w.alloc (.cells #[.int .i64 k0, .int .i64 n0, .string s0, K0] 25)) (.mk k n s [t0]) (ndv k n s (.slice (some ⟨w.heap.size, 0, none⟩) 1 1)) := fun V hV hi hh => by
  rw [World.size_alloc] at hV hh
  refine NdV.one ((hV _ hB (by omega)).trans (World.alloc_heap_new w _)) (by omega) hs (h V (fun c h1 h2 => (hV c h1 (by omega)).trans (Below.heap_alloc w _ c h2)) hi (by omega))
theorem Nw.two {B B1 : Nat} {w1 w : World} {k n : Int} {s : ByteArray} {t0 t1 : TY.Nd} {k0 n0 k1 n1 : Int} {s0 s1 : ByteArray} {K0 K1 : Value} (hB : B ≤ w1.heap.size) (hB1 : w1.heap.size ≤ B1) (hw : B1 ≤ w.heap.size) (hs : s.size ≤ 1000) (h : Nw B w1 t0 (ndv k0 n0 s0 K0)) (hk : ∀ c, B ≤ c → c < w1.heap.size → w.heap[c]? = w1.heap[c]?) (h' : Nw B1 w t1 (ndv k1 n1 s1 K1)) : Nw B (w.alloc (.cells #[.int .i64 k0, .int .i64 n0, .string s0, K0, .int .i64 k1, .int .i64 n1, .string s1, K1] 25)) (.mk k n s [t0, t1]) (ndv k n s (.slice (some ⟨w.heap.size, 0, none⟩) 2 2)) := fun V hV hi hh => by
  rw [World.size_alloc] at hV hh
  refine NdV.two ((hV _ (by omega) (by omega)).trans (World.alloc_heap_new w _)) (by omega) hs (h V (fun c h1 h2 => (hV c h1 (by omega)).trans ((Below.heap_alloc w _ c (by omega)).trans (hk c h1 h2))) hi (by omega)) (h' V (fun c h1 h2 => (hV c (by omega) (by omega)).trans (Below.heap_alloc w _ c h2)) hi (by omega))

/-- Between two draws of a call that began at W and has its result's cells in the first new block. -/
structure Ex (W V : World) (lo b : Nat) (L : List Int) (i : Nat) : Prop where
  src : SrcV V lo b L i
  box : V.heap[W.heap.size]? = some (.cells #[.int .i64 0, .int .i64 0, .string ⟨#[]⟩, .slice none 0 0] 25 (0, 0))
  chg : Chg (· = b) W V
  lt : b < W.heap.size
section
variable {W V V' : World} {lo b i i' : Nat} {L : List Int}
theorem Ex.big (h : Ex W V lo b L i) : W.heap.size + 1 ≤ V.heap.size := heap_lt h.box
theorem Ex.step (h : Ex W V lo b L i) (hs : SrcV V' lo b L i') (hc : Chg (· = b) V V') : Ex W V' lo b L i' := ⟨hs, (hc.block _ (heap_lt h.box) (by have := h.lt; omega)).trans h.box, h.chg.trans hc (fun _ _ e => e), h.lt⟩
theorem Ex.alloc (h : Ex W V lo b L i) (o : Obj) : Ex W (V.alloc o) lo b L i := by
  have hc : Chg (fun _ => False) V (V.alloc o) := (Chg.refl _ _).alloc o
  exact ⟨h.src.chg hc (fun e => e) (fun _ e => e.elim), (Below.heap_alloc V o _ (heap_lt h.box)).trans h.box, h.chg.trans hc (fun _ _ e => e.elim), h.lt⟩
theorem Ex.begin (h : SrcV W lo b L i) : Ex W (W.alloc (.cells #[.int .i64 0, .int .i64 0, .string ⟨#[]⟩, .slice none 0 0] 25)) lo b L i := by
  have hc : Chg (fun _ => False) W (W.alloc (.cells #[.int .i64 0, .int .i64 0, .string ⟨#[]⟩, .slice none 0 0] 25)) := (Chg.refl _ _).alloc _
  obtain ⟨h0, A, c, h1, _⟩ := id h
  exact ⟨h.chg hc (fun e => e) (fun _ e => e.elim), World.alloc_heap_new W _, hc.mono (fun _ _ e => e.elim), heap_lt h1⟩
theorem Ex.cells (h : Ex W V lo b L i) : V.cell? ⟨W.heap.size, 0, none⟩ = some (.int .i64 0) ∧ V.cell? ⟨W.heap.size, 1, none⟩ = some (.int .i64 0) ∧ V.cell? ⟨W.heap.size, 2, none⟩ = some (.string ⟨#[]⟩) ∧ V.cell? ⟨W.heap.size, 3, none⟩ = some (.slice none 0 0) ∧ V.frozen? ⟨W.heap.size, 0, none⟩ = false ∧ V.frozen? ⟨W.heap.size, 1, none⟩ = false ∧ V.frozen? ⟨W.heap.size, 2, none⟩ = false ∧ V.frozen? ⟨W.heap.size, 3, none⟩ = false :=
  ⟨cell_of_row V _ 0 _ _ (0, 0) h.box, cell_of_row V _ 1 _ _ (0, 0) h.box, cell_of_row V _ 2 _ _ (0, 0) h.box, cell_of_row V _ 3 _ _ (0, 0) h.box, by simp [World.frozen?, h.box], by simp [World.frozen?, h.box], by simp [World.frozen?, h.box], by simp [World.frozen?, h.box]⟩
/-- Behind the store of the result. -/
theorem Ex.fin (h : Ex W V lo b L i) {t : TY.Nd} (k n : Int) (s : ByteArray) (K : Value) (ht : Nw (W.heap.size + 1) V t (ndv k n s K)) {U : World} (hU : (((V.setCell ⟨W.heap.size, 0, none⟩ (.int .i64 k)).setCell ⟨W.heap.size, 1, none⟩ (.int .i64 n)).setCell ⟨W.heap.size, 2, none⟩ (.string s)).setCell ⟨W.heap.size, 3, none⟩ K = U) :
    U.heap[W.heap.size]? = some (.cells #[.int .i64 k, .int .i64 n, .string s, K] 25 (0, 0)) ∧ Nw W.heap.size U t (ndv k n s K) ∧ SrcV U lo b L i ∧ Chg (· = b) W U := by
  subst hU
  have hlt := h.lt
  have hb := h.box
  have keep : ∀ g, g ≠ W.heap.size → ((((V.setCell ⟨W.heap.size, 0, none⟩ (.int .i64 k)).setCell ⟨W.heap.size, 1, none⟩ (.int .i64 n)).setCell ⟨W.heap.size, 2, none⟩ (.string s)).setCell ⟨W.heap.size, 3, none⟩ K).heap[g]? = V.heap[g]? := fun g hg => (Below.heap_setCell _ _ _ _ hg).trans ((Below.heap_setCell _ _ _ _ hg).trans ((Below.heap_setCell _ _ _ _ hg).trans (Below.heap_setCell _ _ _ _ hg)))
  have hc : Chg (· = W.heap.size) V ((((V.setCell ⟨W.heap.size, 0, none⟩ (.int .i64 k)).setCell ⟨W.heap.size, 1, none⟩ (.int .i64 n)).setCell ⟨W.heap.size, 2, none⟩ (.string s)).setCell ⟨W.heap.size, 3, none⟩ K) :=
    ((((Chg.refl (· = W.heap.size) V).setCell (p := ⟨W.heap.size, 0, none⟩) (fun _ => rfl) _).setCell (p := ⟨W.heap.size, 1, none⟩) (fun _ => rfl) _).setCell (p := ⟨W.heap.size, 2, none⟩) (fun _ => rfl) _).setCell (p := ⟨W.heap.size, 3, none⟩) (fun _ => rfl) _
  have hlo : lo ≤ b := h.src.1
  refine ⟨?_, (ht.keep (fun c h1 _ => keep c (by omega)) hc.size).lower (by omega), h.src.chg hc (by omega) (fun g e => by omega), h.chg.trans hc (fun x hx e => by omega)⟩
  simp only [World.setCell, Array.getElem?_modify]
  simp [hb]
end
theorem ret_N {fn : Func} {p : Tmp} (hf : fn.results = #[.cell p 25]) {V : World} {b : Nat} {x0 x1 x2 x3 : Value} (tmps : Array Value) (hp : tmps.getD p undef = .pointer (some ⟨b, 0, none⟩)) (h : V.heap[b]? = some (.cells #[x0, x1, x2, x3] 25 (0, 0))) : (results fn tmps).run Try.prog V = .ok (.agg #[x0, x1, x2, x3]) V := by
  have c0 : V.cell? ⟨b, 0, none⟩ = some x0 := cell_of_row V b 0 _ _ (0, 0) h
  have c1 : V.cell? ⟨b, 1, none⟩ = some x1 := cell_of_row V b 1 _ _ (0, 0) h
  have c2 : V.cell? ⟨b, 2, none⟩ = some x2 := cell_of_row V b 2 _ _ (0, 0) h
  have c3 : V.cell? ⟨b, 3, none⟩ = some x3 := cell_of_row V b 3 _ _ (0, 0) h
  have ia := Try.isAgg25
  have so := Try.sizeOf25
  simp only [results, hf]
  have hp' : tmps[p]?.getD undef = .pointer (some ⟨b, 0, none⟩) := by simpa using hp
  simp [go_sem, hp', c0, c1, c2, c3, ia, so]
end Go.Proofs.Ytligbandpmgmaaa
