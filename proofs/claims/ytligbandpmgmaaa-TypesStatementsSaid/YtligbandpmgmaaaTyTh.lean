/-
  Trees with three children; what a builder of trees does. No function of the program.
-/
import Derived.Test.YtligbandpmgmaaaTyXr
namespace Go.Proofs.Ytligbandpmgmaaa
open Go Go.RowKit Go.Proofs Go.Shelf
attribute [local go_sem] Oper.semAt_some

/-- What a builder of trees does at the depth d. -/
def GAt (f : FuncId) (L : List Int) (d : Int) (g : TY.Gen) (e : Nat) : Prop := ∀ (W : World) (lo b i : Nat), SrcV W lo b L i → i + e ≤ 1000000000 →
  Calls Try.prog f #[.pointer (some ⟨b, 0, none⟩), .int .i64 d] W fun r w' => ∃ v, r = .returned v ∧ Nw W.heap.size w' (g i).1 v ∧ SrcV w' lo b L (g i).2 ∧ (g i).2 ≤ i + e ∧ Chg (· = b) W w'
theorem sg {f : FuncId} {W V : World} {lo b i e : Nat} {L : List Int} {d : Int} {sub : TY.Gen} (hE : GAt f L d sub e) (h : Ex W V lo b L i) (hi : i + e ≤ 1000000000) {t1 : TY.Nd} {j1 : Nat} (hs : sub i = (t1, j1)) :
    Calls Try.prog f #[.pointer (some ⟨b, 0, none⟩), .int .i64 d] V fun r w' => ∃ (k n : Int) (s : ByteArray) (A : Option Addr) (m c : Nat), r = .returned (ndv k n s (.slice A m c)) ∧ Nw V.heap.size w' t1 (ndv k n s (.slice A m c)) ∧ Ex W w' lo b L j1 ∧ j1 ≤ i + e ∧ Chg (· = b) V w' := by
  refine (hE V lo b i h.src hi).mono ?_
  rw [hs]
  rintro r w' ⟨v, h1, h2, h3, h4, h5⟩
  obtain ⟨k, n, s, A, m, c, rfl⟩ := h2.shape
  exact ⟨k, n, s, A, m, c, h1, h2, h.step h3 h5, h4, h5⟩
/-- A node with three children, whose block is new. -/
theorem NdV.three {W : World} {hi : Nat} {k n : Int} {s : ByteArray} {t0 t1 t2 : TY.Nd} {k0 n0 k1 n1 k2 n2 : Int} {s0 s1 s2 : ByteArray} {K0 K1 K2 : Value} {g : Nat} (hg : W.heap[g]? = some (.cells #[.int .i64 k0, .int .i64 n0, .string s0, K0, .int .i64 k1, .int .i64 n1, .string s1, K1, .int .i64 k2, .int .i64 n2, .string s2, K2] 25 (0, 0))) (hlt : g < hi) (hs : s.size ≤ 1000) (h : NdV W hi t0 (ndv k0 n0 s0 K0)) (h' : NdV W hi t1 (ndv k1 n1 s1 K1)) (h'' : NdV W hi t2 (ndv k2 n2 s2 K2)) : NdV W hi (.mk k n s [t0, t1, t2]) (ndv k n s (.slice (some ⟨g, 0, none⟩) 3 3)) := by
  refine .mk k n s [t0, t1, t2] _ 3 [ndv k0 n0 s0 K0, ndv k1 n1 s1 K1, ndv k2 n2 s2 K2] rfl (Nat.le_refl _) (by simp [maxLen]) (by simp) hs (.inr ⟨g, 0, _, rfl, hlt, hg, fun i v hv => ?_⟩) fun i t v ht hv => ?_
  · match i, hv with
    | 0, hv => injection hv with hv; subst hv; exact ⟨k0, n0, s0, K0, rfl, rfl, rfl, rfl, rfl⟩
    | 1, hv => injection hv with hv; subst hv; exact ⟨k1, n1, s1, K1, rfl, rfl, rfl, rfl, rfl⟩
    | 2, hv => injection hv with hv; subst hv; exact ⟨k2, n2, s2, K2, rfl, rfl, rfl, rfl, rfl⟩
    | i + 3, hv => simp at hv
  · match i, ht, hv with
    | 0, ht, hv => injection hv with hv; injection ht with ht; subst hv ht; exact h
    | 1, ht, hv => injection hv with hv; injection ht with ht; subst hv ht; exact h'
    | 2, ht, hv => injection hv with hv; injection ht with ht; subst hv ht; exact h''
    | i + 3, _, hv => simp at hv
theorem Nw.three {B B1 B2 : Nat} {w1 w2 w : World} {k n : Int} {s : ByteArray} {t0 t1 t2 : TY.Nd} {k0 n0 k1 n1 k2 n2 : Int} {s0 s1 s2 : ByteArray} {K0 K1 K2 : Value} (hB : B ≤ w1.heap.size) (hB1 : w1.heap.size ≤ B1) (hw : B1 ≤ w2.heap.size) (hB2 : w2.heap.size ≤ B2) (hw2 : B2 ≤ w.heap.size) (hs : s.size ≤ 1000) (h : Nw B w1 t0 (ndv k0 n0 s0 K0)) (hk : ∀ c, B ≤ c → c < w1.heap.size → w.heap[c]? = w1.heap[c]?) (h' : Nw B1 w2 t1 (ndv k1 n1 s1 K1)) (hk' : ∀ c, B1 ≤ c → c < w2.heap.size → w.heap[c]? = w2.heap[c]?) (h'' : Nw B2 w t2 (ndv k2 n2 s2 K2)) : Nw B (w.alloc (.cells #[.int .i64 k0, .int .i64 n0, .string s0, K0, .int .i64 k1, .int .i64 n1, .string s1, K1, .int .i64 k2, .int .i64 n2, .string s2, K2] 25)) (.mk k n s [t0, t1, t2]) (ndv k n s (.slice (some ⟨w.heap.size, 0, none⟩) 3 3)) := fun V hV hi hh => by
  rw [World.size_alloc] at hV hh
  refine NdV.three ((hV _ (by omega) (by omega)).trans (World.alloc_heap_new w _)) (by omega) hs (h V (fun c h1 h2 => (hV c h1 (by omega)).trans ((Below.heap_alloc w _ c (by omega)).trans (hk c h1 h2))) hi (by omega)) (h' V (fun c h1 h2 => (hV c (by omega) (by omega)).trans ((Below.heap_alloc w _ c (by omega)).trans (hk' c h1 h2))) hi (by omega)) (h'' V (fun c h1 h2 => (hV c (by omega) (by omega)).trans (Below.heap_alloc w _ c h2)) hi (by omega))
/-- How many numbers a statement of depth d takes at most, and a block. -/
def es : Nat → Nat
  | 0 => 100
  | d + 1 => 100 + 2 * (1 + 3 * es d)
end Go.Proofs.Ytligbandpmgmaaa
