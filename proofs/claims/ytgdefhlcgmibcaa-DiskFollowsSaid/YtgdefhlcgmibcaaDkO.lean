/-
  What stays where only boxes of disks turn. No function of the program.
-/
import Derived.Test.YtgdefhlcgmibcaaDkN
namespace Go.Proofs.Ytgdefhlcgmibcaa
open Go Go.RowKit Go.Proofs

/-- Blocks of every type but disks' stay. -/
def KeepD (w w' : World) : Prop := ∀ (b : Nat) (C : Array Value) (t : TypeId), w.heap[b]? = some (Obj.cells C t (0, 0)) → t ≠ 26 → w'.heap[b]? = w.heap[b]?
theorem KeepD.refl (w : World) : KeepD w w := fun _ _ _ _ _ => rfl
theorem KeepD.trans {a b c : World} (h : KeepD a b) (k : KeepD b c) : KeepD a c := fun g C t hg ht => (k g C t ((h g C t hg ht).trans hg) ht).trans (h g C t hg ht)
theorem KeepD.of_below {w w' : World} (h : Below w.heap.size w w') : KeepD w w' := fun g _ _ hg _ => h.block g (blk_lt hg)
theorem KeepD.of_store {w w' : World} {b : Nat} {Y : Array Value} (hb : w.heap[b]? = some (.cells Y 26 (0, 0))) (ho : ∀ k, k ≠ b → w'.heap[k]? = w.heap[k]?) : KeepD w w' := fun g _ _ hg ht => ho g (dk_ne hg hb ht)
theorem Rw.keepD {t : TypeId} {sz lo n c : Nat} {w w' : World} {A : Option Addr} {vs : List Value} (h : Rw t sz lo w A n c vs) (hk : KeepD w w') (ht : t ≠ 26) : Rw t sz lo w' A n c vs := Rw.keepTo h (fun g C hc _ => hk g C t hc ht) (Nat.le_refl _)
theorem DkAt.keepD {lo : Nat} {w w' : World} {x : Value} {d : DK.Dk} (h : DkAt lo w x d) (hk : KeepD w w') : DkAt lo w' x d := by
  obtain ⟨A, n, c, P, m, q, e, h1, h2⟩ := h
  exact ⟨A, n, c, P, m, q, e, Rw.keepD h1 hk (by decide), Rw.keepD h2 hk (by decide)⟩
theorem OpsV.keepD {lo : Nat} {w w' : World} (hk : KeepD w w') : ∀ {os : List DK.Op} {vs : List Value}, OpsV lo w os vs → OpsV lo w' os vs
  | [], _, h => h
  | _ :: _, _, ⟨K, kc, vs', e, h1, h2⟩ => ⟨K, kc, vs', e, Rw.keepD h1 hk (by decide), h2.keepD hk⟩
theorem OpsAt.keepD {lo n c : Nat} {w w' : World} {A : Option Addr} {os : List DK.Op} (h : OpsAt lo w A n c os) (hk : KeepD w w') : OpsAt lo w' A n c os := by
  obtain ⟨hl, vs, h1, h2⟩ := h
  exact ⟨hl, vs, Rw.keepD h1 hk (by decide), h2.keepD hk⟩
theorem ops_le (zs : List Int) : (DK.ops zs).length ≤ 20 := by unfold DK.ops; rw [List.length_map, List.length_take]; omega
/-- What a law is told of a slice of truths that came in, put in words of its own. -/
theorem bls_src {w : World} {A : Option Addr} {n c k : Nat} {bs : List Bool} (h : Bls 0 w A n c bs) (hk : k ≤ n) : RgX.Src w A k c (DK.blsC (bs.take k)) ∧ (DK.blsC (bs.take k)).length = k * 1 ∧ ∀ u ∈ DK.blsC (bs.take k), u.oneCell' = true := by
  have hf := Rw.front h hk
  have e : (DK.blsC bs).take (k * 1) = DK.blsC (bs.take k) := by unfold DK.blsC; rw [Nat.mul_one, List.map_take]
  rw [e] at hf
  exact ⟨hf.src, hf.1, DK.blsC_one _⟩
end Go.Proofs.Ytgdefhlcgmibcaa
