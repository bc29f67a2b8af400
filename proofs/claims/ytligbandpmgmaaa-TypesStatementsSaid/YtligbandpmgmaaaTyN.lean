/-
  Syntax trees in memory. No function of the program.
-/
import Derived.Test.YtligbandpmgmaaaTyM
import Derived.Test.YtligbandpmgmaaaGMem
namespace Go.Proofs.Ytligbandpmgmaaa
open Go Go.RowKit Go.Proofs

/-- A node as a value. -/
abbrev ndv (k n : Int) (s : ByteArray) (K : Value) : Value := .agg #[.int .i64 k, .int .i64 n, .string s, K]
/-- The nodes vs lie one after another at A, in a block below hi. -/
def Kd (W : World) (hi : Nat) (A : Option Addr) (vs : List Value) : Prop :=
  vs = [] ∨ ∃ (b off : Nat) (C : Array Value), A = some ⟨b, off, none⟩ ∧ b < hi ∧ W.heap[b]? = some (.cells C 25 (0, 0)) ∧
    ∀ (i : Nat) (v : Value), vs[i]? = some v → ∃ (k n : Int) (s : ByteArray) (K : Value), v = ndv k n s K ∧ C[off + i * 4]? = some (.int .i64 k) ∧ C[off + i * 4 + 1]? = some (.int .i64 n) ∧ C[off + i * 4 + 2]? = some (.string s) ∧ C[off + i * 4 + 3]? = some K
/-- The value v is the tree t. -/
inductive NdV (W : World) (hi : Nat) : TY.Nd → Value → Prop
  | mk (k n : Int) (s : ByteArray) (l : List TY.Nd) (A : Option Addr) (c : Nat) (vs : List Value) : vs.length = l.length → l.length ≤ c → c ≤ maxLen → l.length ≤ 1000000 → s.size ≤ 1000 → Kd W hi A vs →
      (∀ (i : Nat) (t : TY.Nd) (v : Value), l[i]? = some t → vs[i]? = some v → NdV W hi t v) → NdV W hi (.mk k n s l) (ndv k n s (.slice A l.length c))
section
variable {W W' : World} {hi hi' : Nat} {t : TY.Nd} {v : Value}
theorem Kd.keep {A : Option Addr} {vs : List Value} (h : Kd W hi A vs) (hk : ∀ (b : Nat) (C : Array Value), b < hi → W.heap[b]? = some (.cells C 25 (0, 0)) → W'.heap[b]? = W.heap[b]?) (hh : hi ≤ hi') : Kd W' hi' A vs := by
  rcases h with h | ⟨b, off, C, e, hb, hc, hx⟩
  · exact .inl h
  · exact .inr ⟨b, off, C, e, by omega, (hk b C hb hc).trans hc, hx⟩
/-- A tree stands as long as the blocks of nodes below hi do. -/
theorem NdV.keep (h : NdV W hi t v) (hk : ∀ (b : Nat) (C : Array Value), b < hi → W.heap[b]? = some (.cells C 25 (0, 0)) → W'.heap[b]? = W.heap[b]?) (hh : hi ≤ hi') : NdV W' hi' t v := by
  induction h with
  | mk k n s l A c vs h1 h2 h3 h4 hs h5 _ ih => exact .mk k n s l A c vs h1 h2 h3 h4 hs (h5.keep hk hh) ih
theorem NdV.under (h : NdV W hi t v) (hb : Below hi W W') (hh : hi ≤ hi') : NdV W' hi' t v := h.keep (fun b _ hlt _ => hb.block b hlt) hh
/-- Only blocks of other types have turned, besides what is new. -/
theorem NdV.chg {S : Nat → Prop} (h : NdV W hi t v) (hc : Chg S W W') (hhi : hi ≤ W.heap.size) (hS : ∀ (b : Nat) (C : Array Value), S b → W.heap[b]? ≠ some (.cells C 25 (0, 0))) (hh : hi ≤ hi') : NdV W' hi' t v :=
  h.keep (fun b C hlt hC => hc.block b (by omega) fun hs => hS b C hs hC) hh
/-- What a tree shows. -/
theorem NdV.open_ {k n : Int} {s : ByteArray} {l : List TY.Nd} (h : NdV W hi (.mk k n s l) v) : ∃ (A : Option Addr) (c : Nat) (vs : List Value), v = ndv k n s (.slice A l.length c) ∧ vs.length = l.length ∧ l.length ≤ c ∧ c ≤ maxLen ∧ l.length ≤ 1000000 ∧ s.size ≤ 1000 ∧ Kd W hi A vs ∧
    ∀ (i : Nat) (t : TY.Nd) (v : Value), l[i]? = some t → vs[i]? = some v → NdV W hi t v := by
  cases h with
  | mk _ _ _ _ A c vs h1 h2 h3 h4 hs h5 h6 => exact ⟨A, c, vs, rfl, h1, h2, h3, h4, hs, h5, h6⟩
/-- Child i in memory. -/
theorem Kd.at_ {A : Option Addr} {vs : List Value} (h : Kd W hi A vs) {i : Nat} {v : Value} (hv : vs[i]? = some v) : ∃ (b off : Nat) (k n : Int) (s : ByteArray) (K : Value), A = some ⟨b, off, none⟩ ∧ b < hi ∧ v = ndv k n s K ∧
    W.cell? ⟨b, off + i * 4, none⟩ = some (.int .i64 k) ∧ W.cell? ⟨b, off + i * 4 + 1, none⟩ = some (.int .i64 n) ∧ W.cell? ⟨b, off + i * 4 + 2, none⟩ = some (.string s) ∧ W.cell? ⟨b, off + i * 4 + 3, none⟩ = some K := by
  rcases h with rfl | ⟨b, off, C, e, hb, hc, hx⟩
  · simp at hv
  · obtain ⟨k, n, s, K, e2, c0, c1, c2, c3⟩ := hx i v hv
    exact ⟨b, off, k, n, s, K, e, hb, e2, by rw [cell_of_row W b _ C _ (0, 0) hc]; exact c0, by rw [cell_of_row W b _ C _ (0, 0) hc]; exact c1, by rw [cell_of_row W b _ C _ (0, 0) hc]; exact c2, by rw [cell_of_row W b _ C _ (0, 0) hc]; exact c3⟩
theorem Kd.nil (W : World) (hi : Nat) (A : Option Addr) : Kd W hi A [] := .inl rfl
/-- A leaf. -/
theorem NdV.leaf (W : World) (hi : Nat) (k n : Int) (s : ByteArray) (hs : s.size ≤ 1000) : NdV W hi (.mk k n s []) (ndv k n s (.slice none 0 0)) := .mk k n s [] none 0 [] rfl (Nat.le_refl _) (by simp [maxLen]) (by simp) hs (.nil _ _ _) fun i t v h => by simp at h
/-- A node with one child, whose block is new. -/
theorem NdV.one {k n : Int} {s : ByteArray} {t0 : TY.Nd} {k0 n0 : Int} {s0 : ByteArray} {K0 : Value} {g : Nat} (hg : W.heap[g]? = some (.cells #[.int .i64 k0, .int .i64 n0, .string s0, K0] 25 (0, 0))) (hlt : g < hi) (hs : s.size ≤ 1000) (h : NdV W hi t0 (ndv k0 n0 s0 K0)) : NdV W hi (.mk k n s [t0]) (ndv k n s (.slice (some ⟨g, 0, none⟩) 1 1)) := by
  refine .mk k n s [t0] _ 1 [ndv k0 n0 s0 K0] rfl (Nat.le_refl _) (by simp [maxLen]) (by simp) hs (.inr ⟨g, 0, _, rfl, hlt, hg, fun i v hv => ?_⟩) fun i t v ht hv => ?_
  · cases i with
    | zero => injection hv with hv; subst hv; exact ⟨k0, n0, s0, K0, rfl, rfl, rfl, rfl, rfl⟩
    | succ i => simp at hv
  · cases i with
    | zero => injection hv with hv; injection ht with ht; subst hv ht; exact h
    | succ i => simp at hv
/-- A node with two children, whose block is new. -/
theorem NdV.two {k n : Int} {s : ByteArray} {t0 t1 : TY.Nd} {k0 n0 k1 n1 : Int} {s0 s1 : ByteArray} {K0 K1 : Value} {g : Nat} (hg : W.heap[g]? = some (.cells #[.int .i64 k0, .int .i64 n0, .string s0, K0, .int .i64 k1, .int .i64 n1, .string s1, K1] 25 (0, 0))) (hlt : g < hi) (hs : s.size ≤ 1000) (h : NdV W hi t0 (ndv k0 n0 s0 K0)) (h' : NdV W hi t1 (ndv k1 n1 s1 K1)) : NdV W hi (.mk k n s [t0, t1]) (ndv k n s (.slice (some ⟨g, 0, none⟩) 2 2)) := by
  refine .mk k n s [t0, t1] _ 2 [ndv k0 n0 s0 K0, ndv k1 n1 s1 K1] rfl (Nat.le_refl _) (by simp [maxLen]) (by simp) hs (.inr ⟨g, 0, _, rfl, hlt, hg, fun i v hv => ?_⟩) fun i t v ht hv => ?_
  · match i, hv with
    | 0, hv => injection hv with hv; subst hv; exact ⟨k0, n0, s0, K0, rfl, rfl, rfl, rfl, rfl⟩
    | 1, hv => injection hv with hv; subst hv; exact ⟨k1, n1, s1, K1, rfl, rfl, rfl, rfl, rfl⟩
    | i + 2, hv => simp at hv
  · match i, ht, hv with
    | 0, ht, hv => injection hv with hv; injection ht with ht; subst hv ht; exact h
    | 1, ht, hv => injection hv with hv; injection ht with ht; subst hv ht; exact h'
    | i + 2, _, hv => simp at hv
end
end Go.Proofs.Ytligbandpmgmaaa
