/-
  Rows that a call builds, whose elements end in a tree: nodes, handlers. No function of the program.
-/
import Derived.Test.YtofeidacffabdaaTyEx
import Derived.Test.YtofeidacffabdaaTyCk
namespace Go.Proofs.Ytofeidacffabdaa
open Go Go.RowKit Go.Proofs Go.Shelf
attribute [local go_sem] Oper.semAt_some

/-- The tree lies in the blocks from B on, but not in the block o. -/
def Nx (B : Nat) (o : Option Nat) (w : World) (t : TY.Nd) (v : Value) : Prop := ∀ V : World, (∀ c, B ≤ c → c < w.heap.size → some c ≠ o → V.heap[c]? = w.heap[c]?) → ∀ hi, w.heap.size ≤ hi → NdV V hi t v
theorem Nx.nw {B : Nat} {o : Option Nat} {w : World} {t : TY.Nd} {v : Value} (h : Nx B o w t v) : Nw B w t v := fun V hV => h V (fun c h1 h2 _ => hV c h1 h2)
theorem Nx.here {B : Nat} {o : Option Nat} {w : World} {t : TY.Nd} {v : Value} (h : Nx B o w t v) : NdV w w.heap.size t v := h w (fun _ _ _ _ => rfl) _ (Nat.le_refl _)
/-- Rows of p values and a tree. -/
def TRow (p : Nat) (B : Nat) (o : Option Nat) (w : World) (xs : List (List Value × TY.Nd)) (cs : List Value) : Prop :=
  cs.length = xs.length * (p + 4) ∧ ∀ (i : Nat) (x : List Value × TY.Nd), xs[i]? = some x → x.1.length = p ∧ ∃ (k n : Int) (s : ByteArray) (A' : Option Addr) (m c : Nat), Nx B o w x.2 (ndv k n s (.slice A' m c)) ∧ (∀ q, q < p → cs[i * (p + 4) + q]? = x.1[q]?) ∧ cs[i * (p + 4) + p]? = some (.int .i64 k) ∧ cs[i * (p + 4) + p + 1]? = some (.int .i64 n) ∧ cs[i * (p + 4) + p + 2]? = some (.string s) ∧ cs[i * (p + 4) + p + 3]? = some (.slice A' m c)
theorem TRow.nil (p B : Nat) (o : Option Nat) (w : World) : TRow p B o w [] [] := ⟨by simp, fun i x h => by simp at h⟩
theorem TRow.imp {p B B' : Nat} {o o' : Option Nat} {w w' : World} {xs : List (List Value × TY.Nd)} {cs : List Value} (h : TRow p B o w xs cs) (hk : ∀ t v, Nx B o w t v → Nx B' o' w' t v) : TRow p B' o' w' xs cs :=
  ⟨h.1, fun i x hx => by
    obtain ⟨h0, k, n, s, A', m, c, h1, h2⟩ := h.2 i x hx
    exact ⟨h0, k, n, s, A', m, c, hk _ _ h1, h2⟩⟩
theorem TRow.snoc {p B : Nat} {o : Option Nat} {w : World} {xs : List (List Value × TY.Nd)} {cs : List Value} (h : TRow p B o w xs cs) {pre : List Value} {t : TY.Nd} (hp : pre.length = p) {k n : Int} {s : ByteArray} {A' : Option Addr} {m c : Nat} (ht : Nx B o w t (ndv k n s (.slice A' m c))) : TRow p B o w (xs ++ [(pre, t)]) (cs ++ (pre ++ [.int .i64 k, .int .i64 n, .string s, .slice A' m c])) := by
  obtain ⟨h1, h2⟩ := h
  have h1' : cs.length = xs.length * (p + 4) := h1
  refine ⟨by rw [List.length_append, List.length_append, List.length_append, h1', hp, List.length_singleton, Nat.add_mul, Nat.one_mul]; rfl, fun i y hy => ?_⟩
  by_cases hi : i < xs.length
  · rw [List.getElem?_append_left hi] at hy
    have hm : i * (p + 4) + (p + 4) ≤ xs.length * (p + 4) := by
      have := Nat.mul_le_mul_right (p + 4) (show i + 1 ≤ xs.length from hi)
      rwa [Nat.add_mul, Nat.one_mul] at this
    obtain ⟨h0, k', n', s', A1, m1, c1, q, e, e0, e1, e2, e3⟩ := h2 i y hy
    refine ⟨h0, k', n', s', A1, m1, c1, q, fun r hr => ?_, ?_, ?_, ?_, ?_⟩
    · rw [List.getElem?_append_left (by omega)]; exact e r hr
    all_goals rw [List.getElem?_append_left (by omega)]; assumption
  · have hi2 : i = xs.length := by
      have := (List.getElem?_eq_some_iff.1 hy).1
      rw [List.length_append, List.length_singleton] at this
      omega
    subst hi2
    have e : (pre, t) = y := by simpa using hy
    subst e
    refine ⟨hp, k, n, s, A', m, c, ht, fun r hr => ?_, ?_, ?_, ?_, ?_⟩
    · rw [List.getElem?_append_right (by omega), show xs.length * (p + 4) + r - cs.length = r by omega, List.getElem?_append_left (by omega)]
    · rw [List.getElem?_append_right (by omega), show xs.length * (p + 4) + p - cs.length = p by omega, List.getElem?_append_right (by omega), show p - pre.length = 0 by omega]; rfl
    · rw [List.getElem?_append_right (by omega), show xs.length * (p + 4) + p + 1 - cs.length = p + 1 by omega, List.getElem?_append_right (by omega), show p + 1 - pre.length = 1 by omega]; rfl
    · rw [List.getElem?_append_right (by omega), show xs.length * (p + 4) + p + 2 - cs.length = p + 2 by omega, List.getElem?_append_right (by omega), show p + 2 - pre.length = 2 by omega]; rfl
    · rw [List.getElem?_append_right (by omega), show xs.length * (p + 4) + p + 3 - cs.length = p + 3 by omega, List.getElem?_append_right (by omega), show p + 3 - pre.length = 3 by omega]; rfl
/-- A row of the call's own, at block B or later. -/
def TR (e : TypeId) (p : Nat) (B : Nat) (V : World) (A : Option Addr) (j c : Nat) (xs : List (List Value × TY.Nd)) (cs : List Value) : Prop :=
  xs.length = j ∧ V.ownsRow B e (p + 4) (.slice A j c) j cs ∧ TRow p B (Value.slice A j c).ownBlock V xs cs
theorem TR.nil (e : TypeId) (p B : Nat) (V : World) : TR e p B V none 0 0 [] [] := ⟨rfl, ⟨by simp, .inl ⟨rfl, rfl⟩⟩, TRow.nil _ _ _ _⟩
/-- The element's cells in a new block are news for the append. -/
theorem news_alloc (w : World) (xs : List Value) (t : TypeId) (g : Nat) (hg : w.heap.size = g) : ∀ j u, xs[j]? = some u → (w.alloc (.cells xs.toArray t)).cell? ((⟨g, 0, none⟩ : Addr).add j) = some u := by
  intro j u hu
  subst hg
  rw [Addr.add_lit, Nat.zero_add, cell_of_row _ _ j _ _ _ (World.alloc_heap_new w _)]
  simpa using hu
/-- What stands when a call has made the next tree and an append has taken it: w5 behind the call, w6 behind the append, u the world behind what the append's result is stored into. -/
theorem TR.step {e : TypeId} {p B g j c cap : Nat} {wr w5 w6 U : World} {A : Option Addr} {xs : List (List Value × TY.Nd)} {cs : List Value} {S : Nat → Prop} {pre : List Value} {t : TY.Nd} {k n : Int} {s : ByteArray} {A' : Option Addr} {m c' : Nat} {C : Array Value}
    (h : TR e p B wr A j c xs cs) (hS : Chg S wr w5) (hSB : ∀ x, S x → x < B) (hB : B ≤ wr.heap.size) (hp : pre.length = p) (ht : Nw wr.heap.size w5 t (ndv k n s (.slice A' m c')))
    (hg : (w5.alloc (.cells C e)).grownBy w6 (Value.slice A j c).ownBlock) (hat : (Value.slice A j c).ownBlock = some g ∨ w5.heap.size ≤ g)
    (hown : w6.ownsRow B e (p + 4) (.slice (some ⟨g, 0, none⟩) (j + 1) cap) (j + 1) (cs ++ (pre ++ [.int .i64 k, .int .i64 n, .string s, .slice A' m c'])))
    (hU : ∀ x, B ≤ x → U.heap[x]? = w6.heap[x]?) (hUs : U.heap.size = w6.heap.size) : TR e p B U (some ⟨g, 0, none⟩) (j + 1) cap (xs ++ [(pre, t)]) (cs ++ (pre ++ [.int .i64 k, .int .i64 n, .string s, .slice A' m c'])) := by
  obtain ⟨h1, h2, h3⟩ := h
  have hlt := World.ownsRow.lt h2
  have hsz := hS.size
  have hgs := hg.size
  rw [World.size_alloc] at hgs
  have hob : (Value.slice (some ⟨g, 0, none⟩) (j + 1) cap).ownBlock = some g := rfl
  have far : ∀ x, B ≤ x → x < wr.heap.size → some x ≠ (Value.slice A j c).ownBlock → U.heap[x]? = wr.heap[x]? := fun x hx1 hx2 hx3 =>
    (hU x hx1).trans ((hg.block x (by rw [World.size_alloc]; omega) hx3).trans ((Below.heap_alloc w5 _ x (by omega)).trans (hS.block x hx2 (fun k => by have := hSB x k; omega))))
  refine ⟨by rw [List.length_append, h1]; rfl, row_far hown hU, ?_⟩
  rw [hob]
  refine TRow.snoc (h3.imp fun t v hv V hV hi hhi => hv V (fun x hx1 hx2 hx3 => (hV x hx1 (by omega) (fun ee => ?_)).trans (far x hx1 hx2 hx3)) hi (by omega)) hp fun V hV hi hhi => ht V (fun x hx1 hx2 => (hV x (by omega) (by omega) (fun ee => ?_)).trans ?_) hi (by omega)
  · injection ee with ee
    subst ee
    rcases hat with hat | hat
    · exact hx3 hat.symm
    · omega
  · injection ee with ee
    subst ee
    rcases hat with hat | hat
    · have := (hlt x hat).2; omega
    · omega
  · exact (hU x (by omega)).trans ((hg.block x (by rw [World.size_alloc]; omega) (fun ee => by have := (hlt x ee.symm).2; omega)).trans (Below.heap_alloc w5 _ x hx2))
where
  row_far {w w' : World} {base size n : Nat} {t : TypeId} {v : Value} {xs : List Value} (h : w.ownsRow base t size v n xs) (hb : ∀ k, base ≤ k → w'.heap[k]? = w.heap[k]?) : w'.ownsRow base t size v n xs := by
    obtain ⟨h1, h2⟩ := h
    refine ⟨h1, ?_⟩
    rcases h2 with h2 | ⟨k, cap, cur, hv, hk, hh, r⟩
    · exact .inl h2
    · exact .inr ⟨k, cap, cur, hv, hk, (hb k hk).trans hh, r⟩
/-- The append's row in the world in which it is made. -/
theorem TR.own {e : TypeId} {p B j c : Nat} {wr w5 : World} {A : Option Addr} {xs : List (List Value × TY.Nd)} {cs : List Value} {S : Nat → Prop} (h : TR e p B wr A j c xs cs) (hS : Chg S wr w5) (hSB : ∀ x, S x → x < B) (o : Obj) : (w5.alloc o).ownsRow B e (p + 4) (.slice A j c) j cs := by
  obtain ⟨h1, h2⟩ := h.2.1
  refine ⟨h1, ?_⟩
  rcases h2 with h2 | ⟨g, cap, cur, hv, hg, hh, r⟩
  · exact .inl h2
  · have hlt := heap_lt hh
    have hsz := hS.size
    exact .inr ⟨g, cap, cur, hv, hg, (Below.heap_alloc w5 o g (by omega)).trans ((hS.block g hlt (fun k => by have := hSB g k; omega)).trans hh), r⟩
/-- The cells of a row of the call's own. -/
theorem own_at {e : TypeId} {B size j c : Nat} {V : World} {A : Option Addr} {cs : List Value} (h : V.ownsRow B e size (.slice A j c) j cs) (hj : 0 < j) : ∃ (b : Nat) (C : Array Value), A = some ⟨b, 0, none⟩ ∧ B ≤ b ∧ b < V.heap.size ∧ V.heap[b]? = some (.cells C e (0, 0)) ∧ ∀ (i : Nat) (u : Value), cs[i]? = some u → C[i]? = some u := by
  obtain ⟨h1, h2⟩ := h
  rcases h2 with ⟨e1, h0⟩ | ⟨g, cap, cur, e1, hg, hh, hn, hm, hs, ht⟩
  · injection e1 with _ e2 _
    omega
  · injection e1 with e1 _ _
    refine ⟨g, cur, e1, hg, heap_lt hh, hh, fun i u hu => ?_⟩
    have hi := (List.getElem?_eq_some_iff.1 hu).1
    rw [← Array.getElem?_toList, ← hu, ← ht, List.getElem?_take_of_lt (by omega)]
/-- A block, or any node whose children are such a row: it lies in the blocks from B on. -/
theorem TR.node {B j c : Nat} {V : World} {A : Option Addr} {xs : List (List Value × TY.Nd)} {cs : List Value} (h : TR 25 0 B V A j c xs cs) (hj : j ≤ 1000000) (k n : Int) (s : ByteArray) (hs : s.size ≤ 1000) : Nw B V (.mk k n s (xs.map Prod.snd)) (ndv k n s (.slice A j c)) := by
  obtain ⟨h1, h2, h3⟩ := h
  intro U hU hi hhi
  obtain ⟨A1, c1, ea, hc1, hc2⟩ : ∃ A' c', Value.slice A j c = .slice A' j c' ∧ j ≤ c' ∧ c' ≤ maxLen := by
    rcases h2.2 with ⟨e1, h0⟩ | ⟨g, cap, cur, e1, _, _, hn, hm, _⟩
    · injection e1 with e1 e2 e3
      exact ⟨A, c, rfl, by omega, by rw [e3]; simp [maxLen]⟩
    · injection e1 with e1 e2 e3
      exact ⟨A, c, rfl, by omega, by omega⟩
  injection ea with ea1 ea2 ea3
  subst ea1 ea3
  have hval : ∀ i x, xs[i]? = some x → ∃ (k n : Int) (s : ByteArray) (A' : Option Addr) (m d : Nat), Nx B (Value.slice A j c).ownBlock V x.2 (ndv k n s (.slice A' m d)) ∧ cs[i * 4]? = some (.int .i64 k) ∧ cs[i * 4 + 1]? = some (.int .i64 n) ∧ cs[i * 4 + 2]? = some (.string s) ∧ cs[i * 4 + 3]? = some (.slice A' m d) := fun i x hx => by
    obtain ⟨_, k, n, s, A', m, c', q, _, e0, e1, e2, e3⟩ := h3.2 i x hx
    exact ⟨k, n, s, A', m, c', q, e0, e1, e2, e3⟩
  have key : ∃ vs : List Value, vs.length = xs.length ∧ ∀ (i : Nat) (x : List Value × TY.Nd) (v : Value), xs[i]? = some x → vs[i]? = some v → ∃ (k n : Int) (s : ByteArray) (A' : Option Addr) (m d : Nat), v = ndv k n s (.slice A' m d) ∧ Nx B (Value.slice A j c).ownBlock V x.2 v ∧ cs[i * 4]? = some (.int .i64 k) ∧ cs[i * 4 + 1]? = some (.int .i64 n) ∧ cs[i * 4 + 2]? = some (.string s) ∧ cs[i * 4 + 3]? = some (.slice A' m d) := by
    refine ⟨(List.range xs.length).map fun i => .agg #[(cs[i * 4]?).getD undef, (cs[i * 4 + 1]?).getD undef, (cs[i * 4 + 2]?).getD undef, (cs[i * 4 + 3]?).getD undef], by simp, fun i x v hx hv => ?_⟩
    have hi := (List.getElem?_eq_some_iff.1 hx).1
    rw [List.getElem?_map, List.getElem?_range hi] at hv
    injection hv with hv
    obtain ⟨k, n, s, A', m, c', q, e0, e1, e2, e3⟩ := hval i x hx
    simp only [e0, e1, e2, e3, Option.getD_some] at hv
    subst hv
    exact ⟨k, n, s, A', m, c', rfl, q, e0, e1, e2, e3⟩
  obtain ⟨vs, hvl, hvs⟩ := key
  have hlm : (xs.map Prod.snd).length = j := by rw [List.length_map, h1]
  have hUs : ∀ x, B ≤ x → x < V.heap.size → U.heap[x]? = V.heap[x]? := hU
  rw [← hlm]
  refine .mk k n s (xs.map Prod.snd) A c vs (by rw [hvl, List.length_map]) (by omega) hc2 (by omega) hs ?_ fun i t v ht hv => ?_
  · rcases Nat.eq_zero_or_pos j with h0 | h0
    · exact .inl (List.eq_nil_of_length_eq_zero (by omega))
    · obtain ⟨b, C, rfl, hb1, hb2, hC, hcs⟩ := own_at h2 h0
      refine .inr ⟨b, 0, C, rfl, by omega, (hUs b hb1 hb2).trans hC, fun i v hv => ?_⟩
      obtain ⟨x, hx⟩ : ∃ x, xs[i]? = some x := ⟨xs[i]'(by have := (List.getElem?_eq_some_iff.1 hv).1; omega), List.getElem?_eq_getElem (by have := (List.getElem?_eq_some_iff.1 hv).1; omega)⟩
      obtain ⟨k, n, s, A', m, c', e, _, e0, e1, e2, e3⟩ := hvs i x v hx hv
      refine ⟨k, n, s, _, e, ?_, ?_, ?_, ?_⟩ <;> rw [Nat.zero_add] <;> apply hcs <;> assumption
  · obtain ⟨x, hx, rfl⟩ : ∃ x, xs[i]? = some x ∧ x.2 = t := by
      rw [List.getElem?_map] at ht
      exact Option.map_eq_some_iff.1 ht
    obtain ⟨_, _, _, _, _, _, _, q, _⟩ := hvs i x v hx hv
    exact q U (fun y h1 h2 _ => hUs y h1 h2) hi hhi
/-- Handlers. -/
theorem TR.hs {B j c : Nat} {V : World} {A : Option Addr} {on : List (Int × TY.Nd)} {cs : List Value} (h : TR 46 1 B V A j c (on.map fun x => ([.int .i64 x.1], x.2)) cs) : Hs V V.heap.size A on := by
  obtain ⟨h1, h2, h3⟩ := h
  rw [List.length_map] at h1
  intro i x hx
  have hi := (List.getElem?_eq_some_iff.1 hx).1
  obtain ⟨b, C, rfl, hb1, hb2, hC, hcs⟩ := own_at h2 (by omega)
  obtain ⟨_, k, n, s, A', m, c, q, e, e0, e1, e2, e3⟩ := h3.2 i ([.int .i64 x.1], x.2) (by rw [List.getElem?_map, hx]; rfl)
  have ez := e 0 (by decide)
  refine ⟨b, 0, k, n, s, A', m, c, rfl, hb2, ?_, ?_, ?_, ?_, ?_, q.here⟩
  all_goals rw [cell_of_row V b _ C _ (0, 0) hC, Nat.zero_add]; apply hcs
  · exact ez
  · exact e0
  · exact e1
  · exact e2
  · exact e3
end Go.Proofs.Ytofeidacffabdaa
