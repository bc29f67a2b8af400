/-
  Rows of trees that a call builds, whose trees may share what stood below lo. No function of the program.
-/
import Derived.Test.YtofeidacffabdaaTyKr
namespace Go.Proofs.Ytofeidacffabdaa
open Go Go.RowKit Go.Proofs Go.Shelf
attribute [local go_sem] Oper.semAt_some

/-- The tree lies in the blocks below lo and from B on, but not in the block o. -/
def Ny (lo B : Nat) (o : Option Nat) (w : World) (t : TY.Nd) (v : Value) : Prop := ∀ V : World, (∀ c, (c < lo ∨ B ≤ c) → c < w.heap.size → some c ≠ o → V.heap[c]? = w.heap[c]?) → ∀ hi, w.heap.size ≤ hi → NdV V hi t v
theorem Ny.here {lo B : Nat} {o : Option Nat} {w : World} {t : TY.Nd} {v : Value} (h : Ny lo B o w t v) : NdV w w.heap.size t v := h w (fun _ _ _ _ => rfl) _ (Nat.le_refl _)
theorem Ny.shape {lo B : Nat} {o : Option Nat} {w : World} {t : TY.Nd} {v : Value} (h : Ny lo B o w t v) : ∃ (k n : Int) (s : ByteArray) (A : Option Addr) (m c : Nat), v = ndv k n s (.slice A m c) := by
  have := h.here
  obtain ⟨k, n, s, l⟩ := t
  obtain ⟨A, c, _, e, _⟩ := this.open_
  exact ⟨k, n, s, A, _, c, e⟩
theorem Ny.lower {lo B B' : Nat} {o : Option Nat} {w : World} {t : TY.Nd} {v : Value} (h : Ny lo B o w t v) (hB : B' ≤ B) : Ny lo B' o w t v := fun V hV => h V fun c h1 h2 h3 => hV c (h1.imp id fun h => Nat.le_trans hB h) h2 h3
/-- What stood below lo. -/
theorem Ny.old {lo B : Nat} {o : Option Nat} {w : World} {t : TY.Nd} {v : Value} (h : NdV w lo t v) (hlo : lo ≤ w.heap.size) (ho : ∀ c, o = some c → lo ≤ c) : Ny lo B o w t v := fun V hV hi hh => h.keep (fun b _ hb _ => hV b (.inl hb) (by omega) (fun e => by have := ho b e.symm; omega)) (by omega)
theorem Ny.keep {lo B B' : Nat} {o : Option Nat} {w w' : World} {t : TY.Nd} {v : Value} (h : Ny lo B o w t v) (hB : B' ≤ B) (hk : ∀ c, (c < lo ∨ B ≤ c) → c < w.heap.size → w'.heap[c]? = w.heap[c]?) (hs : w.heap.size ≤ w'.heap.size) : Ny lo B' o w' t v := fun V hV hi hh => h V (fun c h1 h2 h3 => (hV c (h1.imp id fun h => Nat.le_trans hB h) (by omega) h3).trans (hk c h1 h2)) hi (by omega)
/-- A row of nodes of the call's own. -/
def TS (lo B : Nat) (V : World) (A : Option Addr) (j c : Nat) (ts : List TY.Nd) (cs : List Value) : Prop :=
  ts.length = j ∧ V.ownsRow B 25 4 (.slice A j c) j cs ∧ cs.length = j * 4 ∧ ∀ (i : Nat) (t : TY.Nd), ts[i]? = some t → ∃ (k n : Int) (s : ByteArray) (A' : Option Addr) (m d : Nat), Ny lo B (Value.slice A j c).ownBlock V t (ndv k n s (.slice A' m d)) ∧ cs[i * 4]? = some (.int .i64 k) ∧ cs[i * 4 + 1]? = some (.int .i64 n) ∧ cs[i * 4 + 2]? = some (.string s) ∧ cs[i * 4 + 3]? = some (.slice A' m d)
theorem TS.nil (lo B : Nat) (V : World) : TS lo B V none 0 0 [] [] := ⟨rfl, ⟨by simp, .inl ⟨rfl, rfl⟩⟩, rfl, fun i t h => by simp at h⟩
theorem TS.own {lo B j c : Nat} {wr w5 : World} {A : Option Addr} {ts : List TY.Nd} {cs : List Value} (h : TS lo B wr A j c ts cs) (hS : Below wr.heap.size wr w5) (o : Obj) : (w5.alloc o).ownsRow B 25 4 (.slice A j c) j cs := by
  obtain ⟨h1, h2⟩ := h.2.1
  refine ⟨h1, ?_⟩
  rcases h2 with h2 | ⟨g, cap, cur, hv, hg, hh, r⟩
  · exact .inl h2
  · have hlt := heap_lt hh
    have hsz := hS.size
    exact .inr ⟨g, cap, cur, hv, hg, (Below.heap_alloc w5 o g (by omega)).trans ((hS.block g hlt).trans hh), r⟩
/-- What stands when a call has made the next tree and an append has taken it. -/
theorem TS.step {lo B g j c cap : Nat} {wr w5 w6 U : World} {A : Option Addr} {ts : List TY.Nd} {cs : List Value} {t : TY.Nd} {k n : Int} {s : ByteArray} {A' : Option Addr} {m c' : Nat} {C : Array Value}
    (h : TS lo B wr A j c ts cs) (hS : Below wr.heap.size wr w5) (hlo : lo ≤ B) (hB : B ≤ wr.heap.size) (ht : Ny lo wr.heap.size none w5 t (ndv k n s (.slice A' m c')))
    (hg : (w5.alloc (.cells C 25)).grownBy w6 (Value.slice A j c).ownBlock) (hat : (Value.slice A j c).ownBlock = some g ∨ w5.heap.size ≤ g)
    (hown : w6.ownsRow B 25 4 (.slice (some ⟨g, 0, none⟩) (j + 1) cap) (j + 1) (cs ++ [.int .i64 k, .int .i64 n, .string s, .slice A' m c']))
    (hU : ∀ x, (x < lo ∨ B ≤ x) → U.heap[x]? = w6.heap[x]?) (hUs : U.heap.size = w6.heap.size) : TS lo B U (some ⟨g, 0, none⟩) (j + 1) cap (ts ++ [t]) (cs ++ [.int .i64 k, .int .i64 n, .string s, .slice A' m c']) := by
  obtain ⟨h1, h2, hcl, h3⟩ := h
  have hlt := World.ownsRow.lt h2
  have hsz := hS.size
  have hgs := hg.size
  rw [World.size_alloc] at hgs
  have hob : (Value.slice (some ⟨g, 0, none⟩) (j + 1) cap).ownBlock = some g := rfl
  have far : ∀ x, (x < lo ∨ B ≤ x) → x < wr.heap.size → some x ≠ (Value.slice A j c).ownBlock → U.heap[x]? = wr.heap[x]? := fun x hx1 hx2 hx3 =>
    (hU x hx1).trans ((hg.block x (by rw [World.size_alloc]; omega) hx3).trans ((Below.heap_alloc w5 _ x (by omega)).trans (hS.block x hx2)))
  refine ⟨by rw [List.length_append, h1]; rfl, TR.step.row_far hown (fun x hx => hU x (.inr hx)), by rw [List.length_append, hcl]; show j * 4 + 4 = _; omega, fun i y hy => ?_⟩
  rw [hob]
  by_cases hi : i < ts.length
  · rw [List.getElem?_append_left hi] at hy
    obtain ⟨k', n', s', A1, m1, c1, q, e0, e1, e2, e3⟩ := h3 i y hy
    refine ⟨k', n', s', A1, m1, c1, fun V hV hi hhi => q V (fun x hx1 hx2 hx3 => (hV x hx1 (by omega) (fun ee => ?_)).trans (far x hx1 hx2 hx3)) hi (by omega), ?_, ?_, ?_, ?_⟩
    · injection ee with ee
      subst ee
      rcases hat with hat | hat
      · exact hx3 hat.symm
      · omega
    all_goals rw [List.getElem?_append_left (by omega)]; assumption
  · have hi2 : i = ts.length := by
      have := (List.getElem?_eq_some_iff.1 hy).1
      rw [List.length_append, List.length_singleton] at this
      omega
    have e : t = y := by
      rw [hi2, List.getElem?_append_right (Nat.le_refl _), Nat.sub_self] at hy
      injection hy
    subst e
    refine ⟨k, n, s, A', m, c', fun V hV hi hhi => ht V (fun x hx1 hx2 _ => ?_) hi (by omega), ?_, ?_, ?_, ?_⟩
    · have hxg : some x ≠ (Value.slice A j c).ownBlock := fun ee => by have := hlt x ee.symm; omega
      have hxg' : some x ≠ some g := fun ee => by
        injection ee with ee
        subst ee
        rcases hat with hat | hat
        · exact hxg hat.symm
        · omega
      have hx1' : x < lo ∨ B ≤ x := hx1.imp id fun h => by omega
      exact (hV x hx1' (by omega) hxg').trans ((hU x hx1').trans ((hg.block x (by rw [World.size_alloc]; omega) hxg).trans (Below.heap_alloc w5 _ x hx2)))
    · rw [List.getElem?_append_right (by omega), show i * 4 - cs.length = 0 by omega]; rfl
    · rw [List.getElem?_append_right (by omega), show i * 4 + 1 - cs.length = 1 by omega]; rfl
    · rw [List.getElem?_append_right (by omega), show i * 4 + 2 - cs.length = 2 by omega]; rfl
    · rw [List.getElem?_append_right (by omega), show i * 4 + 3 - cs.length = 3 by omega]; rfl
/-- A node whose children are such a row. -/
theorem TS.node {lo B j c : Nat} {V : World} {A : Option Addr} {ts : List TY.Nd} {cs : List Value} (h : TS lo B V A j c ts cs) (hj : j ≤ 1000000) (k n : Int) (s : ByteArray) (hs : s.size ≤ 1000) : Ny lo B none V (.mk k n s ts) (ndv k n s (.slice A j c)) := by
  obtain ⟨h1, h2, _, h3⟩ := h
  intro U hU hi hhi
  have hc12 : j ≤ c ∧ c ≤ maxLen := by
    rcases h2.2 with ⟨e1, h0⟩ | ⟨g, cap, cur, e1, _, _, hn, hm, _⟩
    · injection e1 with e1 e2 e3
      exact ⟨by omega, by rw [e3]; simp [maxLen]⟩
    · injection e1 with e1 e2 e3
      exact ⟨by omega, by omega⟩
  have key : ∃ vs : List Value, vs.length = ts.length ∧ ∀ (i : Nat) (x : TY.Nd) (v : Value), ts[i]? = some x → vs[i]? = some v → ∃ (k n : Int) (s : ByteArray) (A' : Option Addr) (m d : Nat), v = ndv k n s (.slice A' m d) ∧ Ny lo B (Value.slice A j c).ownBlock V x v ∧ cs[i * 4]? = some (.int .i64 k) ∧ cs[i * 4 + 1]? = some (.int .i64 n) ∧ cs[i * 4 + 2]? = some (.string s) ∧ cs[i * 4 + 3]? = some (.slice A' m d) := by
    refine ⟨(List.range ts.length).map fun i => .agg #[(cs[i * 4]?).getD undef, (cs[i * 4 + 1]?).getD undef, (cs[i * 4 + 2]?).getD undef, (cs[i * 4 + 3]?).getD undef], by simp, fun i x v hx hv => ?_⟩
    have hi := (List.getElem?_eq_some_iff.1 hx).1
    rw [List.getElem?_map, List.getElem?_range hi] at hv
    injection hv with hv
    obtain ⟨k, n, s, A', m, d, q, e0, e1, e2, e3⟩ := h3 i x hx
    simp only [e0, e1, e2, e3, Option.getD_some] at hv
    subst hv
    exact ⟨k, n, s, A', m, d, rfl, q, e0, e1, e2, e3⟩
  obtain ⟨vs, hvl, hvs⟩ := key
  rw [← h1]
  refine .mk k n s ts A c vs hvl (by omega) hc12.2 (by omega) hs ?_ fun i t v ht hv => ?_
  · rcases Nat.eq_zero_or_pos j with h0 | h0
    · exact .inl (List.eq_nil_of_length_eq_zero (by omega))
    · obtain ⟨b, C, rfl, hb1, hb2, hC, hcs⟩ := own_at h2 h0
      refine .inr ⟨b, 0, C, rfl, by omega, (hU b (.inr hb1) hb2 (by simp)).trans hC, fun i v hv => ?_⟩
      obtain ⟨x, hx⟩ : ∃ x, ts[i]? = some x := ⟨ts[i]'(by have := (List.getElem?_eq_some_iff.1 hv).1; omega), List.getElem?_eq_getElem (by have := (List.getElem?_eq_some_iff.1 hv).1; omega)⟩
      obtain ⟨k, n, s, A', m, d, e, _, e0, e1, e2, e3⟩ := hvs i x v hx hv
      refine ⟨k, n, s, _, e, ?_, ?_, ?_, ?_⟩ <;> rw [Nat.zero_add] <;> apply hcs <;> assumption
  · obtain ⟨_, _, _, _, _, _, _, q, _⟩ := hvs i t v ht hv
    exact q U (fun y h1 h2 _ => hU y h1 h2 (by simp)) hi hhi
end Go.Proofs.Ytofeidacffabdaa
