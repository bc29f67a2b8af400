/-
  append in a region, where it makes a new row: the row in front is full, or nil. Slices known by their cells. No function of the program.
-/
import Derived.Test.YtiokiecnglmbnaaK15
import Derived.Deep.AppendSrc

namespace Go.Proofs.Ytiokiecnglmbnaa.RgX
open Go Go.RowKit Go.Proofs Go.Proofs.Ytiokiecnglmbnaa

/-- A slice of integers, known by its cells; it may have spare room. -/
def Sp.key (l : List Int) : Sp := ⟨fun w x => ∃ g m, x = .slice (some ⟨g, 0, none⟩) l.length m ∧ g < w.heap.size ∧ ∀ j y, l[j]? = some y → w.cell? ⟨g, j, none⟩ = some (.int .i64 y),
  fun ⟨g, m, e, h, hc⟩ hb => ⟨g, m, e, Nat.lt_of_lt_of_le h hb.size, fun j y hy => (hb.cell (p := ⟨g, j, none⟩) h).trans (hc j y hy)⟩⟩
theorem run_append_new {P : Program} {o : Oper} {a : Act} {w : World} (s x : Operand) (t : TypeId) (ho : o.op = .call { callee := .builtin .append, args := #[s, x], argTypes := #[t, t] })
    (e : TypeId) (i : TypeInfo) (z : Value) (ht : P.underlying t = some (.slice e)) (hi : P.info? e = some i) (hz : i.zero = some z)
    (base : Option Addr) (n : Nat) (olds : List Value) (hs : a.eval s = .slice base n n) (hold : (Builtin.firstCells i.size n (.slice base n n)).run P w.drew = .ok olds.toArray w.drew)
    (ad : Addr) (m c : Nat) (news : List Value) (hx : a.eval x = .slice (some ad) m c) (hl : news.length = m * i.size) (hnews : ∀ j u, news[j]? = some u → w.cell? (ad.add j) = some u) (h1 : ∀ u ∈ news, u.oneCell' = true)
    (hm : 0 < m) (h63 : n + m ≤ maxLen) (hb : (n + m) * i.bytes ≤ 140737488355328) :
    (execOp a.eval o).run P w = .ok (.value (.slice (some ⟨w.heap.size, 0, none⟩) (n + m) (grownCap w (n + m) n e))) (w.drew.alloc (.cells ((olds ++ news).toArray ++ Builtin.zeroCells z.cells (grownCap w (n + m) n e - (n + m))) e)) := by
  have hr := run_append_grow_src (P := P) w t t o.type e i z ht hi hz base n n olds hold (.slice (some ad) m c) m news (Src.ofSlice w ht ad m c news hl hnews h1) (by omega) (by simp only [maxLen] at h63; omega) (growslice_fits (by omega) hb)
  unfold execOp
  simp only [ho, resolve, invoke, builtin, Sem.run_bind, Sem.run_pure, Result.andThen_ok, List.map_toArray, List.map_cons, List.map_nil, hs, hx, hr]
theorem info_split {P : Program} {t : TypeId} {z : Option Value} {s b : Nat} (h : (P.info? t).map (fun i => (i.zero, i.size, i.bytes)) = some (z, s, b)) : ∃ i, P.info? t = some i ∧ i.zero = z ∧ i.size = s ∧ i.bytes = b := by
  cases hq : P.info? t with
  | none => rw [hq] at h; cases h
  | some i =>
    rw [hq] at h
    simp only [Option.map_some, Option.some.injEq, Prod.mk.injEq] at h
    exact ⟨i, rfl, h.1, h.2.1, h.2.2⟩
theorem run_append_exec {P : Program} {o : Oper} {a : Act} {w : World} (s x : Operand) (t : TypeId) (ho : o.op = .call { callee := .builtin .append, args := #[s, x], argTypes := #[t, t] })
    (base : Nat) (e : TypeId) (i : TypeInfo) (z : Value) (size bytes : Nat) (ht : P.underlying t = some (.slice e)) (hi : P.info? e = some i) (hz : i.zero = some z)
    (hsize : i.size = size) (hby : i.bytes = bytes) (hzs : z.cells.size = size) (hsz : 0 < size)
    (v : Value) (n : Nat) (xs : List Value) (hs : a.eval s = v) (hown : w.ownsRow base e size v n xs)
    (ad : Addr) (m c : Nat) (news : List Value) (hx : a.eval x = .slice (some ad) m c) (hl : news.length = m * size) (hnews : ∀ j u, news[j]? = some u → w.cell? (ad.add j) = some u) (h1 : ∀ u ∈ news, u.oneCell' = true)
    (hm : 0 < m) (h63 : n + m ≤ maxLen) (hbytes : (n + m) * bytes ≤ 140737488355328) (hbase : base ≤ w.heap.size) :
    ∃ B c' w', (execOp a.eval o).run P w = .ok (.value (.slice B (n + m) c')) w' ∧ w'.ownsRow base e size (.slice B (n + m) c') (n + m) (xs ++ news) ∧ w.grownBy w' v.ownBlock := by
  obtain ⟨v', w', hr, h2, h3, h4⟩ := run_append_own (P := P) w base t o.type e i z size bytes ht hi hz hsize hby hzs hsz v n xs hown ad m c news hl hnews h1 h63 hbytes hbase
  obtain ⟨B, c', rfl⟩ : ∃ B c', v' = .slice B (n + m) c' := by
    rcases h2.2 with ⟨_, h⟩ | ⟨g, cap, cur, rfl, _⟩
    · omega
    · exact ⟨_, cap, rfl⟩
  refine ⟨B, c', w', ?_, h2, h3⟩
  unfold execOp
  simp only [ho, resolve, invoke, builtin, Sem.run_bind, Sem.run_pure, Result.andThen_ok, List.map_toArray, List.map_cons, List.map_nil, hs, hx, hr]
theorem app_exec {P : Program} {o : Oper} {a : Act} {w : World} {G : Value → World → Prop} (s x : Operand) (t : TypeId) (ho : o.op = .call { callee := .builtin .append, args := #[s, x], argTypes := #[t, t] })
    (base : Nat) (e : TypeId) (i : TypeInfo) (z : Value) (size bytes : Nat) (ht : P.underlying t = some (.slice e)) (hi : P.info? e = some i) (hz : i.zero = some z)
    (hsize : i.size = size) (hby : i.bytes = bytes) (hzs : z.cells.size = size) (hsz : 0 < size)
    (v : Value) (n : Nat) (xs : List Value) (hs : a.eval s = v) (hown : w.ownsRow base e size v n xs)
    (ad : Addr) (m c : Nat) (news : List Value) (hx : a.eval x = .slice (some ad) m c) (hl : news.length = m * size) (hnews : ∀ j u, news[j]? = some u → w.cell? (ad.add j) = some u) (h1 : ∀ u ∈ news, u.oneCell' = true)
    (hm : 0 < m) (h63 : n + m ≤ maxLen) (hbytes : (n + m) * bytes ≤ 140737488355328) (hbase : base ≤ w.heap.size)
    (hG : ∀ B c' w', w'.ownsRow base e size (.slice B (n + m) c') (n + m) (xs ++ news) → w.grownBy w' v.ownBlock → G (.slice B (n + m) c') w') :
    ∃ v w', (execOp a.eval o).run P w = .ok (.value v) w' ∧ G v w' := by
  obtain ⟨B, c', w', h1, h2, h3⟩ := run_append_exec s x t ho base e i z size bytes ht hi hz hsize hby hzs hsz v n xs hs hown ad m c news hx hl hnews h1 hm h63 hbytes hbase
  exact ⟨_, w', h1, hG B c' w' h2 h3⟩
theorem below_drew_alloc (w : World) (o : Obj) : Below w.heap.size w (w.drew.alloc o) := ((Below.refl _ w).drew).alloc (Nat.le_refl _) _
theorem cell_of_app {w : World} {g j : Nat} {l : List Value} {Z : Array Value} {t : TypeId} {u : Value} (h : w.heap[g]? = some (.cells (l.toArray ++ Z) t (0, 0))) (hu : l[j]? = some u) : w.cell? ⟨g, j, none⟩ = some u := by
  rw [cell_of_row w g j _ _ (0, 0) h, Array.getElem?_append, if_pos (by simpa using (List.getElem?_eq_some_iff.1 hu).1)]
  simpa using hu
theorem key_new (w : World) (l : List Int) (Z : Array Value) (t : TypeId) (m : Nat) {n : Nat} (hn : l.length = n) {L : List Value} (hL : L = l.map (Value.int .i64)) : (Sp.key l).p (w.drew.alloc (.cells (L.toArray ++ Z) t)) (.slice (some ⟨w.heap.size, 0, none⟩) n m) := by
  subst hn
  subst hL
  refine ⟨w.heap.size, m, rfl, by simp, fun j y hy => ?_⟩
  exact cell_of_app (heap_alloc_new w.drew _) (by rw [List.getElem?_map, hy]; rfl)
theorem key_row {w : World} {g : Nat} {l : List Int} {t : TypeId} {n : Nat} (hn : l.length = n) (h : w.heap[g]? = some (.cells (l.map (Value.int .i64)).toArray t (0, 0))) : (Sp.key l).p w (.slice (some ⟨g, 0, none⟩) n n) := by
  subst hn
  refine ⟨g, _, rfl, (Array.getElem?_eq_some_iff.1 h).1, fun j y hy => ?_⟩
  rw [cell_of_row w g j _ _ (0, 0) h]
  simp [hy]
end Go.Proofs.Ytiokiecnglmbnaa.RgX
