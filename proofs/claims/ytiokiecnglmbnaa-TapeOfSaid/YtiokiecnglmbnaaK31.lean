/-
  append onto an empty row, in whatever order: nothing is turned that was there. No function of the program.
  append onto an empty row in a drawn region: nothing is turned that was there, and what comes is an own row. No function of the program.
-/
import Derived.Test.YtiokiecnglmbnaaK16
import Derived.Test.YtiokiecnglmbnaaK19
import Derived.Deep.AppendSrc
import Derived.Deep.Upon

namespace Go.Proofs.Ytiokiecnglmbnaa.RgX
open Go Go.RowKit Go.Proofs Go.Proofs.Ytiokiecnglmbnaa

/-- What lies at a slice's start. -/
def Lies (e : TypeId) (w : World) (B : Option Addr) (m c : Nat) (news : List Value) : Prop := m ≤ c ∧ c ≤ maxLen ∧ ((B = none ∧ m = 0 ∧ c = 0 ∧ news = []) ∨ ∃ (g : Nat) (C : Array Value), B = some ⟨g, 0, none⟩ ∧ w.heap[g]? = some (.cells C e (0, 0)) ∧ ∀ (j : Nat) (u : Value), news[j]? = some u → C[j]? = some u)
theorem app_empty_exec {P : Program} {o : Oper} {a : Act} {w : World} (s x : Operand) (t : TypeId) (ho : o.op = .call { callee := .builtin .append, args := #[s, x], argTypes := #[t, t] })
    (e : TypeId) (i : TypeInfo) (z : Value) (ht : P.underlying t = some (.slice e)) (hi : P.info? e = some i) (hz : i.zero = some z)
    (g : Nat) (hs : a.eval s = .slice (some ⟨g, 0, none⟩) 0 0) (hg : w.heap[g]? = some (.cells #[] e (0, 0)))
    (A : Option Addr) (m c : Nat) (news : List Value) (hx : a.eval x = .slice A m c) (hl : news.length = m * i.size) (hsrc : RgX.Src w A m c news) (h1 : ∀ u ∈ news, u.oneCell' = true)
    (h63 : m ≤ maxLen) (hb : m * i.bytes ≤ 140737488355328) :
    ∃ B r w', (execOp a.eval o).run P w = .ok (.value (.slice B m r)) w' ∧ Below w.heap.size w w' ∧ Lies e w' B m r news := by
  have nothing : m = 0 → news = [] → Go.Src P i.size t (.slice A m c) 0 [] w → ∃ B r w', (execOp a.eval o).run P w = .ok (.value (.slice B m r)) w' ∧ Below w.heap.size w w' ∧ Lies e w' B m r news := fun hm hn hS => by
    subst hm
    subst hn
    have hr := run_append_nothing (P := P) w t t o.type e i ht hi (some ⟨g, 0, none⟩) 0 0 (Nat.le_refl _) (.slice A 0 c) hS
    refine ⟨some ⟨g, 0, none⟩, 0, w, ?_, Below.refl _ _, Nat.le_refl _, by simp [maxLen], .inr ⟨g, #[], rfl, hg, fun j u hu => by simp at hu⟩⟩
    unfold execOp
    simp only [ho, resolve, invoke, builtin, Sem.run_bind, Sem.run_pure, Result.andThen_ok, List.map_toArray, List.map_cons, List.map_nil, hs, hx, hr]
  rcases hsrc with ⟨rfl, rfl, rfl, rfl⟩ | ⟨ad, rfl, hc⟩
  · exact nothing rfl rfl (Go.Src.ofNil w ht 0)
  · by_cases hm : m = 0
    · subst hm
      obtain rfl : news = [] := List.eq_nil_of_length_eq_zero (by simpa using hl)
      exact nothing rfl rfl (Go.Src.ofSlice w ht ad 0 c [] (by simp) (fun j u hu => by simp at hu) (fun u hu => by cases hu))
    · have hold : (Builtin.firstCells i.size 0 (.slice (some ⟨g, 0, none⟩) 0 0)).run P w.drew = .ok ([] : List Value).toArray w.drew := run_firstCells_some w.drew i.size 0 ⟨g, 0, none⟩ 0 0 [] (by simp) (fun j u hu => by simp at hu)
      have hr := run_append_new (P := P) (o := o) (a := a) (w := w) s x t ho e i z ht hi hz (some ⟨g, 0, none⟩) 0 [] hs hold ad m c news hx hl hc h1 (by omega) (by omega) (by rw [Nat.zero_add]; exact hb)
      have hge := grownCap_ge w (0 + m) 0 e
      have hle := grownCap_le_maxLen w (0 + m) 0 e (by omega)
      refine ⟨some ⟨w.heap.size, 0, none⟩, grownCap w (0 + m) 0 e, _, by rw [hr, Nat.zero_add], below_drew_alloc w _, by omega, hle, .inr ⟨w.heap.size, _, rfl, heap_alloc_new w.drew _, fun j u hu => ?_⟩⟩
      rw [Array.getElem?_append, if_pos (by simpa using (List.getElem?_eq_some_iff.1 hu).1)]
      simpa using hu
/-- The same as one step of a region. -/
theorem app_empty_does {P : Program} {ops : Array Oper} {sp : Sp} {a : Act} {w : World} {o : Oper} (hw : Region.wanted o (yielded ops a.tmps) = true) (s x : Operand) (t : TypeId) (ho : o.op = .call { callee := .builtin .append, args := #[s, x], argTypes := #[t, t] })
    (e : TypeId) (i : TypeInfo) (z : Value) (ht : P.underlying t = some (.slice e)) (hi : P.info? e = some i) (hz : i.zero = some z)
    (g : Nat) (hs : a.eval s = .slice (some ⟨g, 0, none⟩) 0 0) (hg : w.heap[g]? = some (.cells #[] e (0, 0)))
    (A : Option Addr) (m c : Nat) (news : List Value) (hx : a.eval x = .slice A m c) (hl : news.length = m * i.size) (hsrc : RgX.Src w A m c news) (h1 : ∀ u ∈ news, u.oneCell' = true)
    (h63 : m ≤ maxLen) (hb : m * i.bytes ≤ 140737488355328) (hsp : ∀ B r w', Lies e w' B m r news → sp.p w' (.slice B m r)) : Does P ops sp a w o := by
  obtain ⟨B, r, w', hr, hb2, hl2⟩ := app_empty_exec s x t ho e i z ht hi hz g hs hg A m c news hx hl hsrc h1 h63 hb
  exact .run hw _ w' hr hb2 (hsp B r w' hl2)
end Go.Proofs.Ytiokiecnglmbnaa.RgX

namespace Go.Proofs.Ytiokiecnglmbnaa.RgX
open Go Go.RowKit Go.Proofs Go.Proofs.Ytiokiecnglmbnaa

namespace Sp
/-- An own row, in a block made since block base. -/
def own (base : Nat) (t : TypeId) (size n : Nat) (xs : List Value) : Sp := ⟨fun w x => ∃ B c, x = .slice B n c ∧ w.ownsRow base t size (.slice B n c) n xs, fun {w w' x} ⟨B, c, e, h⟩ hb => ⟨B, c, e, by
  obtain ⟨h1, h2⟩ := h
  refine ⟨h1, ?_⟩
  rcases h2 with h2 | ⟨g, cap, cur, e1, hb1, hg, h3⟩
  · exact .inl h2
  · exact .inr ⟨g, cap, cur, e1, hb1, (hb.block g (Array.getElem?_eq_some_iff.1 hg).1).trans hg, h3⟩⟩⟩
/-- An empty row, in a block made since block base. -/
def zrow (base : Nat) (t : TypeId) : Sp := ⟨fun w x => ∃ g, x = .slice (some ⟨g, 0, none⟩) 0 0 ∧ w.heap[g]? = some (.cells #[] t (0, 0)) ∧ base ≤ g, fun ⟨g, e, h, l⟩ hb => ⟨g, e, (hb.block g (Array.getElem?_eq_some_iff.1 h).1).trans h, l⟩⟩
end Sp
theorem app_empty_own {P : Program} {ops : Array Oper} {a : Act} {w : World} {o : Oper} (hw : Region.wanted o (yielded ops a.tmps) = true) (s x : Operand) (t : TypeId) (ho : o.op = .call { callee := .builtin .append, args := #[s, x], argTypes := #[t, t] })
    (base : Nat) (e : TypeId) (i : TypeInfo) (z : Value) (size bytes : Nat) (ht : P.underlying t = some (.slice e)) (hi : P.info? e = some i) (hz : i.zero = some z) (hsize : i.size = size) (hby : i.bytes = bytes) (hzs : z.cells.size = size)
    (g : Nat) (hs : a.eval s = .slice (some ⟨g, 0, none⟩) 0 0) (hg : w.heap[g]? = some (.cells #[] e (0, 0))) (hbg : base ≤ g)
    (A : Option Addr) (m c : Nat) (news : List Value) (hx : a.eval x = .slice A m c) (hl : news.length = m * size) (hsrc : RgX.Src w A m c news) (h1 : ∀ u ∈ news, u.oneCell' = true)
    (h63 : m ≤ maxLen) (hb : m * bytes ≤ 140737488355328) : Does P ops (.own base e size m news) a w o := by
  subst hsize
  subst hby
  have hbw : base ≤ w.heap.size := Nat.le_of_lt (Nat.lt_of_le_of_lt hbg (Array.getElem?_eq_some_iff.1 hg).1)
  have nothing : m = 0 → news = [] → Go.Src P i.size t (.slice A m c) 0 [] w → Does P ops (.own base e i.size m news) a w o := fun hm hn hS => by
    subst hm
    subst hn
    have hr := run_append_nothing (P := P) w t t o.type e i ht hi (some ⟨g, 0, none⟩) 0 0 (Nat.le_refl _) (.slice A 0 c) hS
    refine .run hw (.slice (some ⟨g, 0, none⟩) 0 0) w ?_ (Below.refl _ _) ⟨_, _, rfl, by simp, .inr ⟨g, 0, #[], rfl, hbg, hg, Nat.le_refl _, Nat.zero_le _, by simp, by simp⟩⟩
    unfold execOp
    simp only [ho, resolve, invoke, builtin, Sem.run_bind, Sem.run_pure, Result.andThen_ok, List.map_toArray, List.map_cons, List.map_nil, hs, hx, hr]
  rcases hsrc with ⟨rfl, rfl, rfl, rfl⟩ | ⟨ad, rfl, hc⟩
  · exact nothing rfl rfl (Go.Src.ofNil w ht 0)
  · by_cases hm : m = 0
    · subst hm
      obtain rfl : news = [] := List.eq_nil_of_length_eq_zero (by simpa using hl)
      exact nothing rfl rfl (Go.Src.ofSlice w ht ad 0 c [] (by simp) (fun j u hu => by simp at hu) (fun u hu => by cases hu))
    · have hold : (Builtin.firstCells i.size 0 (.slice (some ⟨g, 0, none⟩) 0 0)).run P w.drew = .ok ([] : List Value).toArray w.drew := run_firstCells_some w.drew i.size 0 ⟨g, 0, none⟩ 0 0 [] (by simp) (fun j u hu => by simp at hu)
      have hr := run_append_new (P := P) (o := o) (a := a) (w := w) s x t ho e i z ht hi hz (some ⟨g, 0, none⟩) 0 [] hs hold ad m c news hx hl hc h1 (by omega) (by omega) (by rw [Nat.zero_add]; exact hb)
      have hge := grownCap_ge w (0 + m) 0 e
      have hle := grownCap_le_maxLen w (0 + m) 0 e (by omega)
      rw [Nat.zero_add] at hr hge hle
      refine .run hw _ _ hr (below_drew_alloc w _) ⟨_, _, rfl, hl, .inr ⟨w.heap.size, grownCap w m 0 e, _, rfl, hbw, heap_alloc_new w.drew _, hge, hle, ?_, ?_⟩⟩
      · rw [Array.size_append, size_zeroCells, hzs]
        simp only [List.nil_append, List.size_toArray, hl]
        rw [← Nat.add_mul]
        congr 1
        omega
      · simp [← hl]
/-- append onto an own row, of a slice that is nil or whose cells are known, as a run. -/
theorem app_src_exec {P : Program} {o : Oper} {a : Act} {w : World} {G : Value → World → Prop} (s x : Operand) (t : TypeId) (ho : o.op = .call { callee := .builtin .append, args := #[s, x], argTypes := #[t, t] })
    (base : Nat) (e : TypeId) (i : TypeInfo) (z : Value) (size bytes : Nat) (ht : P.underlying t = some (.slice e)) (hi : P.info? e = some i) (hz : i.zero = some z)
    (hsize : i.size = size) (hby : i.bytes = bytes) (hzs : z.cells.size = size) (hsz : 0 < size)
    (v : Value) (n : Nat) (xs : List Value) (hs : a.eval s = v) (hown : w.ownsRow base e size v n xs)
    (A : Option Addr) (m c : Nat) (news : List Value) (hx : a.eval x = .slice A m c) (hl : news.length = m * size) (hsrc : Src w A m c news) (h1 : ∀ u ∈ news, u.oneCell' = true)
    (h63 : n + m ≤ maxLen) (hbytes : (n + m) * bytes ≤ 140737488355328) (hbase : base ≤ w.heap.size)
    (hG : ∀ B c' w', w'.ownsRow base e size (.slice B (n + m) c') (n + m) (xs ++ news) → w.grownBy w' v.ownBlock → G (.slice B (n + m) c') w') :
    ∃ v' w', (execOp a.eval o).run P w = .ok (.value v') w' ∧ G v' w' := by
  have sl : ∀ {w' : World} {v' : Value} {k : Nat} {ys : List Value}, w'.ownsRow base e size v' k ys → ∃ B c', v' = .slice B k c' := fun {w' v' k ys} h => by
    rcases h.2 with ⟨rfl, rfl⟩ | ⟨g, cap, cur, rfl, _⟩
    · exact ⟨none, 0, rfl⟩
    · exact ⟨_, cap, rfl⟩
  rcases hsrc with ⟨rfl, rfl, rfl, rfl⟩ | ⟨ad, rfl, hc⟩
  · obtain ⟨B, c', rfl⟩ := sl hown
    have hr := run_append_owned_none (P := P) (w := w) base t o.type e i size ht hi (.slice B n c') n xs hown
    refine ⟨.slice B n c', w, ?_, ?_⟩
    · unfold execOp
      simp only [ho, resolve, invoke, builtin, Sem.run_bind, Sem.run_pure, Result.andThen_ok, List.map_toArray, List.map_cons, List.map_nil, hs, hx, hr]
    · exact hG B c' w (by rw [List.append_nil]; exact hown) ⟨rfl, rfl, rfl, Nat.le_refl _, fun _ _ _ => rfl⟩
  · obtain ⟨v', w', hr, h2, h3, _⟩ := run_append_own (P := P) w base t o.type e i z size bytes ht hi hz hsize hby hzs hsz v n xs hown ad m c news hl hc h1 h63 hbytes hbase
    obtain ⟨B, c', rfl⟩ := sl h2
    refine ⟨_, w', ?_, hG B c' w' h2 h3⟩
    unfold execOp
    simp only [ho, resolve, invoke, builtin, Sem.run_bind, Sem.run_pure, Result.andThen_ok, List.map_toArray, List.map_cons, List.map_nil, hs, hx, hr]
end Go.Proofs.Ytiokiecnglmbnaa.RgX
