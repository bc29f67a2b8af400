/-
  A tape that came in as an argument: two slices of structs, wherever they lie. No function of the program.
-/
import Derived.Test.YtiokiecnglmbnaaK20
import Derived.Test.YtiokiecnglmbnaaK16
import Derived.Test.YtiokiecnglmbnaaK28
import Derived.Deep.Slices

namespace Go.Proofs.Ytiokiecnglmbnaa
open Go Go.RowKit Go.Proofs Go.WideShapes

def evE : RS.Enc NM.Ev := ⟨evC, 8, fun _ => rfl, fun x u hu => evC_one [x] u (by simpa using hu)⟩
def anE : RS.Enc TP.An := ⟨TP.anC, 6, fun _ => rfl, fun x u hu => TP.ansC_one [x] u (by simpa [TP.ansC] using hu)⟩
/-- A slice of structs, wherever it lies. -/
def RawR {α : Type} (E : RS.Enc α) (w : World) (A : Option Addr) (n c : Nat) (l : List α) : Prop :=
  l.length = n ∧ n ≤ c ∧ c ≤ maxLen ∧ ((A = none ∧ c = 0) ∨ ∃ x, A = some x ∧ ∀ j y, l[j]? = some y → ∀ o u, (E.f y)[o]? = some u → w.cell? (x.add (j * E.k + o)) = some u)
theorem RawR.keep {α : Type} {E : RS.Enc α} {w w' : World} {A : Option Addr} {n c : Nat} {l : List α} (h : RawR E w A n c l) (hb : Below w.heap.size w w') : RawR E w' A n c l := by
  obtain ⟨h1, h2, h3, h4⟩ := h
  refine ⟨h1, h2, h3, ?_⟩
  rcases h4 with h4 | ⟨x, e, hx⟩
  · exact .inl h4
  · refine .inr ⟨x, e, fun j y hj o u hu => ?_⟩
    have hc := hx j y hj o u hu
    have hlt : (x.add (j * E.k + o)).block < w.heap.size := by
      rcases Nat.lt_or_ge (x.add (j * E.k + o)).block w.heap.size with h | h
      · exact h
      · simp [World.cell?, Array.getElem?_eq_none h] at hc
    exact (hb.cell hlt).trans hc
theorem RawR.front {α : Type} {E : RS.Enc α} {w : World} {A : Option Addr} {n c : Nat} {l : List α} (h : RawR E w A n c l) (m : Nat) (hm : m ≤ n) : RgX.Src w A m c (RS.flat E (l.take m)) := by
  obtain ⟨h1, h2, h3, h4⟩ := h
  rcases h4 with ⟨rfl, rfl⟩ | ⟨x, e, hx⟩
  · obtain rfl : m = 0 := by omega
    exact .inl ⟨rfl, rfl, rfl, rfl⟩
  · refine .inr ⟨_, e, fun j u hu => ?_⟩
    obtain ⟨q, o, y, rfl, _, h5, h6⟩ := RS.flat_get hu
    rw [List.getElem?_take] at h5
    split at h5
    · exact hx q y h5 o u h6
    · cases h5
theorem rows_of {α : Type} {E : RS.Enc α} {w : World} {a : Addr} {len : Nat} {Q : α → Prop} (h : ∀ i, i < len → ∃ y : α, Q y ∧ ∀ o u, (E.f y)[o]? = some u → w.cell? (a.add (i * E.k + o)) = some u) :
    ∃ l : List α, l.length = len ∧ (∀ y ∈ l, Q y) ∧ ∀ j y, l[j]? = some y → ∀ o u, (E.f y)[o]? = some u → w.cell? (a.add (j * E.k + o)) = some u := by
  induction len with
  | zero =>
    refine ⟨[], rfl, ?_, ?_⟩
    · intro y hy
      simp at hy
    · intro j y hj
      simp at hj
  | succ n ih =>
    obtain ⟨l, h1, h2, h3⟩ := ih fun i hi => h i (by omega)
    obtain ⟨y, h4, h5⟩ := h n (by omega)
    refine ⟨l ++ [y], by simp [h1], fun z hz => ?_, fun j z hj => ?_⟩
    · rcases List.mem_append.1 hz with hz | hz
      · exact h2 z hz
      · obtain rfl := List.mem_singleton.1 hz
        exact h4
    · by_cases hjn : j < l.length
      · rw [List.getElem?_append_left hjn] at hj
        exact h3 j z hj
      · rw [List.getElem?_append_right (by omega)] at hj
        have hj0 : j - l.length = 0 := by
          rcases Nat.eq_zero_or_pos (j - l.length) with h | h
          · exact h
          · rw [List.getElem?_eq_none (by simp; omega)] at hj; cases hj
        rw [hj0] at hj
        simp at hj
        subst hj
        have : j = n := by omega
        subst this
        exact h5
section
variable {H : Type} {enc : TypeId × Value → H} {w : World} {base b0 : Nat} {spare : Nat → Bool} {held : Bool} {r : Reach} {v : Value} {d : DataW H} {ps : List MemPlace}
def W5 (a b c d e : Int) : Prop := I64 a ∧ I64 b ∧ I64 c ∧ I64 d ∧ I64 e
def EvW (e : NM.Ev) : Prop := I64 e.k ∧ I64 e.n ∧ I64 e.a ∧ W5 e.m.c e.m.h e.m.t e.m.i e.m.p
def AnW (a : TP.An) : Prop := W5 a.1.c a.1.h a.1.t a.1.k a.1.i ∧ I64 a.2
theorem cells_ev : Try.prog.cellsOf 47 = 8 := by kernel_rfl
theorem cells_qu : Try.prog.cellsOf 30 = 5 := by kernel_rfl
theorem cells_an : Try.prog.cellsOf 71 = 6 := by kernel_rfl
theorem cells_evs : Try.prog.cellsOf 23 = 1 := by kernel_rfl
theorem cells_ans : Try.prog.cellsOf 24 = 1 := by kernel_rfl
theorem cells_tape : Try.prog.cellsOf 26 = 2 := by kernel_rfl
theorem int_w {n : Nat} {cs : List Value} {x : DataW H × List MemPlace} (h : DataW.trod enc Try.prog w base spare held n 3 cs = some x) : ∃ a : Int, cs = [.int .i64 a] ∧ I64 a := by
  obtain ⟨a, e, _, hw⟩ := DataW.trod_int Try.underlying3 h
  exact ⟨a, e, i64_wf hw⟩
set_option maxRecDepth 100000 in
theorem cause_w {n : Nat} {cs : List Value} {x : DataW H × List MemPlace} (h : DataW.trod enc Try.prog w base spare held n 28 cs = some x) : ∃ a b c : Int, cs = [.int .i64 a, .int .i64 b, .int .i64 c] ∧ I64 a ∧ I64 b ∧ I64 c := by
  obtain ⟨xs, m, _, _, hl, hx, hf⟩ := DataW.trod_struct Try.underlying28 h
  rw [cells_cause] at hl
  match cs, hl with
  | [c0, c1, c2], _ =>
  have h0 : DataW.trod enc Try.prog w base spare held m 3 (([c0, c1, c2].drop 0).take (Try.prog.cellsOf 3)) = xs[0]? := hf 0 _ rfl
  have h1 : DataW.trod enc Try.prog w base spare held m 3 (([c0, c1, c2].drop 1).take (Try.prog.cellsOf 3)) = xs[1]? := hf 1 _ rfl
  have h2 : DataW.trod enc Try.prog w base spare held m 3 (([c0, c1, c2].drop 2).take (Try.prog.cellsOf 3)) = xs[2]? := hf 2 _ rfl
  rw [cells_one] at h0 h1 h2
  rw [List.getElem?_eq_getElem (by rw [hx]; decide)] at h0 h1 h2
  obtain ⟨a0, e0, w0⟩ := int_w h0
  obtain ⟨a1, e1, w1⟩ := int_w h1
  obtain ⟨a2, e2, w2⟩ := int_w h2
  simp at e0 e1 e2
  subst e0 e1 e2
  exact ⟨a0, a1, a2, rfl, w0, w1, w2⟩
set_option maxRecDepth 100000 in
theorem msg_w {n : Nat} {cs : List Value} {x : DataW H × List MemPlace} (h : DataW.trod enc Try.prog w base spare held n 45 cs = some x) : ∃ c h t i p : Int, cs = [.int .i64 c, .int .i64 h, .int .i64 t, .int .i64 i, .int .i64 p] ∧ W5 c h t i p := by
  obtain ⟨xs, m, _, _, hl, hx, hf⟩ := DataW.trod_struct Try.underlying45 h
  rw [cells_msg] at hl
  match cs, hl with
  | [c0, c1, c2, c3, c4], _ =>
  have h0 : DataW.trod enc Try.prog w base spare held m 28 (([c0, c1, c2, c3, c4].drop 0).take (Try.prog.cellsOf 28)) = xs[0]? := hf 0 _ rfl
  have h1 : DataW.trod enc Try.prog w base spare held m 3 (([c0, c1, c2, c3, c4].drop 3).take (Try.prog.cellsOf 3)) = xs[1]? := hf 1 _ rfl
  have h2 : DataW.trod enc Try.prog w base spare held m 3 (([c0, c1, c2, c3, c4].drop 4).take (Try.prog.cellsOf 3)) = xs[2]? := hf 2 _ rfl
  rw [cells_one] at h1 h2
  rw [cells_cause] at h0
  rw [List.getElem?_eq_getElem (by rw [hx]; decide)] at h0 h1 h2
  obtain ⟨a0, a1, a2, e0, w0, w1, w2⟩ := cause_w h0
  obtain ⟨a3, e1, w3⟩ := int_w h1
  obtain ⟨a4, e2, w4⟩ := int_w h2
  simp at e0 e1 e2
  obtain ⟨rfl, rfl, rfl⟩ := e0
  subst e1 e2
  exact ⟨a0, a1, a2, a3, a4, rfl, w0, w1, w2, w3, w4⟩
set_option maxRecDepth 100000 in
theorem qu_w {n : Nat} {cs : List Value} {x : DataW H × List MemPlace} (h : DataW.trod enc Try.prog w base spare held n 30 cs = some x) : ∃ c h t k i : Int, cs = [.int .i64 c, .int .i64 h, .int .i64 t, .int .i64 k, .int .i64 i] ∧ W5 c h t k i := by
  obtain ⟨xs, m, _, _, hl, hx, hf⟩ := DataW.trod_struct Try.underlying30 h
  rw [cells_qu] at hl
  match cs, hl with
  | [c0, c1, c2, c3, c4], _ =>
  have h0 : DataW.trod enc Try.prog w base spare held m 28 (([c0, c1, c2, c3, c4].drop 0).take (Try.prog.cellsOf 28)) = xs[0]? := hf 0 _ rfl
  have h1 : DataW.trod enc Try.prog w base spare held m 3 (([c0, c1, c2, c3, c4].drop 3).take (Try.prog.cellsOf 3)) = xs[1]? := hf 1 _ rfl
  have h2 : DataW.trod enc Try.prog w base spare held m 3 (([c0, c1, c2, c3, c4].drop 4).take (Try.prog.cellsOf 3)) = xs[2]? := hf 2 _ rfl
  rw [cells_one] at h1 h2
  rw [cells_cause] at h0
  rw [List.getElem?_eq_getElem (by rw [hx]; decide)] at h0 h1 h2
  obtain ⟨a0, a1, a2, e0, w0, w1, w2⟩ := cause_w h0
  obtain ⟨a3, e1, w3⟩ := int_w h1
  obtain ⟨a4, e2, w4⟩ := int_w h2
  simp at e0 e1 e2
  obtain ⟨rfl, rfl, rfl⟩ := e0
  subst e1 e2
  exact ⟨a0, a1, a2, a3, a4, rfl, w0, w1, w2, w3, w4⟩
set_option maxRecDepth 100000 in
theorem event_w {n : Nat} {cs : List Value} {x : DataW H × List MemPlace} (h : DataW.trod enc Try.prog w base spare held n 47 cs = some x) : ∃ e : NM.Ev, cs = evC e ∧ EvW e := by
  obtain ⟨xs, m, _, _, hl, hx, hf⟩ := DataW.trod_struct Try.underlying47 h
  rw [cells_ev] at hl
  match cs, hl with
  | [c0, c1, c2, c3, c4, c5, c6, c7], _ =>
  have h0 : DataW.trod enc Try.prog w base spare held m 3 (([c0, c1, c2, c3, c4, c5, c6, c7].drop 0).take (Try.prog.cellsOf 3)) = xs[0]? := hf 0 _ rfl
  have h1 : DataW.trod enc Try.prog w base spare held m 3 (([c0, c1, c2, c3, c4, c5, c6, c7].drop 1).take (Try.prog.cellsOf 3)) = xs[1]? := hf 1 _ rfl
  have h2 : DataW.trod enc Try.prog w base spare held m 3 (([c0, c1, c2, c3, c4, c5, c6, c7].drop 2).take (Try.prog.cellsOf 3)) = xs[2]? := hf 2 _ rfl
  have h3 : DataW.trod enc Try.prog w base spare held m 45 (([c0, c1, c2, c3, c4, c5, c6, c7].drop 3).take (Try.prog.cellsOf 45)) = xs[3]? := hf 3 _ rfl
  rw [cells_one] at h0 h1 h2
  rw [cells_msg] at h3
  rw [List.getElem?_eq_getElem (by rw [hx]; decide)] at h0 h1 h2 h3
  obtain ⟨a0, e0, w0⟩ := int_w h0
  obtain ⟨a1, e1, w1⟩ := int_w h1
  obtain ⟨a2, e2, w2⟩ := int_w h2
  obtain ⟨a3, a4, a5, a6, a7, e3, w3⟩ := msg_w h3
  simp at e0 e1 e2 e3
  obtain ⟨rfl, rfl, rfl, rfl, rfl⟩ := e3
  subst e0 e1 e2
  exact ⟨⟨a0, a1, a2, ⟨a3, a4, a5, a6, a7⟩⟩, rfl, w0, w1, w2, w3⟩
set_option maxRecDepth 100000 in
theorem answer_w {n : Nat} {cs : List Value} {x : DataW H × List MemPlace} (h : DataW.trod enc Try.prog w base spare held n 71 cs = some x) : ∃ a : TP.An, cs = TP.anC a ∧ AnW a := by
  obtain ⟨xs, m, _, _, hl, hx, hf⟩ := DataW.trod_struct Try.underlying71 h
  rw [cells_an] at hl
  match cs, hl with
  | [c0, c1, c2, c3, c4, c5], _ =>
  have h0 : DataW.trod enc Try.prog w base spare held m 30 (([c0, c1, c2, c3, c4, c5].drop 0).take (Try.prog.cellsOf 30)) = xs[0]? := hf 0 _ rfl
  have h1 : DataW.trod enc Try.prog w base spare held m 3 (([c0, c1, c2, c3, c4, c5].drop 5).take (Try.prog.cellsOf 3)) = xs[1]? := hf 1 _ rfl
  rw [cells_one] at h1
  rw [cells_qu] at h0
  rw [List.getElem?_eq_getElem (by rw [hx]; decide)] at h0 h1
  obtain ⟨a0, a1, a2, a3, a4, e0, w0⟩ := qu_w h0
  obtain ⟨a5, e1, w1⟩ := int_w h1
  simp at e0 e1
  obtain ⟨rfl, rfl, rfl, rfl, rfl⟩ := e0
  subst e1
  exact ⟨(⟨a0, a1, a2, a3, a4⟩, a5), rfl, w0, w1⟩
theorem cells_at {α : Type} {E : RS.Enc α} {a : Addr} {i : Nat} {y : α} {cs : List Value} (h : w.cells? base (a.add (i * E.k)) E.k = some cs) (hc : cs = E.f y) : ∀ o u, (E.f y)[o]? = some u → w.cell? (a.add (i * E.k + o)) = some u := fun o u hu => by
  have ho : o < E.k := by rw [← E.len y]; exact (List.getElem?_eq_some_iff.1 hu).1
  have h2 := (World.cells?_some h).2.2 o ho
  rw [Deep.add_add] at h2
  rw [h2, hc]
  exact hu
set_option maxRecDepth 100000 in
/-- What a law is told of an argument of the type api.Tape. -/
theorem open_tape (hv : Value.okWide Try.prog w r b0 26 v) (h : DataW.Trod enc Try.prog w base spare held 26 v d ps) : ∃ (E : Option Addr) (ne ce : Nat) (A : Option Addr) (na ca : Nat) (es : List NM.Ev) (l : List TP.An), v = .agg #[.slice E ne ce, .slice A na ca] ∧ (RawR evE w E ne ce es ∧ ∀ e ∈ es, EvW e) ∧ (RawR anE w A na ca l ∧ ∀ a ∈ l, AnW a) := by
  obtain ⟨cs, rfl, _⟩ := okWide_struct Try.underlying26 hv
  obtain ⟨fuel, hf⟩ := h
  obtain ⟨xs, m, _, _, hl, hx, hff⟩ := DataW.trod_struct Try.underlying26 hf
  rw [cells_tape] at hl
  obtain ⟨cl⟩ := cs
  simp only [Value.cells] at hl hff
  match cl, hl with
  | [c0, c1], _ =>
  have h0 : DataW.trod enc Try.prog w base spare held m 23 (([c0, c1].drop 0).take (Try.prog.cellsOf 23)) = xs[0]? := hff 0 _ rfl
  have h1 : DataW.trod enc Try.prog w base spare held m 24 (([c0, c1].drop 1).take (Try.prog.cellsOf 24)) = xs[1]? := hff 1 _ rfl
  rw [cells_evs] at h0
  rw [cells_ans] at h1
  rw [List.getElem?_eq_getElem (by rw [hx]; decide)] at h0 h1
  have k0 : ∃ (E : Option Addr) (ne ce : Nat) (es : List NM.Ev), c0 = .slice E ne ce ∧ (RawR evE w E ne ce es ∧ ∀ e ∈ es, EvW e) := by
    rcases Deep.open_slice Try.underlying23 h0 with ⟨e, _⟩ | ⟨a, len, cap, q, n, D, Pl, e, _, hl, hm, hq, _, hel⟩
    · simp at e
      exact ⟨none, 0, 0, [], e, ⟨rfl, Nat.le_refl _, by simp [maxLen], .inl ⟨rfl, rfl⟩⟩, fun e he => by cases he⟩
    · simp at e
      have hlq : len ≤ q := by rw [hq]; split <;> omega
      obtain ⟨l, g1, g2, g3⟩ := rows_of (E := evE) (w := w) (a := a) (len := len) (Q := EvW) fun i hi => by
        obtain ⟨cs', h5, h6⟩ := hel i (by omega)
        obtain ⟨y, hy, hw⟩ := event_w h6
        rw [cells_ev] at h5
        exact ⟨y, hw, cells_at (E := evE) h5 hy⟩
      exact ⟨some a, len, cap, l, e, ⟨g1, hl, hm, .inr ⟨a, rfl, g3⟩⟩, g2⟩
  have k1 : ∃ (A : Option Addr) (na ca : Nat) (l : List TP.An), c1 = .slice A na ca ∧ (RawR anE w A na ca l ∧ ∀ a ∈ l, AnW a) := by
    rcases Deep.open_slice Try.underlying24 h1 with ⟨e, _⟩ | ⟨a, len, cap, q, n, D, Pl, e, _, hl, hm, hq, _, hel⟩
    · simp at e
      exact ⟨none, 0, 0, [], e, ⟨rfl, Nat.le_refl _, by simp [maxLen], .inl ⟨rfl, rfl⟩⟩, fun e he => by cases he⟩
    · simp at e
      have hlq : len ≤ q := by rw [hq]; split <;> omega
      obtain ⟨l, g1, g2, g3⟩ := rows_of (E := anE) (w := w) (a := a) (len := len) (Q := AnW) fun i hi => by
        obtain ⟨cs', h5, h6⟩ := hel i (by omega)
        obtain ⟨y, hy, hw⟩ := answer_w h6
        rw [cells_an] at h5
        exact ⟨y, hw, cells_at (E := anE) h5 hy⟩
      exact ⟨some a, len, cap, l, e, ⟨g1, hl, hm, .inr ⟨a, rfl, g3⟩⟩, g2⟩
  obtain ⟨E, ne, ce, es, rfl, k0⟩ := k0
  obtain ⟨A, na, ca, l, rfl, k1⟩ := k1
  exact ⟨E, ne, ce, A, na, ca, es, l, rfl, k0, k1⟩
end
end Go.Proofs.Ytiokiecnglmbnaa
