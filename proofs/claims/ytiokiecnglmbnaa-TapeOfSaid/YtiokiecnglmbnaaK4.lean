/-
  Go's == of causes, messages, events and questions. No condition.
  Tapes in memory: rows of answers and of events. No function of the program.
  A map from questions to positive numbers: what its block holds, and what the operations on it do. No function of the program.
  slices.Clone of events: a new row with the same events. Condition: the length.
  The reference's order of two lists of the same length.
  The reference's order of two lists of the same length, whose slices may have spare room; the reference's key of a question.
  The reference's order of questions. No condition.
  Go's == of answers. No condition.
  The operations on a map from questions to positive numbers, as arms of the walk. No function of the program.
  The contract of the reference model's Around: a number within bounds. Condition: the bound is positive.
-/
import Derived.Test.YtiokiecnglmbnaaK3
import Derived.Laws.StructEq
import Derived.ChangeKeysEq
import Derived.Test.YtiokiecnglmbnaaK6
import Derived.Maps.OwnSet
import Derived.Maps.RangeRun
import Derived.Test.YtiokiecnglmbnaaK16
import Derived.Lib.SliceRun
import Derived.BigQuiet
import Derived.Test.YtiokiecnglmbnaaK15

namespace Go.Proofs.Ytiokiecnglmbnaa
open Go Go.RowKit Go.Proofs
attribute [local go_sem] Oper.semAt_some

set_option maxRecDepth 100000 in
theorem eq_event (d : Nat) (k n a c h t i p k' n' a' c' h' t' i' p' : Int) (W : World) : (Op.equalIn (d + 4) 47 (.agg #[.int .i64 k, .int .i64 n, .int .i64 a, .int .i64 c, .int .i64 h, .int .i64 t, .int .i64 i, .int .i64 p]) (.agg #[.int .i64 k', .int .i64 n', .int .i64 a', .int .i64 c', .int .i64 h', .int .i64 t', .int .i64 i', .int .i64 p'])).run Try.prog W = .ok (k == k' && (n == n' && (a == a' && ((c == c' && (h == h' && t == t')) && (i == i' && p == p'))))) W := by
  have u3 := Try.underlying3
  have a3 := Try.isAgg3
  have z3 := Try.sizeOf3
  have a23 := Try.isAgg45
  have z23 := Try.sizeOf45
  have ht : Try.prog.underlying 47 = some (.struct (Try.prog.fieldsOf 47)) := by kernel_rfl
  have hp : Try.prog.stoodInHeld 47 = false := by kernel_rfl
  have hf : (Try.prog.fieldsOf 47).toList = [⟨"Kind", 3, 0, false, "", "", 0⟩, ⟨"Node", 3, 1, false, "", "", 8⟩, ⟨"Arg", 3, 2, false, "", "", 16⟩, ⟨"Msg", 45, 3, false, "", "", 24⟩] := by kernel_rfl
  have hq := eq_msg d c h t i p c' h' t' i' p'
  rw [run_equalIn_agg _ (d + 3) _ _ _ ht hp, hf]
  clear hf ht hp
  generalize ((c == c' && (h == h' && t == t')) && (i == i' && p == p')) = b at *
  cases e1 : k == k' <;> cases e2 : n == n' <;> cases e3 : a == a' <;> cases b <;> simp [Op.eqFields, go_sem, u3, a3, z3, a23, z23, hq, e1, e2, e3]
set_option maxRecDepth 100000 in
theorem eq_question (d : Nat) (c h t k i c' h' t' k' i' : Int) (W : World) : (Op.equalIn (d + 3) 30 (.agg #[.int .i64 c, .int .i64 h, .int .i64 t, .int .i64 k, .int .i64 i]) (.agg #[.int .i64 c', .int .i64 h', .int .i64 t', .int .i64 k', .int .i64 i'])).run Try.prog W = .ok ((c == c' && (h == h' && t == t')) && (k == k' && i == i')) W := by
  have u3 := Try.underlying3
  have a3 := Try.isAgg3
  have z3 := Try.sizeOf3
  have a23 := Try.isAgg28
  have z23 := Try.sizeOf28
  have ht : Try.prog.underlying 30 = some (.struct (Try.prog.fieldsOf 30)) := by kernel_rfl
  have hp : Try.prog.stoodInHeld 30 = false := by kernel_rfl
  have hf : (Try.prog.fieldsOf 30).toList = [⟨"Cause", 28, 0, false, "", "", 0⟩, ⟨"Kind", 3, 3, false, "", "", 24⟩, ⟨"Index", 3, 4, false, "", "", 32⟩] := by kernel_rfl
  have hq := eq_cause d c h t c' h' t'
  rw [run_equalIn_agg _ (d + 2) _ _ _ ht hp, hf]
  clear hf ht hp
  generalize (c == c' && (h == h' && t == t')) = b at *
  cases b <;> cases e2 : k == k' <;> cases e3 : i == i' <;> simp [Op.eqFields, go_sem, u3, a3, z3, a23, z23, hq, e2, e3]
theorem eqE_any (x y : NM.Ev) (W : World) : (binOp .eql 47 (evV x) (evV y)).run Try.prog W = .ok (.bool (decide (x = y))) W := by
  obtain ⟨k, n, a, c, h, t, i, p⟩ := x
  obtain ⟨k', n', a', c', h', t', i', p'⟩ := y
  rw [run_eql_struct, show (10000 : Nat) = 9996 + 4 from rfl, eq_event]
  show Result.ok (Value.bool _) W = _
  congr 2
  rw [Bool.eq_iff_iff]
  simp [and_assoc]
theorem eqQ_any (x y : NM.Qu) (W : World) : (binOp .eql 30 (quV x) (quV y)).run Try.prog W = .ok (.bool (decide (x = y))) W := by
  obtain ⟨c, h, t, k, i⟩ := x
  obtain ⟨c', h', t', k', i'⟩ := y
  rw [run_eql_struct, show (10000 : Nat) = 9997 + 3 from rfl, eq_question]
  show Result.ok (Value.bool _) W = _
  congr 2
  rw [Bool.eq_iff_iff]
  simp [and_assoc]
theorem neE_any (x y : NM.Ev) (W : World) : (binOp .neq 47 (evV x) (evV y)).run Try.prog W = .ok (.bool (!decide (x = y))) W := by
  obtain ⟨k, n, a, c, h, t, i, p⟩ := x
  obtain ⟨k', n', a', c', h', t', i', p'⟩ := y
  rw [run_neq_struct, show (10000 : Nat) = 9996 + 4 from rfl, eq_event]
  show Result.ok (Value.bool _) W = _
  congr 3
  rw [Bool.eq_iff_iff]
  simp [and_assoc]
theorem neQ_any (x y : NM.Qu) (W : World) : (binOp .neq 30 (quV x) (quV y)).run Try.prog W = .ok (.bool (!decide (x = y))) W := by
  obtain ⟨c, h, t, k, i⟩ := x
  obtain ⟨c', h', t', k', i'⟩ := y
  rw [run_neq_struct, show (10000 : Nat) = 9997 + 3 from rfl, eq_question]
  show Result.ok (Value.bool _) W = _
  congr 3
  rw [Bool.eq_iff_iff]
  simp [and_assoc]
end Go.Proofs.Ytiokiecnglmbnaa

namespace Go.Proofs.Ytiokiecnglmbnaa
open Go Go.RowKit Go.Proofs

/-- The cells of an answer. -/
def AnAt (w : World) (g j : Nat) (x : TP.An) : Prop := w.cell? ⟨g, j * 6, none⟩ = some (.int .i64 x.1.c) ∧ w.cell? ⟨g, j * 6 + 1, none⟩ = some (.int .i64 x.1.h) ∧ w.cell? ⟨g, j * 6 + 2, none⟩ = some (.int .i64 x.1.t) ∧ w.cell? ⟨g, j * 6 + 3, none⟩ = some (.int .i64 x.1.k) ∧ w.cell? ⟨g, j * 6 + 4, none⟩ = some (.int .i64 x.1.i) ∧ w.cell? ⟨g, j * 6 + 5, none⟩ = some (.int .i64 x.2)
/-- The cells of an event. -/
def EvAt (w : World) (g j : Nat) (e : NM.Ev) : Prop := w.cell? ⟨g, j * 8, none⟩ = some (.int .i64 e.k) ∧ w.cell? ⟨g, j * 8 + 1, none⟩ = some (.int .i64 e.n) ∧ w.cell? ⟨g, j * 8 + 2, none⟩ = some (.int .i64 e.a) ∧ w.cell? ⟨g, j * 8 + 3, none⟩ = some (.int .i64 e.m.c) ∧ w.cell? ⟨g, j * 8 + 4, none⟩ = some (.int .i64 e.m.h) ∧ w.cell? ⟨g, j * 8 + 5, none⟩ = some (.int .i64 e.m.t) ∧ w.cell? ⟨g, j * 8 + 6, none⟩ = some (.int .i64 e.m.i) ∧ w.cell? ⟨g, j * 8 + 7, none⟩ = some (.int .i64 e.m.p)
/-- A slice of answers, from its block's start. -/
def Ans (w : World) (A : Option Addr) (n : Nat) (l : List TP.An) : Prop := l.length = n ∧ (0 < n → ∃ g, A = some ⟨g, 0, none⟩ ∧ g < w.heap.size ∧ ∀ j x, l[j]? = some x → AnAt w g j x)
/-- A slice of events, from its block's start. -/
def Evs (w : World) (A : Option Addr) (n : Nat) (l : List NM.Ev) : Prop := l.length = n ∧ (0 < n → ∃ g, A = some ⟨g, 0, none⟩ ∧ g < w.heap.size ∧ ∀ j x, l[j]? = some x → EvAt w g j x)
theorem AnAt.keep {w w' : World} {g j B : Nat} {x : TP.An} (h : AnAt w g j x) (hg : g < B) (hb : Below B w w') : AnAt w' g j x := by
  obtain ⟨h0, h1, h2, h3, h4, h5⟩ := h
  exact ⟨(hb.cell hg).trans h0, (hb.cell hg).trans h1, (hb.cell hg).trans h2, (hb.cell hg).trans h3, (hb.cell hg).trans h4, (hb.cell hg).trans h5⟩
theorem EvAt.keep {w w' : World} {g j B : Nat} {x : NM.Ev} (h : EvAt w g j x) (hg : g < B) (hb : Below B w w') : EvAt w' g j x := by
  obtain ⟨h0, h1, h2, h3, h4, h5, h6, h7⟩ := h
  exact ⟨(hb.cell hg).trans h0, (hb.cell hg).trans h1, (hb.cell hg).trans h2, (hb.cell hg).trans h3, (hb.cell hg).trans h4, (hb.cell hg).trans h5, (hb.cell hg).trans h6, (hb.cell hg).trans h7⟩
theorem Ans.keep {w w' : World} {A : Option Addr} {n : Nat} {l : List TP.An} (h : Ans w A n l) (hb : Below w.heap.size w w') : Ans w' A n l :=
  ⟨h.1, fun hn => by
    obtain ⟨g, e, hg, hx⟩ := h.2 hn
    exact ⟨g, e, Nat.lt_of_lt_of_le hg hb.size, fun j x hj => (hx j x hj).keep hg hb⟩⟩
theorem Evs.keep {w w' : World} {A : Option Addr} {n : Nat} {l : List NM.Ev} (h : Evs w A n l) (hb : Below w.heap.size w w') : Evs w' A n l :=
  ⟨h.1, fun hn => by
    obtain ⟨g, e, hg, hx⟩ := h.2 hn
    exact ⟨g, e, Nat.lt_of_lt_of_le hg hb.size, fun j x hj => (hx j x hj).keep hg hb⟩⟩
end Go.Proofs.Ytiokiecnglmbnaa

namespace Go.Proofs.Ytiokiecnglmbnaa
open Go Go.RowKit Go.Proofs Go.MapKept
open Go.ChangeMaps (setBlock heap_setBlock_same heap_setBlock_other modify_eq_set)
attribute [local go_sem] Oper.semAt_some

theorem quV_inj {a b : NM.Qu} (h : quV a = quV b) : a = b := by
  obtain ⟨c, h, t, k, i⟩ := a
  obtain ⟨c', h', t', k', i'⟩ := b
  simp at h
  simp [h]
theorem check_int (em : Bool) (d : Nat) (x : Int) (W : World) : (Instr.checkKey em (d + 1) 3 (.int .i64 x)).run Try.prog W = .ok () W := by
  simp [Instr.checkKey, go_sem]
set_option maxRecDepth 100000 in
theorem check_cause (em : Bool) (d : Nat) (c h t : Int) (W : World) : (Instr.checkKey em (d + 2) 28 (.agg #[.int .i64 c, .int .i64 h, .int .i64 t])).run Try.prog W = .ok () W := by
  have hi := fun x => check_int em d x W
  have a3 := Try.isAgg3
  have z3 := Try.sizeOf3
  have ht : Try.prog.underlying 28 = some (.struct (Try.prog.fieldsOf 28)) := by kernel_rfl
  have hf : (Try.prog.fieldsOf 28).toList = [⟨"Node", 3, 0, false, "", "", 0⟩, ⟨"Handler", 3, 1, false, "", "", 8⟩, ⟨"Count", 3, 2, false, "", "", 16⟩] := by kernel_rfl
  rw [show d + 2 = (d + 1) + 1 from rfl, Instr.checkKey]
  simp only [Sem.run_bind, run_underlying ht, Result.andThen_ok]
  rw [← Array.forIn_toList, hf]
  simp [hi, go_sem, a3, z3]
set_option maxRecDepth 100000 in
theorem check_que' (em : Bool) (d : Nat) (q : NM.Qu) (W : World) : (Instr.checkKey em (d + 3) 30 (quV q)).run Try.prog W = .ok () W := by
  obtain ⟨c, h, t, k, i⟩ := q
  have hi := fun x => check_int em (d + 1) x W
  have a3 := Try.isAgg3
  have z3 := Try.sizeOf3
  have a23 := Try.isAgg28
  have z23 := Try.sizeOf28
  have ht : Try.prog.underlying 30 = some (.struct (Try.prog.fieldsOf 30)) := by kernel_rfl
  have hf : (Try.prog.fieldsOf 30).toList = [⟨"Cause", 28, 0, false, "", "", 0⟩, ⟨"Kind", 3, 3, false, "", "", 24⟩, ⟨"Index", 3, 4, false, "", "", 32⟩] := by kernel_rfl
  have hc := check_cause em d c h t W
  rw [show d + 3 = (d + 2) + 1 from rfl, Instr.checkKey]
  simp only [Sem.run_bind, run_underlying ht, Result.andThen_ok]
  rw [← Array.forIn_toList, hf]
  simp [hi, go_sem, a3, z3, a23, z23, hc]
theorem check_que (em : Bool) (q : NM.Qu) (W : World) : (Instr.checkKey em 10000 30 (quV q)).run Try.prog W = .ok () W := check_que' em 9997 q W
theorem equal_que (x y : NM.Qu) (W : World) : (Op.equal 30 (quV x) (quV y)).run Try.prog W = .ok (decide (x = y)) W := by
  obtain ⟨c, h, t, k, i⟩ := x
  obtain ⟨c', h', t', k', i'⟩ := y
  show (Op.equalIn (9997 + 3) _ _ _).run _ _ = _
  rw [eq_question]
  congr 1
  rw [Bool.eq_iff_iff]
  simp [and_assoc]
theorem stays_que (q : NM.Qu) (W : World) : (Instr.keyThatStays (quV q) (quV q)).run Try.prog W = .ok (quV q) W := by
  have h : Instr.sameBits 10000 (quV q) (quV q) = true := by
    rw [show (10000 : Nat) = 9999 + 1 from rfl]
    simp [Instr.sameBits]
  simp [Instr.keyThatStays, h]
/-- The look among entries whose keys are questions. -/
theorem asking_que (q : NM.Qu) (W : World) : ∀ (es : List MapEntry) (i : Nat), (∀ e ∈ es, ∃ r, e.key = quV r) →
    ((Instr.findAsking 30 (quV q) es i).run Try.prog W = .ok none W ∧ ∀ e ∈ es, e.key ≠ quV q) ∨
    ∃ j e, (Instr.findAsking 30 (quV q) es i).run Try.prog W = .ok (some (i + j, e.val)) W ∧ es[j]? = some e ∧ e.key = quV q
  | [], i, _ => .inl ⟨by simp [Instr.findAsking], by simp⟩
  | e :: es, i, h => by
    obtain ⟨r, hr⟩ := h e (by simp)
    have he := equal_que q r W
    rw [← hr] at he
    by_cases hq : q = r
    · subst hq
      rw [decide_eq_true rfl] at he
      exact .inr ⟨0, e, by simp [Instr.findAsking, he], rfl, hr⟩
    · rw [decide_eq_false hq] at he
      rcases asking_que q W es (i + 1) (fun y hy => h y (by simp [hy])) with ⟨h1, h2⟩ | ⟨j, e', h1, h2, h3⟩
      · refine .inl ⟨by simp [Instr.findAsking, he, h1], fun y hy => ?_⟩
        rcases List.mem_cons.1 hy with rfl | hy
        · rw [hr]
          exact fun e => hq (quV_inj e).symm
        · exact h2 y hy
      · exact .inr ⟨j + 1, e', by simp [Instr.findAsking, he, h1, Nat.add_assoc, Nat.add_comm 1 j], by simpa using h2, h3⟩
theorem find_que (q : NM.Qu) (W : World) (es : List MapEntry) (h : ∀ e ∈ es, ∃ r, e.key = quV r) :
    ((Instr.findKey 30 (quV q) es).run Try.prog W = .ok none W ∧ ∀ e ∈ es, e.key ≠ quV q) ∨
    ∃ j e, (Instr.findKey 30 (quV q) es).run Try.prog W = .ok (some (j, e.val)) W ∧ es[j]? = some e ∧ e.key = quV q := by
  have ht : Try.prog.underlying 30 = some (.struct (Try.prog.fieldsOf 30)) := by kernel_rfl
  cases es with
  | nil => exact .inl ⟨by simp [Instr.findKey, run_underlying ht, Instr.findNow, Result.andThen], by simp⟩
  | cons e es =>
    have hn : Instr.findNow (.struct (Try.prog.fieldsOf 30)) (quV q) (e :: es) 0 = none := by
      unfold Instr.findNow
      simp [Instr.sameNow]
    rcases asking_que q W (e :: es) 0 h with ⟨h1, h2⟩ | ⟨j, e', h1, h2, h3⟩
    · exact .inl ⟨by simp only [Instr.findKey, Sem.run_bind, run_underlying ht, Result.andThen_ok, hn, h1], h2⟩
    · exact .inr ⟨j, e', by simp only [Instr.findKey, Sem.run_bind, run_underlying ht, Result.andThen_ok, hn, h1, Nat.zero_add], h2, h3⟩

/-- The entries of a map that holds f's positive answers. -/
structure EsQ (es : Array MapEntry) (clock : Nat) (f : NM.Qu → Int) : Prop where
  st : Stamped es clock
  val : ∀ x ∈ es.toList, ∃ q, x.key = quV q ∧ x.val = .int .i64 (f q) ∧ 0 < f q
  all : ∀ q, 0 < f q → ∃ x ∈ es.toList, x.key = quV q
/-- Block B is a map with f's positive answers, of at most n entries. -/
def MapQ (w : World) (B : Nat) (f : NM.Qu → Int) (n : Nat) : Prop := ∃ es clock, w.heap[B]? = some (.map es clock) ∧ EsQ es clock f ∧ es.size ≤ n
theorem EsQ.keys {es : Array MapEntry} {clock : Nat} {f : NM.Qu → Int} (h : EsQ es clock f) : ∀ e ∈ es.toList, ∃ r, e.key = quV r := fun e he => by
  obtain ⟨q, h1, _⟩ := h.val e he
  exact ⟨q, h1⟩
theorem EsQ.none {es : Array MapEntry} {clock : Nat} {f : NM.Qu → Int} {q : NM.Qu} (h : EsQ es clock f) (hn : ∀ e ∈ es.toList, e.key ≠ quV q) : ¬ 0 < f q := fun hp => by
  obtain ⟨x, hx, e⟩ := h.all q hp
  exact hn x hx e
theorem EsQ.some {es : Array MapEntry} {clock : Nat} {f : NM.Qu → Int} {q : NM.Qu} {e : MapEntry} {j : Nat} (h : EsQ es clock f) (hj : es.toList[j]? = some e) (he : e.key = quV q) : e.val = .int .i64 (f q) ∧ 0 < f q := by
  obtain ⟨r, h1, h2, h3⟩ := h.val e (List.mem_of_getElem? hj)
  obtain rfl := quV_inj (h1.symm.trans he)
  exact ⟨h2, h3⟩
theorem MapQ.lt {w : World} {B n : Nat} {f : NM.Qu → Int} (h : MapQ w B f n) : B < w.heap.size := by
  obtain ⟨es, clock, hb, _⟩ := h
  exact (Array.getElem?_eq_some_iff.1 hb).1
theorem MapQ.of_block {w w' : World} {B n : Nat} {f : NM.Qu → Int} (h : MapQ w B f n) (hb : w'.heap[B]? = w.heap[B]?) : MapQ w' B f n := by
  obtain ⟨es, clock, h1, h2, h3⟩ := h
  exact ⟨es, clock, hb.trans h1, h2, h3⟩
theorem MapQ.mono {w : World} {B n m : Nat} {f : NM.Qu → Int} (h : MapQ w B f n) (hm : n ≤ m) : MapQ w B f m := by
  obtain ⟨es, clock, h1, h2, h3⟩ := h
  exact ⟨es, clock, h1, h2, Nat.le_trans h3 hm⟩
theorem MapQ.keep {w w' : World} {B n L : Nat} {f : NM.Qu → Int} (h : MapQ w B f n) (hL : B < L) (hb : Below L w w') : MapQ w' B f n := h.of_block (hb.block B hL)
theorem MapQ.made (w : World) : MapQ (w.alloc (.map #[] 0)) w.heap.size (fun _ => 0) 0 :=
  ⟨#[], 0, new_at rfl, ⟨stamped_empty 0, by simp, fun q h => absurd h (by decide)⟩, Nat.le_refl _⟩
theorem under_map : Try.prog.underlying 85 = some (.map 30 3) := by kernel_rfl
/-- m[q] -/
theorem MapQ.look {w : World} {B n : Nat} {f : NM.Qu → Int} (h : MapQ w B f n) (q : NM.Qu) (hq : 0 ≤ f q) (c : Bool) :
    (Instr.lookup 85 (.map (some B)) (quV q) c).run Try.prog w = .ok (if c then .tuple #[.int .i64 (f q), .bool (decide (0 < f q))] else .int .i64 (f q)) w := by
  obtain ⟨es, clock, hb, hE, _⟩ := h
  rcases find_que q w es.toList hE.keys with ⟨h1, h2⟩ | ⟨j, e, h1, h2, h3⟩
  · have hp := hE.none h2
    have h0 : f q = 0 := by omega
    rw [h0]
    simp [Instr.lookup, run_underlying under_map, MapKept.run_getObj_map hb, check_que, h1, Result.andThen]
  · obtain ⟨hv, hp⟩ := hE.some h2 h3
    simp [Instr.lookup, run_underlying under_map, MapKept.run_getObj_map hb, check_que, h1, hv, hp, Result.andThen]
/-- m[q] = v -/
theorem MapQ.store {w : World} {B n : Nat} {f : NM.Qu → Int} (h : MapQ w B f n) (q : NM.Qu) (v : Int) (hv : 0 < v) :
    ∃ w', (Instr.mapUpdate 85 (.map (some B)) (quV q) (.int .i64 v)).run Try.prog w = .ok () w' ∧ MapQ w' B (fun r => if r = q then v else f r) (n + 1) ∧ w.grownBy w' (some B) := by
  obtain ⟨es, clock, hb, hE, hs⟩ := h
  have hg : ∀ o, w.grownBy (setBlock w B o) (some B) := fun o => ⟨rfl, rfl, rfl, by simp [setBlock], fun i _ hi => heap_setBlock_other hb _ (fun e => hi (by rw [e]))⟩
  rcases find_que q w es.toList hE.keys with ⟨h1, h2⟩ | ⟨j, e0, h1, h2, h3⟩
  · refine ⟨setBlock w B (.map (es.push ⟨quV q, .int .i64 v, clock⟩) (clock + 1)), ?_, ⟨_, _, heap_setBlock_same hb _, ⟨stamped_push hE.st h2, fun x hx => ?_, fun r hr => ?_⟩, by simp; omega⟩, hg _⟩
    · simp [Instr.mapUpdate, run_underlying under_map, MapKept.run_getObj_map hb, check_que, h1, MapKept.run_setObj_map _ hb, Result.andThen, setBlock]
    · simp only [Array.toList_push, List.mem_append, List.mem_singleton] at hx
      rcases hx with hx | rfl
      · obtain ⟨r, k1, k2, k3⟩ := hE.val x hx
        have hrq : r ≠ q := fun e => h2 x hx (k1.trans (by rw [e]))
        exact ⟨r, k1, by rw [if_neg hrq]; exact k2, by rw [if_neg hrq]; exact k3⟩
      · exact ⟨q, rfl, by rw [if_pos rfl], by rw [if_pos rfl]; exact hv⟩
    · by_cases hrq : r = q
      · subst hrq
        exact ⟨_, by simp; exact .inr rfl, rfl⟩
      · rw [if_neg hrq] at hr
        obtain ⟨x, hx, e⟩ := hE.all r hr
        exact ⟨x, by simp; exact .inl (by simpa using hx), e⟩
  · have hj : es[j]? = some e0 := by simpa using h2
    have hlist : (es.modify j (fun e' => { e' with key := quV q, val := .int .i64 v })).toList = es.toList.set j { e0 with key := quV q, val := .int .i64 v } := by rw [Array.toList_modify, modify_eq_set _ _ _ _ h2]
    have hjl : j < es.toList.length := (List.getElem?_eq_some_iff.1 h2).1
    have hpw := ((stamped_iff es clock).1 hE.st).2.2
    have other : ∀ i x, es.toList[i]? = some x → i ≠ j → x.key ≠ quV q := fun i x hi hne => by
      have hp := List.pairwise_iff_getElem.1 hpw
      obtain ⟨hil, ei⟩ := List.getElem?_eq_some_iff.1 hi
      obtain ⟨_, ej⟩ := List.getElem?_eq_some_iff.1 h2
      rcases Nat.lt_or_gt_of_ne hne with hlt | hlt
      · have := hp i j hil hjl hlt
        rw [ei, ej, h3] at this
        exact this
      · have := hp j i hjl hil hlt
        rw [ei, ej, h3] at this
        exact fun e => this e.symm
    refine ⟨setBlock w B (.map (es.modify j (fun e' => { e' with key := quV q, val := .int .i64 v })) clock), ?_, ⟨_, _, heap_setBlock_same hb _, ⟨stamped_modify hE.st _ _ (fun _ _ => rfl) (fun e' _ he' => by rw [hj] at he'; cases he'; exact h3.symm), fun x hx => ?_, fun r hr => ?_⟩, by simp; omega⟩, hg _⟩
    · simp [Instr.mapUpdate, run_underlying under_map, MapKept.run_getObj_map hb, check_que, h1, hj, h3, stays_que, MapKept.run_setObj_map _ hb, Result.andThen, setBlock]
    · rw [hlist] at hx
      obtain ⟨i, hi, ex⟩ := List.getElem_of_mem hx
      rw [List.getElem_set] at ex
      split at ex
      · subst ex
        exact ⟨q, rfl, by rw [if_pos rfl], by rw [if_pos rfl]; exact hv⟩
      · rename_i hne
        have hi' : i < es.toList.length := by simpa using hi
        have hix : es.toList[i]? = some x := by rw [List.getElem?_eq_getElem hi', ex]
        obtain ⟨r, k1, k2, k3⟩ := hE.val x (List.mem_of_getElem? hix)
        have hrq : r ≠ q := fun e => other i x hix (fun e => hne e.symm) (k1.trans (by rw [e]))
        exact ⟨r, k1, by rw [if_neg hrq]; exact k2, by rw [if_neg hrq]; exact k3⟩
    · rw [hlist]
      by_cases hrq : r = q
      · subst hrq
        exact ⟨_, List.mem_iff_getElem.2 ⟨j, by simpa using hjl, by rw [List.getElem_set_self]⟩, rfl⟩
      · rw [if_neg hrq] at hr
        obtain ⟨x, hx, e⟩ := hE.all r hr
        obtain ⟨i, hi, ex⟩ := List.getElem_of_mem hx
        have hij : j ≠ i := fun e2 => by
          subst e2
          obtain ⟨_, ej⟩ := List.getElem?_eq_some_iff.1 h2
          rw [ej] at ex
          subst ex
          exact hrq (quV_inj (e.symm.trans h3))
        exact ⟨x, List.mem_iff_getElem.2 ⟨i, by simpa using hi, by rw [List.getElem_set_ne hij]; exact ex⟩, e⟩
/-- delete(m, q) -/
theorem MapQ.drop {w : World} {B n : Nat} {f : NM.Qu → Int} (h : MapQ w B f n) (q : NM.Qu) (ty : TypeId) :
    ∃ w', (Builtin.delete_ #[85, 30] ty #[.map (some B), quV q]).run Try.prog w = .ok (.tuple #[]) w' ∧ MapQ w' B (fun r => if r = q then 0 else f r) n ∧ w.grownBy w' (some B) := by
  obtain ⟨es, clock, hb, hE, hs⟩ := h
  have hg : ∀ o, w.grownBy (setBlock w B o) (some B) := fun o => ⟨rfl, rfl, rfl, by simp [setBlock], fun i _ hi => heap_setBlock_other hb _ (fun e => hi (by rw [e]))⟩
  rcases find_que q w es.toList hE.keys with ⟨h1, h2⟩ | ⟨j, e0, h1, h2, h3⟩
  · refine ⟨setBlock w B (.map es clock), ?_, ⟨_, _, heap_setBlock_same hb _, ⟨hE.st, fun x hx => ?_, fun r hr => ?_⟩, hs⟩, hg _⟩
    · simp [Builtin.delete_, run_underlying under_map, MapKept.run_getObj_map hb, check_que, h1, MapKept.run_setObj_map _ hb, Result.andThen, setBlock]
    · obtain ⟨r, k1, k2, k3⟩ := hE.val x hx
      have hrq : r ≠ q := fun e => h2 x hx (k1.trans (by rw [e]))
      exact ⟨r, k1, by rw [if_neg hrq]; exact k2, by rw [if_neg hrq]; exact k3⟩
    · by_cases hrq : r = q
      · rw [if_pos hrq] at hr
        exact absurd hr (by decide)
      · rw [if_neg hrq] at hr
        exact hE.all r hr
  · have hjl : j < es.toList.length := (List.getElem?_eq_some_iff.1 h2).1
    have hjs : j < es.size := by simpa using hjl
    have hsub : (es.eraseIdxIfInBounds j).toList = es.toList.eraseIdx j := by
      unfold Array.eraseIdxIfInBounds
      rw [dif_pos hjs]
      simp
    have hpw := ((stamped_iff es clock).1 hE.st).2.2
    have other : ∀ i x, es.toList[i]? = some x → i ≠ j → x.key ≠ quV q := fun i x hi hne => by
      have hp := List.pairwise_iff_getElem.1 hpw
      obtain ⟨hil, ei⟩ := List.getElem?_eq_some_iff.1 hi
      obtain ⟨_, ej⟩ := List.getElem?_eq_some_iff.1 h2
      rcases Nat.lt_or_gt_of_ne hne with hlt | hlt
      · have := hp i j hil hjl hlt
        rw [ei, ej, h3] at this
        exact this
      · have := hp j i hjl hil hlt
        rw [ei, ej, h3] at this
        exact fun e => this e.symm
    refine ⟨setBlock w B (.map (es.eraseIdxIfInBounds j) clock), ?_, ⟨_, _, heap_setBlock_same hb _, ⟨stamped_erase hE.st j, fun x hx => ?_, fun r hr => ?_⟩, Nat.le_trans (MapFrom.size_erase es j) hs⟩, hg _⟩
    · simp [Builtin.delete_, run_underlying under_map, MapKept.run_getObj_map hb, check_que, h1, MapKept.run_setObj_map _ hb, Result.andThen, setBlock]
    · rw [hsub] at hx
      obtain ⟨i, hne, hi⟩ := List.mem_eraseIdx_iff_getElem?.1 hx
      obtain ⟨r, k1, k2, k3⟩ := hE.val x (List.mem_of_getElem? hi)
      have hrq : r ≠ q := fun e => other i x hi hne (k1.trans (by rw [e]))
      exact ⟨r, k1, by rw [if_neg hrq]; exact k2, by rw [if_neg hrq]; exact k3⟩
    · by_cases hrq : r = q
      · rw [if_pos hrq] at hr
        exact absurd hr (by decide)
      · rw [if_neg hrq] at hr
        obtain ⟨x, hx, e⟩ := hE.all r hr
        obtain ⟨i, hi, ex⟩ := List.getElem_of_mem hx
        have hij : i ≠ j := fun e2 => by
          subst e2
          obtain ⟨_, ej⟩ := List.getElem?_eq_some_iff.1 h2
          rw [ej] at ex
          subst ex
          exact hrq (quV_inj (e.symm.trans h3))
        exact ⟨x, by rw [hsub]; exact List.mem_eraseIdx_iff_getElem?.2 ⟨i, hij, by rw [List.getElem?_eq_getElem hi, ex]⟩, e⟩
/-- How many questions have a positive answer: as many as the normal form has answers. -/
theorem EsQ.size {es : Array MapEntry} {clock : Nat} {t : List TP.An} (h : EsQ es clock (TP.getA t)) : es.size = (TP.normA t).length := by
  have hk : ((TP.normA t).map fun x => quV x.1).Perm (es.toList.map (·.key)) := by
    refine (List.perm_ext_iff_of_nodup ?_ ?_).2 fun v => ?_
    · refine List.pairwise_map.2 ((TP.norm_srt t).imp fun {a b} hab e => ?_)
      rw [quV_inj e] at hab
      exact TP.ltQ_irr _ hab
    · exact List.pairwise_map.2 ((stamped_iff es clock).1 h.st).2.2
    · rw [List.mem_map, List.mem_map]
      constructor
      · rintro ⟨x, hx, rfl⟩
        obtain ⟨h1, h2⟩ := TP.mem_norm.1 hx
        obtain ⟨y, hy, e⟩ := h.all x.1 (by rw [← h1]; exact h2)
        exact ⟨y, hy, e⟩
      · rintro ⟨y, hy, rfl⟩
        obtain ⟨q, h1, h2, h3⟩ := h.val y hy
        exact ⟨(q, TP.getA t q), TP.mem_norm.2 ⟨rfl, h3⟩, h1.symm⟩
  have := hk.length_eq
  simpa using this.symm
theorem MapQ.len {w : World} {B n : Nat} {t : List TP.An} (h : MapQ w B (TP.getA t) n) (ty : TypeId) :
    (Builtin.len_ #[85] ty #[.map (some B)]).run Try.prog w = .ok (.int .i64 ((TP.normA t).length : Int)) w := by
  obtain ⟨es, clock, hb, hE, _⟩ := h
  rw [← hE.size]
  simp [Builtin.len_, run_underlying under_map, MapKept.run_getObj_map hb, Result.andThen, goInt]
end Go.Proofs.Ytiokiecnglmbnaa

namespace Go.Proofs.Ytiokiecnglmbnaa
open Go Go.RowKit Go.Proofs
attribute [local go_sem] Oper.semAt_some

def evC (e : NM.Ev) : List Value := [.int .i64 e.k, .int .i64 e.n, .int .i64 e.a, .int .i64 e.m.c, .int .i64 e.m.h, .int .i64 e.m.t, .int .i64 e.m.i, .int .i64 e.m.p]
theorem evC_len (l : List NM.Ev) : (l.flatMap evC).length = l.length * 8 := by
  induction l with
  | nil => rfl
  | cons x t ih =>
    show (evC x ++ t.flatMap evC).length = _
    rw [List.length_append, ih, List.length_cons]
    show 8 + _ = _
    omega
theorem evC_one (l : List NM.Ev) : ∀ u ∈ l.flatMap evC, u.oneCell' = true := by
  intro u hu
  obtain ⟨x, _, h⟩ := List.mem_flatMap.1 hu
  simp [evC] at h
  rcases h with rfl | rfl | rfl | rfl | rfl | rfl | rfl | rfl <;> rfl
theorem evC_at : ∀ {l : List NM.Ev} {j o : Nat} {x : NM.Ev}, l[j]? = some x → o < 8 → (l.flatMap evC)[j * 8 + o]? = (evC x)[o]?
  | [], j, o, x, h, _ => by simp at h
  | y :: t, 0, o, x, h, ho => by
    simp only [List.getElem?_cons_zero, Option.some.injEq] at h
    subst h
    show (evC y ++ t.flatMap evC)[0 * 8 + o]? = _
    rw [Nat.zero_mul, Nat.zero_add, List.getElem?_append_left (by exact ho)]
  | y :: t, j + 1, o, x, h, ho => by
    show (evC y ++ t.flatMap evC)[(j + 1) * 8 + o]? = _
    rw [List.getElem?_append_right (by show 8 ≤ _; omega), show (j + 1) * 8 + o - (evC y).length = j * 8 + o by show _ - 8 = _; omega]
    exact evC_at (by simpa using h) ho
theorem evC_get : ∀ {l : List NM.Ev} {i : Nat} {u : Value}, (l.flatMap evC)[i]? = some u → ∃ j o x, i = j * 8 + o ∧ o < 8 ∧ l[j]? = some x ∧ (evC x)[o]? = some u
  | [], i, u, h => by simp at h
  | x :: t, i, u, h => by
    have h' : (evC x ++ t.flatMap evC)[i]? = some u := h
    by_cases hi : i < 8
    · rw [List.getElem?_append_left (by exact hi)] at h'
      exact ⟨0, i, x, by omega, hi, rfl, h'⟩
    · rw [List.getElem?_append_right (by show 8 ≤ i; omega)] at h'
      obtain ⟨j, o, y, h1, h2, h3, h4⟩ := evC_get (l := t) (i := i - 8) h'
      exact ⟨j + 1, o, y, by omega, h2, by simpa using h3, h4⟩
theorem EvAt.get {w : World} {g j o : Nat} {x : NM.Ev} {u : Value} (h : EvAt w g j x) (hu : (evC x)[o]? = some u) : w.cell? ⟨g, j * 8 + o, none⟩ = some u := by
  obtain ⟨h0, h1, h2, h3, h4, h5, h6, h7⟩ := h
  match o, hu with
  | 0, hu => injection hu with hu; subst hu; exact h0
  | 1, hu => injection hu with hu; subst hu; exact h1
  | 2, hu => injection hu with hu; subst hu; exact h2
  | 3, hu => injection hu with hu; subst hu; exact h3
  | 4, hu => injection hu with hu; subst hu; exact h4
  | 5, hu => injection hu with hu; subst hu; exact h5
  | 6, hu => injection hu with hu; subst hu; exact h6
  | 7, hu => injection hu with hu; subst hu; exact h7
theorem evs_src {V : World} {A : Option Addr} {n : Nat} {l : List NM.Ev} (h : Evs V A n l) {ad : Addr} (e : A = some ad) : ∀ j u, (l.flatMap evC)[j]? = some u → V.cell? (ad.add j) = some u := fun j u hu => by
  obtain ⟨q, o, x, rfl, _, h3, h4⟩ := evC_get hu
  have hn : 0 < n := by
    rw [← h.1]
    have := (List.getElem?_eq_some_iff.1 h3).1
    omega
  obtain ⟨g, e2, _, hx⟩ := h.2 hn
  rw [e] at e2
  injection e2 with e2
  subst e2
  rw [Addr.add_lit, Nat.zero_add]
  exact (hx _ x h3).get h4
theorem evs_of_own {w : World} {base m c : Nat} {B : Option Addr} {L : List NM.Ev} (h : w.ownsRow base 47 8 (.slice B m c) m (L.flatMap evC)) (hL : L.length = m) : Evs w B m L := by
  refine ⟨hL, fun hm => ?_⟩
  obtain ⟨g, cap, hv, _, hlt⟩ := h.form hm
  injection hv with hB
  subst hB
  refine ⟨g, rfl, hlt, fun j x hj => ?_⟩
  have key : ∀ o, o < 8 → ∀ u, (evC x)[o]? = some u → w.cell? ⟨g, j * 8 + o, none⟩ = some u := fun o ho u hu => by
    have := h.cells (g := g) rfl (j * 8 + o) u (by rw [evC_at hj ho]; exact hu)
    rw [Addr.add_lit, Nat.zero_add] at this
    exact this
  exact ⟨key 0 (by omega) _ rfl, key 1 (by omega) _ rfl, key 2 (by omega) _ rfl, key 3 (by omega) _ rfl, key 4 (by omega) _ rfl, key 5 (by omega) _ rfl, key 6 (by omega) _ rfl, key 7 (by omega) _ rfl⟩
theorem info_event : (Try.prog.info? 47).map (fun i => (i.zero, i.size, i.bytes)) = some (some (.agg #[.int .i64 0, .int .i64 0, .int .i64 0, .int .i64 0, .int .i64 0, .int .i64 0, .int .i64 0, .int .i64 0]), 8, 64) := by kernel_rfl
theorem info_splitE {P : Program} {t : TypeId} {z : Option Value} {s b : Nat} (h : (P.info? t).map (fun i => (i.zero, i.size, i.bytes)) = some (z, s, b)) : ∃ i, P.info? t = some i ∧ i.zero = z ∧ i.size = s ∧ i.bytes = b := by
  cases hi : P.info? t with
  | none => rw [hi] at h; cases h
  | some i =>
    rw [hi] at h
    injection h with h
    injection h with h1 h2
    injection h2 with h2 h3
    exact ⟨i, rfl, h1, h2, h3⟩
theorem ownsRow_zero {w : World} {e : TypeId} {size : Nat} (C : Array Value) (hC : C.size = 0) : (w.alloc (.cells C e)).ownsRow w.heap.size e size (.slice (some ⟨w.heap.size, 0, none⟩) 0 0) 0 [] := by
  refine ⟨by simp, .inr ⟨w.heap.size, 0, C, rfl, Nat.le_refl _, World.alloc_heap_new w _, Nat.le_refl _, Nat.zero_le _, by omega, by simp⟩⟩
set_option maxHeartbeats 2000000 in
set_option maxRecDepth 100000 in
theorem cloneE_any {A : Option Addr} {n c : Nat} {l : List NM.Ev} (w : World) (h : Evs w A n l) (hA : A = none → n = 0 ∧ c = 0) (bn : n ≤ 1000000) :
    Calls Try.prog 70 #[.slice A n c] w fun e w' => ∃ A' c', e = .returned (.slice A' n c') ∧ w'.ownsRow w.heap.size 47 8 (.slice A' n c') n (l.flatMap evC) ∧ (A' = none → n = 0 ∧ c' = 0) ∧ Below w.heap.size w w' := by
  obtain ⟨i0, hi0, hz0, hs0, hb0⟩ := info_splitE info_event
  rcases A with _ | ad
  · obtain ⟨rfl, rfl⟩ := hA rfl
    have hl : l = [] := List.eq_nil_of_length_eq_zero h.1
    subst hl
    have he := run_eql_nil_slice (P := Try.prog) w 23 47 none 0 0 0 0 Try.underlying23
    go_enter Try.func70, Try.ntmps70
    go_wp2
    go_ret
    exact ⟨none, 0, rfl, World.ownsRow_nil _ _ _ _, by simp, Below.refl _ _⟩
  · have hsrc := fun (V : World) (hV : Below w.heap.size w V) => evs_src (h.keep hV) (rfl : (some ad : Option Addr) = some ad)
    have HS := Lib.hid hsrc
    have HL := Lib.hid h.1
    clear hsrc h
    have he := Lib.run_eql_slice_nil (P := Try.prog) w 23 47 (some ad) n c 0 0 Try.underlying23
    go_enter Try.func70, Try.ntmps70
    go_wp2_with (at_builtin
                 refine RgX.wpList_append_any rfl _ _ 23 rfl w.heap.size 47 i0 _ 8 64 Try.underlying23 hi0 hz0 hs0 hb0 rfl (by decide) (.slice (some ⟨w.heap.size, 0, none⟩) 0 0) 0 [] rfl (ownsRow_zero _ rfl) (some ad) n c (l.flatMap evC) rfl (by rw [evC_len, HL.out]) (.inr ⟨ad, rfl, HS.out _ ((Below.refl _ w).alloc (Nat.le_refl _) _)⟩) (evC_one _) (by simp only [maxLen]; omega) (by omega) (by simp) ?_
                 intro B' c' w2 hown' hgrow)
    go_ret
    rw [List.nil_append] at hown'
    simp only [Nat.zero_add] at hown' ⊢
    refine ⟨B', c', rfl, hown', fun e => ?_, ((Below.refl _ _).alloc (Nat.le_refl _) _).grown hgrow (by simp) (fun k e => by have e2 : some w.heap.size = some k := e; injection e2 with e2; omega)⟩
    rcases hown'.2 with ⟨h1, h2⟩ | ⟨g, cap, cur, h1, _⟩
    · injection h1 with _ _ h3
      exact ⟨h2, h3⟩
    · injection h1 with h1
      rw [e] at h1
      cases h1
end Go.Proofs.Ytiokiecnglmbnaa

namespace Go.Proofs.Ytiokiecnglmbnaa
open Go Go.RowKit Go.Proofs
attribute [local go_sem] Oper.semAt_some

theorem lexL_drop {l r : List Int} {k : Nat} {x y : Int} (hx : l[k]? = some x) (hy : r[k]? = some y) : NM.lexL (l.drop k) (r.drop k) = NM.orI (NM.cmpI x y) (NM.lexL (l.drop (k + 1)) (r.drop (k + 1))) := by
  obtain ⟨h1, e1⟩ := List.getElem?_eq_some_iff.1 hx
  obtain ⟨h2, e2⟩ := List.getElem?_eq_some_iff.1 hy
  rw [List.drop_eq_getElem_cons h1, List.drop_eq_getElem_cons h2, e1, e2]
  rfl
set_option maxRecDepth 100000 in
set_option maxHeartbeats 4000000 in
theorem lists_any {g1 g2 n : Nat} {t1 t2 : TypeId} (l r : List Int) (w : World) (hl : w.heap[g1]? = some (.cells (l.map (Value.int .i64)).toArray t1 (0, 0))) (hr : w.heap[g2]? = some (.cells (r.map (Value.int .i64)).toArray t2 (0, 0))) (nl : l.length = n) (nr : r.length = n) (hn : n ≤ 100) :
    Calls Try.prog 85 #[.slice (some ⟨g1, 0, none⟩) n n, .slice (some ⟨g2, 0, none⟩) n n] w fun e w' => e = .returned (.int .i64 (NM.lexL l r)) ∧ Below w.heap.size w w' := by
  have H1 := Lib.hid hl
  have H2 := Lib.hid hr
  have N1 := Lib.hid nl
  have N2 := Lib.hid nr
  clear hl hr nl nr
  go_enter Try.func85, Try.ntmps85
  go_wp2_with fail
  go_loopw [5] (fun i V => ∃ k : Nat, k ≤ n ∧ i = .int .i64 (k : Int) ∧ Hid (NM.lexL l r = NM.lexL (l.drop k) (r.drop k)) ∧ Below w.heap.size w V) (fun i _ => n - (intOf i).toNat)
  case atStart => exact ⟨0, by omega, rfl, by show NM.lexL l r = NM.lexL (l.drop 0) (r.drop 0); rfl, Below.refl _ _⟩
  case round =>
    obtain ⟨k, hk, rfl, HE, hB⟩ := hrel
    have HB := Lib.hid hB
    clear hB
    by_cases hlt : k < n
    · obtain ⟨x, hx⟩ : ∃ x, l[k]? = some x := ⟨_, List.getElem?_eq_getElem (by rw [N1.out]; exact hlt)⟩
      obtain ⟨y, hy⟩ : ∃ y, r[k]? = some y := ⟨_, List.getElem?_eq_getElem (by rw [N2.out]; exact hlt)⟩
      have c1 : wr.cell? ⟨g1, k, none⟩ = some (.int .i64 x) := by
        have h := (HB.out.cell (p := ⟨g1, k, none⟩) (heap_lt H1.out)).trans (cell_of_row w g1 k _ _ (0, 0) H1.out)
        rw [List.getElem?_toArray, List.getElem?_map, hx] at h
        exact h
      have c2 : wr.cell? ⟨g2, k, none⟩ = some (.int .i64 y) := by
        have h := (HB.out.cell (p := ⟨g2, k, none⟩) (heap_lt H2.out)).trans (cell_of_row w g2 k _ _ (0, 0) H2.out)
        rw [List.getElem?_toArray, List.getElem?_map, hy] at h
        exact h
      have HD := Lib.hid (HE.out.trans (lexL_drop hx hy))
      clear hx hy HE
      by_cases hxy : x < y
      · have HR := Lib.hid (show NM.lexL l r = -1 by rw [HD.out]; unfold NM.cmpI NM.orI; rw [if_pos hxy, if_neg (by decide)])
        have d1 : decide (x < y) = true := decide_eq_true hxy
        clear HD
        go_wp2_with (go_quiet (fail))
        go_ret
        exact ⟨by rw [HR.out]; rfl, HB.out.trans ((drewN_below wr _).mono HB.out.size)⟩
      · have d1 : decide (x < y) = false := decide_eq_false hxy
        by_cases hyx : y < x
        · have HR := Lib.hid (show NM.lexL l r = 1 by rw [HD.out]; unfold NM.cmpI NM.orI; rw [if_neg hxy, if_pos hyx, if_neg (by decide)])
          have d2 : decide (x > y) = true := decide_eq_true hyx
          clear HD
          go_wp2_with (go_quiet (fail))
          go_ret
          exact ⟨by rw [HR.out]; rfl, HB.out.trans ((drewN_below wr _).mono HB.out.size)⟩
        · have HR := Lib.hid (show NM.lexL l r = NM.lexL (l.drop (k + 1)) (r.drop (k + 1)) by rw [HD.out]; unfold NM.cmpI NM.orI; rw [if_neg hxy, if_neg hyx, if_pos rfl])
          have d2 : decide (x > y) = false := decide_eq_false hyx
          clear HD
          go_wp2_with (go_quiet (fail))
          go_roundw
          case rel => exact ⟨k + 1, by omega, by go_num, HR, HB.out.trans ((drewN_below wr _).mono HB.out.size)⟩
          case measure => simp [intOf]; omega
    · obtain rfl : k = n := by omega
      have HR := Lib.hid (show NM.lexL l r = 0 by rw [HE.out, List.drop_eq_nil_of_le (by rw [N1.out]; exact Nat.le_refl _), List.drop_eq_nil_of_le (by rw [N2.out]; exact Nat.le_refl _)]; rfl)
      clear HE
      go_wp2_with fail
      go_ret
      exact ⟨by rw [HR.out]; rfl, HB.out⟩
end Go.Proofs.Ytiokiecnglmbnaa

namespace Go.Proofs.Ytiokiecnglmbnaa
open Go Go.RowKit Go.Proofs
attribute [local go_sem] Oper.semAt_some

set_option maxRecDepth 100000 in
set_option maxHeartbeats 4000000 in
theorem lists_spare {g1 g2 n m1 m2 : Nat} (l r : List Int) (w : World) (hl : g1 < w.heap.size ∧ ∀ j x, l[j]? = some x → w.cell? ⟨g1, j, none⟩ = some (.int .i64 x)) (hr : g2 < w.heap.size ∧ ∀ j x, r[j]? = some x → w.cell? ⟨g2, j, none⟩ = some (.int .i64 x)) (nl : l.length = n) (nr : r.length = n) (hn : n ≤ 100) :
    Calls Try.prog 85 #[.slice (some ⟨g1, 0, none⟩) n m1, .slice (some ⟨g2, 0, none⟩) n m2] w fun e w' => e = .returned (.int .i64 (NM.lexL l r)) ∧ Below w.heap.size w w' := by
  have H1 := Lib.hid hl
  have H2 := Lib.hid hr
  have N1 := Lib.hid nl
  have N2 := Lib.hid nr
  clear hl hr nl nr
  go_enter Try.func85, Try.ntmps85
  go_wp2_with fail
  go_loopw [5] (fun i V => ∃ k : Nat, k ≤ n ∧ i = .int .i64 (k : Int) ∧ Hid (NM.lexL l r = NM.lexL (l.drop k) (r.drop k)) ∧ Below w.heap.size w V) (fun i _ => n - (intOf i).toNat)
  case atStart => exact ⟨0, by omega, rfl, by show NM.lexL l r = NM.lexL (l.drop 0) (r.drop 0); rfl, Below.refl _ _⟩
  case round =>
    obtain ⟨k, hk, rfl, HE, hB⟩ := hrel
    have HB := Lib.hid hB
    clear hB
    by_cases hlt : k < n
    · obtain ⟨x, hx⟩ : ∃ x, l[k]? = some x := ⟨_, List.getElem?_eq_getElem (by rw [N1.out]; exact hlt)⟩
      obtain ⟨y, hy⟩ : ∃ y, r[k]? = some y := ⟨_, List.getElem?_eq_getElem (by rw [N2.out]; exact hlt)⟩
      have c1 : wr.cell? ⟨g1, k, none⟩ = some (.int .i64 x) := (HB.out.cell (p := ⟨g1, k, none⟩) H1.out.1).trans (H1.out.2 k x hx)
      have c2 : wr.cell? ⟨g2, k, none⟩ = some (.int .i64 y) := (HB.out.cell (p := ⟨g2, k, none⟩) H2.out.1).trans (H2.out.2 k y hy)
      have HD := Lib.hid (HE.out.trans (lexL_drop hx hy))
      clear hx hy HE
      by_cases hxy : x < y
      · have HR := Lib.hid (show NM.lexL l r = -1 by rw [HD.out]; unfold NM.cmpI NM.orI; rw [if_pos hxy, if_neg (by decide)])
        have d1 : decide (x < y) = true := decide_eq_true hxy
        clear HD
        go_wp2_with (go_quiet (fail))
        go_ret
        exact ⟨by rw [HR.out]; rfl, HB.out.trans ((drewN_below wr _).mono HB.out.size)⟩
      · have d1 : decide (x < y) = false := decide_eq_false hxy
        by_cases hyx : y < x
        · have HR := Lib.hid (show NM.lexL l r = 1 by rw [HD.out]; unfold NM.cmpI NM.orI; rw [if_neg hxy, if_pos hyx, if_neg (by decide)])
          have d2 : decide (x > y) = true := decide_eq_true hyx
          clear HD
          go_wp2_with (go_quiet (fail))
          go_ret
          exact ⟨by rw [HR.out]; rfl, HB.out.trans ((drewN_below wr _).mono HB.out.size)⟩
        · have HR := Lib.hid (show NM.lexL l r = NM.lexL (l.drop (k + 1)) (r.drop (k + 1)) by rw [HD.out]; unfold NM.cmpI NM.orI; rw [if_neg hxy, if_neg hyx, if_pos rfl])
          have d2 : decide (x > y) = false := decide_eq_false hyx
          clear HD
          go_wp2_with (go_quiet (fail))
          go_roundw
          case rel => exact ⟨k + 1, by omega, by go_num, HR, HB.out.trans ((drewN_below wr _).mono HB.out.size)⟩
          case measure => simp [intOf]; omega
    · obtain rfl : k = n := by omega
      have HR := Lib.hid (show NM.lexL l r = 0 by rw [HE.out, List.drop_eq_nil_of_le (by rw [N1.out]; exact Nat.le_refl _), List.drop_eq_nil_of_le (by rw [N2.out]; exact Nat.le_refl _)]; rfl)
      clear HE
      go_wp2_with fail
      go_ret
      exact ⟨by rw [HR.out]; rfl, HB.out⟩
theorem queKey_any (c h t k i : Int) (w : World) : Calls Try.prog 86 #[.agg #[.int .i64 c, .int .i64 h, .int .i64 t, .int .i64 k, .int .i64 i]] w fun e w' => (∃ g, e = .returned (.slice (some ⟨g, 0, none⟩) 5 5) ∧ w'.heap[g]? = some (.cells #[.int .i64 c, .int .i64 h, .int .i64 t, .int .i64 k, .int .i64 i] 3 (0, 0))) ∧ Below w.heap.size w w' := by
  obtain ⟨U, hU⟩ : ∃ U, w.alloc (.cells #[.int .i64 c, .int .i64 h, .int .i64 t, .int .i64 k, .int .i64 i] 30) = U := ⟨_, rfl⟩
  have hb : Below w.heap.size w U := hU ▸ one_box w _
  have k1 : U.heap[w.heap.size]? = some (.cells #[.int .i64 c, .int .i64 h, .int .i64 t, .int .i64 k, .int .i64 i] 30 (0, 0)) := by rw [← hU]; exact new_at rfl
  obtain ⟨a0, a1, a2, a3, a4⟩ := row5 k1
  have HB := Lib.hid hb
  clear k1 hb
  go_enter Try.func86, Try.ntmps86
  go_wp2_with fail
  go_ret
  exact ⟨⟨U.heap.size, rfl, new_at rfl⟩, HB.out.trans ((one_box U _).mono HB.out.size)⟩
end Go.Proofs.Ytiokiecnglmbnaa

namespace Go.Proofs.Ytiokiecnglmbnaa
open Go Go.RowKit Go.Proofs
attribute [local go_sem] Oper.semAt_some

theorem queKey_row (c h t k i : Int) (w : World) : Calls Try.prog 86 #[.agg #[.int .i64 c, .int .i64 h, .int .i64 t, .int .i64 k, .int .i64 i]] w fun e w' => (∃ v, e = .returned v ∧ (RgX.Sp.row #[.int .i64 c, .int .i64 h, .int .i64 t, .int .i64 k, .int .i64 i] 3 5).p w' v) ∧ Below w.heap.size w w' := (queKey_any c h t k i w).mono fun _ _ ⟨⟨g, h1, h2⟩, h3⟩ => ⟨⟨_, h1, g, rfl, h2⟩, h3⟩
set_option maxHeartbeats 4000000 in
set_option maxRecDepth 100000 in
theorem cmpQueR_any (c h t k i c2 h2 t2 k2 i2 : Int) (w : World) : Calls Try.prog 60 #[.agg #[.int .i64 c, .int .i64 h, .int .i64 t, .int .i64 k, .int .i64 i], .agg #[.int .i64 c2, .int .i64 h2, .int .i64 t2, .int .i64 k2, .int .i64 i2]] w fun e w' => e = .returned (.int .i64 (NM.lexL [c, h, t, k, i] [c2, h2, t2, k2, i2])) ∧ Below w.heap.size w w' := by
  obtain ⟨U, hU, hb, k1, k2, hlt⟩ := two_boxes w (.cells #[.int .i64 c, .int .i64 h, .int .i64 t, .int .i64 k, .int .i64 i] 30) (.cells #[.int .i64 c2, .int .i64 h2, .int .i64 t2, .int .i64 k2, .int .i64 i2] 30)
  have HK := Lib.hid (fun (V : World) (hV : Below U.heap.size U V) => And.intro (row5 ((hV.block _ (by omega)).trans k1)) (row5 ((hV.block _ hlt).trans k2)))
  have HB := Lib.hid hb
  clear k1 k2 hb
  go_enter Try.func60, Try.ntmps60
  go_wp2_with fail
  clear hU
  refine RgX.region 6 (fun i => (if i = 5 then 4 else 5 + i)) (fun ix_ => match ix_ with | 0 => .v (.agg #[.int .i64 c, .int .i64 h, .int .i64 t, .int .i64 k, .int .i64 i]) | 1 => .row #[.int .i64 c, .int .i64 h, .int .i64 t, .int .i64 k, .int .i64 i] 3 5 | 2 => .v (.agg #[.int .i64 c2, .int .i64 h2, .int .i64 t2, .int .i64 k2, .int .i64 i2]) | 3 => .row #[.int .i64 c2, .int .i64 h2, .int .i64 t2, .int .i64 k2, .int .i64 i2] 3 5 | 4 => .v (.int .i64 (NM.lexL [c, h, t, k, i] [c2, h2, t2, k2, i2])) | 5 => .v (.int .i64 (NM.lexL [c, h, t, k, i] [c2, h2, t2, k2, i2])) | _ => .any) (by kernel_rfl) rfl (by kernel_rfl)  (fun i hi => by show (if i = 5 then 4 else 5 + i) < 10; (repeat' split) <;> omega) (fun i j hi hj => by show (if i = 5 then 4 else 5 + i) = (if j = 5 then 4 else 5 + j) → i = j; (repeat' split) <;> omega) ?step ?fin
  case step =>
    intro L_ A_ w3 ix op_ hI ho hdep
    have hi : ix < 6 := (Array.getElem?_eq_some_iff.1 ho).1
    have hcase : ix = 0 ∨ ix = 1 ∨ ix = 2 ∨ ix = 3 ∨ ix = 4 ∨ ix = 5 := by omega
    have hh := hI.held
    clear hi
    rcases hcase with rfl | rfl | rfl | rfl | rfl | rfl
    · simp only [List.getElem?_toArray, List.getElem?_cons_zero, Option.some.injEq] at ho
      subst ho
      refine ⟨rfl, ?_⟩
      have e2 : A_.tmps[2]?.getD undef = .pointer (some ⟨w.heap.size, 0, none⟩) := by rw [hI.low 2 (by decide)]; rfl
      clear hI hdep
      obtain ⟨⟨d0, d1, d2, d3, d4⟩, f0, f1, f2, f3, f4⟩ := HK.out w3 hh
      exact .run rfl (.agg #[.int .i64 c, .int .i64 h, .int .i64 t, .int .i64 k, .int .i64 i]) w3 (by simp [execOp, go_sem, Act.eval, *]) (Below.refl _ _) rfl
    · simp only [List.getElem?_toArray, List.getElem?_cons_succ, List.getElem?_cons_zero, Option.some.injEq] at ho
      subst ho
      refine ⟨rfl, ?_⟩
      have e5 : A_.tmps[5]?.getD undef = .agg #[.int .i64 c, .int .i64 h, .int .i64 t, .int .i64 k, .int .i64 i] := getD_of (hI.val_ (i := 0) rfl rfl (by decide) (hdep ⟨0, .data⟩ (by simp) rfl))
      clear hI hdep
      exact .call rfl 86 #[.agg #[.int .i64 c, .int .i64 h, .int .i64 t, .int .i64 k, .int .i64 i]] (by simp [go_sem, Act.eval, e5]) (queKey_row _ _ _ _ _ w3)
    · simp only [List.getElem?_toArray, List.getElem?_cons_succ, List.getElem?_cons_zero, Option.some.injEq] at ho
      subst ho
      refine ⟨rfl, ?_⟩
      have e3 : A_.tmps[3]?.getD undef = .pointer (some ⟨w.heap.size + 1, 0, none⟩) := by rw [hI.low 3 (by decide)]; rfl
      clear hI hdep
      obtain ⟨⟨d0, d1, d2, d3, d4⟩, f0, f1, f2, f3, f4⟩ := HK.out w3 hh
      exact .run rfl (.agg #[.int .i64 c2, .int .i64 h2, .int .i64 t2, .int .i64 k2, .int .i64 i2]) w3 (by simp [execOp, go_sem, Act.eval, *]) (Below.refl _ _) rfl
    · simp only [List.getElem?_toArray, List.getElem?_cons_succ, List.getElem?_cons_zero, Option.some.injEq] at ho
      subst ho
      refine ⟨rfl, ?_⟩
      have e7 : A_.tmps[7]?.getD undef = .agg #[.int .i64 c2, .int .i64 h2, .int .i64 t2, .int .i64 k2, .int .i64 i2] := getD_of (hI.val_ (i := 2) rfl rfl (by decide) (hdep ⟨2, .data⟩ (by simp) rfl))
      clear hI hdep
      exact .call rfl 86 #[.agg #[.int .i64 c2, .int .i64 h2, .int .i64 t2, .int .i64 k2, .int .i64 i2]] (by simp [go_sem, Act.eval, e7]) (queKey_row _ _ _ _ _ w3)
    · simp only [List.getElem?_toArray, List.getElem?_cons_succ, List.getElem?_cons_zero, Option.some.injEq] at ho
      subst ho
      refine ⟨rfl, ?_⟩
      obtain ⟨_, e6, g6, rfl, r6⟩ := hI.get_ (i := 1) (j := 6) rfl rfl (by decide) (hdep ⟨1, .data⟩ (by simp) rfl)
      obtain ⟨_, e8, g8, rfl, r8⟩ := hI.get_ (i := 3) (j := 8) rfl rfl (by decide) (hdep ⟨3, .data⟩ (by simp) rfl)
      clear hI hdep
      exact .call rfl 85 #[.slice (some ⟨g6, 0, none⟩) 5 5, .slice (some ⟨g8, 0, none⟩) 5 5] (by simp [go_sem, Act.eval, e6, e8]) ((lists_any (n := 5) [c, h, t, k, i] [c2, h2, t2, k2, i2] w3 r6 r8 rfl rfl (by decide)).mono fun _ _ ⟨h1_, h2_⟩ => ⟨⟨_, h1_, rfl⟩, h2_⟩)
    · simp only [List.getElem?_toArray, List.getElem?_cons_succ, List.getElem?_cons_zero, Option.some.injEq] at ho
      subst ho
      refine ⟨rfl, ?_⟩
      have e9 : A_.tmps[9]?.getD undef = .int .i64 (NM.lexL [c, h, t, k, i] [c2, h2, t2, k2, i2]) := getD_of (hI.val_ (i := 4) rfl rfl (by decide) (hdep ⟨4, .data⟩ (by simp) rfl))
      clear hI hdep
      exact .run rfl (.int .i64 (NM.lexL [c, h, t, k, i] [c2, h2, t2, k2, i2])) w3 (by simp [execOp, go_sem, Act.eval, e9]) (Below.refl _ _) rfl
  case fin =>
  intro A_ w3 hs hd hlow hS hok
  obtain ⟨_, hy6, g6, rfl, r6⟩ := hok 1 6 _ (by decide) rfl rfl
  obtain ⟨_, hy8, g8, rfl, r8⟩ := hok 3 8 _ (by decide) rfl rfl
  obtain rfl : A_ = ⟨#[.agg #[.int .i64 c, .int .i64 h, .int .i64 t, .int .i64 k, .int .i64 i], .agg #[.int .i64 c2, .int .i64 h2, .int .i64 t2, .int .i64 k2, .int .i64 i2], .pointer (some ⟨w.heap.size, 0, none⟩), .pointer (some ⟨w.heap.size + 1, 0, none⟩), .int .i64 (NM.lexL [c, h, t, k, i] [c2, h2, t2, k2, i2]), .agg #[.int .i64 c, .int .i64 h, .int .i64 t, .int .i64 k, .int .i64 i], .slice (some ⟨g6, 0, none⟩) 5 5, .agg #[.int .i64 c2, .int .i64 h2, .int .i64 t2, .int .i64 k2, .int .i64 i2], .slice (some ⟨g8, 0, none⟩) 5 5, .int .i64 (NM.lexL [c, h, t, k, i] [c2, h2, t2, k2, i2])], []⟩ := act_ext hd hs (fun j hj => match j, hj with | 0, _ => (hlow 0 (by decide)).trans rfl | 1, _ => (hlow 1 (by decide)).trans rfl | 2, _ => (hlow 2 (by decide)).trans rfl | 3, _ => (hlow 3 (by decide)).trans rfl | 4, _ => RgX.val_at (hok 5 4 _ (by decide) rfl rfl) | 5, _ => RgX.val_at (hok 0 5 _ (by decide) rfl rfl) | 6, _ => hy6 | 7, _ => RgX.val_at (hok 2 7 _ (by decide) rfl rfl) | 8, _ => hy8 | 9, _ => RgX.val_at (hok 4 9 _ (by decide) rfl rfl) | n + 10, h => absurd h (by show ¬ n + 10 < 10; omega))
  clear hs hd hlow hok hy6 hy8
  go_wp2_with fail
  go_ret
  exact ⟨rfl, HB.out.trans (hS.mono HB.out.size)⟩
end Go.Proofs.Ytiokiecnglmbnaa

namespace Go.Proofs.Ytiokiecnglmbnaa
open Go Go.RowKit Go.Proofs
attribute [local go_sem] Oper.semAt_some

abbrev anV (x : TP.An) : Value := .agg #[.int .i64 x.1.c, .int .i64 x.1.h, .int .i64 x.1.t, .int .i64 x.1.k, .int .i64 x.1.i, .int .i64 x.2]
set_option maxRecDepth 100000 in
theorem eq_answer (d : Nat) (c h t k i n c' h' t' k' i' n' : Int) (W : World) : (Op.equalIn (d + 4) 71 (.agg #[.int .i64 c, .int .i64 h, .int .i64 t, .int .i64 k, .int .i64 i, .int .i64 n]) (.agg #[.int .i64 c', .int .i64 h', .int .i64 t', .int .i64 k', .int .i64 i', .int .i64 n'])).run Try.prog W = .ok (((c == c' && (h == h' && t == t')) && (k == k' && i == i')) && n == n') W := by
  have u3 := Try.underlying3
  have a3 := Try.isAgg3
  have z3 := Try.sizeOf3
  have a23 := Try.isAgg30
  have z23 := Try.sizeOf30
  have ht : Try.prog.underlying 71 = some (.struct (Try.prog.fieldsOf 71)) := by kernel_rfl
  have hp : Try.prog.stoodInHeld 71 = false := by kernel_rfl
  have hf : (Try.prog.fieldsOf 71).toList = [⟨"Q", 30, 0, false, "", "", 0⟩, ⟨"N", 3, 5, false, "", "", 40⟩] := by kernel_rfl
  have hq := eq_question d c h t k i c' h' t' k' i'
  rw [run_equalIn_agg _ (d + 3) _ _ _ ht hp, hf]
  clear hf ht hp
  generalize ((c == c' && (h == h' && t == t')) && (k == k' && i == i')) = b at *
  cases b <;> cases e2 : n == n' <;> simp [Op.eqFields, go_sem, u3, a3, z3, a23, z23, hq, e2]
theorem neA_any (x y : TP.An) (W : World) : (binOp .neq 71 (anV x) (anV y)).run Try.prog W = .ok (.bool (!decide (x = y))) W := by
  obtain ⟨⟨c, h, t, k, i⟩, n⟩ := x
  obtain ⟨⟨c', h', t', k', i'⟩, n'⟩ := y
  rw [run_neq_struct, show (10000 : Nat) = 9996 + 4 from rfl, eq_answer]
  show Result.ok (Value.bool _) W = _
  congr 3
  rw [Bool.eq_iff_iff]
  simp [and_assoc]
end Go.Proofs.Ytiokiecnglmbnaa

namespace Go.Proofs.Ytiokiecnglmbnaa
open Go Go.RowKit Go.Proofs Go.MapKept
attribute [local go_sem] Oper.semAt_some

theorem MapQ.congr {w : World} {B n : Nat} {f g : NM.Qu → Int} (h : MapQ w B f n) (e : ∀ q, g q = f q) : MapQ w B g n := (funext e : g = f) ▸ h
section
variable {w : World} {ops : Array Oper} {rest : List Oper} {o : Oper} {a : Act} {Q : Exit → Act → World → Prop} {B n : Nat} {f : NM.Qu → Int}
theorem wpList_update_q (hg : o.guard = none) (m x v : Operand) (hop : o.op = Op.mapUpdate 85 m x v) (hm : a.eval m = .map (some B)) (h : MapQ w B f n) (q : NM.Qu) (y : Int) (hx : a.eval x = quV q) (hv : a.eval v = .int .i64 y) (hy : 0 < y)
    (hK : ∀ w', MapQ w' B (fun r => if r = q then y else f r) (n + 1) → w.grownBy w' (some B) → wpList Try.prog ops Q rest (a.put o.dst undef) w') : wpList Try.prog ops Q (o :: rest) a w := by
  refine wpList_plain hg fun K' hK' => ?_
  obtain ⟨w', hrun, r1, r2⟩ := h.store q y hy
  unfold Oper.wp
  simp [execOp, hop, hm, hx, hv, hrun, Result.andThen]
  exact hK' _ _ (hK w' r1 r2)
theorem wpList_lookup_q (hg : o.guard = none) (m x : Operand) (hop : o.op = Op.lookup 85 m x false) (hm : a.eval m = .map (some B)) (h : MapQ w B f n) (q : NM.Qu) (hx : a.eval x = quV q) (hq : 0 ≤ f q)
    (hK : wpList Try.prog ops Q rest (a.put o.dst (.int .i64 (f q))) w) : wpList Try.prog ops Q (o :: rest) a w := by
  refine wpList_plain hg fun K' hK' => ?_
  have hrun := h.look q hq false
  unfold Oper.wp
  simp [execOp, hop, hm, hx, hrun, Result.andThen]
  exact hK' _ _ hK
theorem wpList_lookup2_q (hg : o.guard = none) (m x : Operand) (hop : o.op = Op.lookup 85 m x true) (hm : a.eval m = .map (some B)) (h : MapQ w B f n) (q : NM.Qu) (hx : a.eval x = quV q) (hq : 0 ≤ f q)
    (hK : wpList Try.prog ops Q rest (a.put o.dst (.tuple #[.int .i64 (f q), .bool (decide (0 < f q))])) w) : wpList Try.prog ops Q (o :: rest) a w := by
  refine wpList_plain hg fun K' hK' => ?_
  have hrun := h.look q hq true
  unfold Oper.wp
  simp [execOp, hop, hm, hx, hrun, Result.andThen]
  exact hK' _ _ hK
theorem wpList_delete_q (hg : o.guard = none) (m x : Operand) (hop : o.op = Op.call { callee := Callee.builtin Builtin.delete, args := #[m, x], argTypes := #[85, 30] }) (hm : a.eval m = .map (some B)) (h : MapQ w B f n) (q : NM.Qu) (hx : a.eval x = quV q)
    (hK : ∀ w', MapQ w' B (fun r => if r = q then 0 else f r) n → w.grownBy w' (some B) → wpList Try.prog ops Q rest (a.put o.dst (.tuple #[])) w') : wpList Try.prog ops Q (o :: rest) a w := by
  refine wpList_plain hg fun K' hK' => ?_
  obtain ⟨w', hrun, r1, r2⟩ := h.drop q o.type
  unfold Oper.wp
  simp [execOp, hop, resolve, invoke, builtin, hm, hx, hrun, Result.andThen]
  exact hK' _ _ (hK w' r1 r2)
theorem wpList_len_q {t : List TP.An} (hg : o.guard = none) (m : Operand) (hop : o.op = Op.call { callee := Callee.builtin Builtin.len, args := #[m], argTypes := #[85] }) (hm : a.eval m = .map (some B)) (h : MapQ w B (TP.getA t) n)
    (hK : wpList Try.prog ops Q rest (a.put o.dst (.int .i64 ((TP.normA t).length : Int))) w) : wpList Try.prog ops Q (o :: rest) a w := by
  refine wpList_plain hg fun K' hK' => ?_
  have hrun := h.len o.type
  unfold Oper.wp
  simp [execOp, hop, resolve, invoke, builtin, hm, hrun, Result.andThen]
  exact hK' _ _ hK
end
end Go.Proofs.Ytiokiecnglmbnaa

namespace Go.Proofs.Ytiokiecnglmbnaa
open Go Go.RowKit

def around (n m : Int) : Int := (if n < 0 then -(n + 1) else n) % m
theorem around_in (n m : Int) (hm : 0 < m) : 0 ≤ around n m ∧ around n m < m := ⟨Int.emod_nonneg _ (by omega), Int.emod_lt_of_pos _ hm⟩
set_option maxHeartbeats 400000 in
theorem around_any (n m : Int) (hn : I64 n) (hm : 0 < m) (hm2 : m ≤ 1099511627776) (w : World) :
    Calls Try.prog 35 #[.int .i64 n, .int .i64 m] w fun e w' => e = .returned (.int .i64 (around n m)) ∧ w = w' := by
  obtain ⟨n0, n1⟩ := hn
  have hz : (m == 0) = false := by simp; omega
  by_cases h : n < 0
  · have H := Lib.hid (show around n m = -((n + 1).tmod m) by unfold around; rw [if_pos h, ← Int.neg_tmod, Int.tmod_eq_emod_of_nonneg (by omega)])
    go_enter Try.func35, Try.ntmps35
    go_wp2
    go_ret
    exact ⟨by rw [H.out]; rfl, rfl⟩
  · have H := Lib.hid (show around n m = n % m by unfold around; rw [if_neg h])
    go_enter Try.func35, Try.ntmps35
    go_wp2
    go_ret
    exact ⟨by rw [H.out]; rfl, rfl⟩

end Go.Proofs.Ytiokiecnglmbnaa
