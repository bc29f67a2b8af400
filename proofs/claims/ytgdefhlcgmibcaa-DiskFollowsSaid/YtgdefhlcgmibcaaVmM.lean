/-
  The machine that runs handlers: its state, and where it lies in memory. No function of the program.
-/
import Derived.Test.YtgdefhlcgmibcaaDkR
import Derived.Test.YtgdefhlcgmibcaaDkT
namespace Go.Proofs.Ytgdefhlcgmibcaa
open Go Go.RowKit Go.Proofs

namespace VM
/-- An act: kind, A, B, C, D. -/
structure Ac where
  k : Int
  a : Int
  b : Int
  c : Int
  d : Int
/-- The state of a machine. -/
structure St where
  vars : List Int
  stack : List Int
  next : Int
  stopped : Bool
  asked : Int
  sent : Int
  acts : List Ac
def acC (x : Ac) : List Value := [.int .i64 x.k, .int .i64 x.a, .int .i64 x.b, .int .i64 x.c, .int .i64 x.d]
def acsC (l : List Ac) : List Value := l.flatMap acC
theorem acsC_app (l r : List Ac) : acsC (l ++ r) = acsC l ++ acsC r := by simp [acsC]
theorem acsC_len (l : List Ac) : (acsC l).length = l.length * 5 := by
  induction l with
  | nil => rfl
  | cons x t ih =>
    show (acC x ++ acsC t).length = _
    rw [List.length_append, ih, List.length_cons]
    show 5 + _ = _
    omega
theorem acC_one (x : Ac) : ∀ u ∈ acC x, u.oneCell' = true := by
  intro u hu
  simp [acC] at hu
  rcases hu with rfl | rfl | rfl | rfl | rfl <;> rfl
end VM
/-- What does not change of a machine: its functions, what it asks, the names' values, how many variables are durable. -/
structure MFix where
  effs : List Value
  ask : Value
  names : List Int
  dur : Int
/-- The cells of a machine: the slices of variables, of the stack, of the acts are at V, K, A. -/
structure MCells (F : MFix) (T : Array Value) (s : VM.St) (V : Value) (K : Value) (A : Value) : Prop where
  size : T.size = 42
  eff : ∀ (i : Nat) (x : Value), F.effs[i]? = some x → T[i]? = some x
  el : F.effs.length = 24
  ask : T[24]? = some F.ask
  names : ∀ (i : Nat) (x : Int), F.names[i]? = some x → T[25 + i]? = some (.int .i64 x)
  nl : F.names.length = 9
  dur : T[34]? = some (.int .i64 F.dur)
  vars : T[35]? = some V
  stack : T[36]? = some K
  next : T[37]? = some (.int .i64 s.next)
  stopped : T[38]? = some (.bool s.stopped)
  asked : T[39]? = some (.int .i64 s.asked)
  sent : T[40]? = some (.int .i64 s.sent)
  acts : T[41]? = some A
/-- The machine lies at g, with its rows from block B on. -/
def MAt (F : MFix) (B : Nat) (w : World) (g : Nat) (s : VM.St) : Prop := ∃ (T : Array Value) (V K A : Option Addr) (vc kc ac : Nat),
  w.heap[g]? = some (Obj.cells T 78 (0, 0)) ∧ MCells F T s (.slice V s.vars.length vc) (.slice K s.stack.length kc) (.slice A s.acts.length ac) ∧
  w.ownsRow B 3 1 (.slice V s.vars.length vc) s.vars.length (DK.intsC s.vars) ∧ w.ownsRow B 3 1 (.slice K s.stack.length kc) s.stack.length (DK.intsC s.stack) ∧ w.ownsRow B 63 5 (.slice A s.acts.length ac) s.acts.length (VM.acsC s.acts) ∧
  B ≤ g ∧ (∀ b, (Value.slice V s.vars.length vc).ownBlock = some b → (Value.slice K s.stack.length kc).ownBlock ≠ some b)
/-- Blocks of other types than integers, acts and machines stay, and what stood below B. -/
structure KeepV (B : Nat) (w w' : World) : Prop where
  below : Below B w w'
  keep : ∀ (b : Nat) (C : Array Value) (t : TypeId), w.heap[b]? = some (Obj.cells C t (0, 0)) → t ≠ 3 → t ≠ 63 → t ≠ 78 → w'.heap[b]? = w.heap[b]?
theorem KeepV.refl (B : Nat) (w : World) : KeepV B w w := ⟨Below.refl _ _, fun _ _ _ _ _ _ _ => rfl⟩
theorem KeepV.trans {B : Nat} {a b c : World} (h : KeepV B a b) (k : KeepV B b c) : KeepV B a c := ⟨h.below.trans k.below, fun g C t hg h1 h2 h3 => (k.keep g C t ((h.keep g C t hg h1 h2 h3).trans hg) h1 h2 h3).trans (h.keep g C t hg h1 h2 h3)⟩
theorem KeepV.of_below {B : Nat} {w w' : World} (h : Below w.heap.size w w') (hB : B ≤ w.heap.size) : KeepV B w w' := ⟨h.mono hB, fun g _ _ hg _ _ _ => h.block g (blk_lt hg)⟩
theorem MAt.below {F : MFix} {B g : Nat} {w w' : World} {s : VM.St} (h : MAt F B w g s) (hb : Below w.heap.size w w') : MAt F B w' g s := by
  obtain ⟨T, V, K, A, vc, kc, ac, h1, h2, h3, h4, h5, h6, h7⟩ := h
  exact ⟨T, V, K, A, vc, kc, ac, (hb.block g (blk_lt h1)).trans h1, h2, dk_own_keep h3 hb, dk_own_keep h4 hb, dk_own_keep h5 hb, h6, h7⟩
theorem mset {T : Array Value} {j i : Nat} {v : Value} (hj : j < T.size) : ((T.toList.take j ++ v.cells.toList ++ T.toList.drop (j + v.cells.size)).toArray)[i]? = (if v.cells.size = 1 then (if i = j then v.cells[0]? else T[i]?) else ((T.toList.take j ++ v.cells.toList ++ T.toList.drop (j + v.cells.size)).toArray)[i]?) := by
  by_cases h : v.cells.size = 1
  · rw [if_pos h]
    have hl : v.cells.toList.length = 1 := by rw [Array.length_toList]; exact h
    obtain ⟨x, hx⟩ : ∃ x, v.cells.toList = [x] := by
      match hq : v.cells.toList, hl with
      | [x], _ => exact ⟨x, rfl⟩
    have h0 : v.cells[0]? = some x := by rw [← Array.getElem?_toList, hx]; rfl
    rw [hx, h, h0, List.getElem?_toArray]
    have e : T.toList.take j ++ [x] ++ T.toList.drop (j + 1) = T.toList.set j x := by
      rw [List.set_eq_take_append_cons_drop, if_pos (by simpa using hj)]
      simp
    rw [e, List.getElem?_set]
    by_cases hi : i = j
    · subst hi
      simp [hj]
    · rw [if_neg hi, if_neg (fun e => hi e.symm), Array.getElem?_toList]
  · rw [if_neg h]
theorem ne_ty {w : World} {t t' : TypeId} {sz n base b : Nat} {vs : List Value} {x : Value} {Y : Array Value} (h : w.ownsRow base t sz x n vs) (hb : w.heap[b]? = some (.cells Y t' (0, 0))) (hne : t ≠ t') : x.ownBlock ≠ some b := fun e => by
  rcases h.2 with ⟨rfl, _⟩ | ⟨g, cap, cur, rfl, _, h2, _⟩
  · cases e
  · injection e with e
    exact dk_ne h2 hb hne e
end Go.Proofs.Ytgdefhlcgmibcaa
