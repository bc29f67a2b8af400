/-
  What each step of the reference's busy program does with the machine. No condition but the bounds.
-/
import Derived.Test.YtgdefhlcgmibcaaVmX
namespace Go.Proofs.Ytgdefhlcgmibcaa
open Go Go.RowKit Go.Proofs

namespace VM
def fv (n : Nat) : Value := .func (.func n) #[] #[]
/-- The machine's functions. -/
def effL : List Value := [.nilFunc, fv 43, fv 44, fv 45, fv 46, fv 47, fv 48, fv 51, fv 52, fv 53, fv 54, fv 56, fv 58, fv 59, fv 60, fv 61, fv 62, fv 63, fv 64, fv 66, fv 67, fv 68, fv 69, fv 70]
/-- The busy program's instructions. -/
def busy (n d : Int) : List (Int × Int) := [(2, 0), (1, n), (11, 0), (16, 13), (1, d), (2, 0), (1, 5), (17, 7), (2, 0), (1, 1), (6, 0), (3, 0), (15, 0), (23, 0)]
def codeC (l : List (Int × Int)) : List Value := l.flatMap fun x => [.int .i64 x.1, .int .i64 x.2]
def stkOf (n d c : Int) : Nat → List Int
  | 1 => [c]
  | 2 => [c, n]
  | 3 => [if c < n then 1 else 0]
  | 5 => [d]
  | 6 => [d, c]
  | 7 => [d, c, 5]
  | 9 => [c]
  | 10 => [c, 1]
  | 11 => [c + 1]
  | _ => []
/-- The writes among the acts. -/
def wrOf (l : List Ac) : List DK.Wr := (l.filter fun x => x.k == 1).map fun x => (x.a, x.b)
/-- 1, 2 .. c, written at 0. -/
def wrsOf (c : Nat) : List DK.Wr := (List.range c).map fun k : Nat => ((0 : Int), (k : Int) + 1)
theorem wrsOf_succ (c : Nat) : wrsOf (c + 1) = wrsOf c ++ [((0 : Int), (c : Int) + 1)] := by unfold wrsOf; rw [List.range_succ, List.map_append]; rfl
theorem wrOf_app (l r : List Ac) : wrOf (l ++ r) = wrOf l ++ wrOf r := by unfold wrOf; rw [List.filter_append, List.map_append]
def Inv (n : Nat) (d : Int) (i : Nat) (s : St) : Prop := ∃ (c pc : Nat), c ≤ n ∧ i ≤ 500 ∧ s.vars = [(c : Int)] ∧ s.stack = stkOf n d c pc ∧ s.next = (pc : Int) ∧ wrOf s.acts = wrsOf c ∧ s.acts.length ≤ i ∧ 0 ≤ s.sent ∧ s.sent ≤ i ∧ s.stopped = decide (pc = 14) ∧
  ((pc ≤ 3 ∧ i = 13 * c + pc) ∨ (4 ≤ pc ∧ pc ≤ 11 ∧ c < n ∧ i = 13 * c + pc) ∨ (pc = 12 ∧ i + 1 = 13 * c) ∨ (pc = 13 ∧ c = n ∧ i = 13 * c + 4) ∨ (pc = 14 ∧ c = n ∧ i = 13 * c + 5))
end VM
/-- A function of the machine, called with this operand. -/
def EffOk (F : MFix) (B g L : Nat) (arg : Int) (s s2 : VM.St) : Prop := ∀ w, MAt F B w g s → B ≤ w.heap.size → Calls Try.prog L #[.pointer (some ⟨g, 0, none⟩), .int .i64 arg] w fun e w' => (∃ v, e = .returned v) ∧ MAt F B w' g s2 ∧ KeepV B w w'
def Enters (L : Nat) : Prop := ∀ args w, (callFunc L args).run Try.prog w = .ok (.enter L args) w
theorem busy_step (F : MFix) (B g n : Nat) (d lim : Int) (i : Nat) (s : VM.St) (hF : F.effs = VM.effL) (hd : F.dur = 1) (hlim : F.names[1]? = some lim) (hn : n ≤ 30) (h : VM.Inv n d i s) (hs : s.stopped = false) :
    i < 500 ∧ ∃ (pc : Nat) (op : Nat) (arg : Int) (L : Nat) (s2 : VM.St), s.next = (pc : Int) ∧ pc < 14 ∧ (VM.busy n d)[pc]? = some ((op : Int), arg) ∧ op < 24 ∧ F.effs[op]? = some (VM.fv L) ∧ Enters L ∧ EffOk F B g L arg { s with next := (pc : Int) + 1 } s2 ∧ VM.Inv n d (i + 1) s2 := by
  obtain ⟨c, pc, hc, _, hv, hk, hx, hw, ha, hs0, hs1, hst, hpc⟩ := h
  have hp14 : pc ≠ 14 := fun e => by rw [hst, e] at hs; cases hs
  refine ⟨by omega, pc, ?_⟩
  have hp : pc = 0 ∨ pc = 1 ∨ pc = 2 ∨ pc = 3 ∨ pc = 4 ∨ pc = 5 ∨ pc = 6 ∨ pc = 7 ∨ pc = 8 ∨ pc = 9 ∨ pc = 10 ∨ pc = 11 ∨ pc = 12 ∨ pc = 13 := by omega
  have push : ∀ (x : Int) (w : World), MAt F B w g { s with next := (pc : Int) + 1 } → s.stack.length < 10 → Calls Try.prog 43 #[.pointer (some ⟨g, 0, none⟩), .int .i64 x] w fun e w' => (∃ v, e = .returned v) ∧ MAt F B w' g { s with next := (pc : Int) + 1, stack := s.stack ++ [x] } ∧ KeepV B w w' := fun x w hm hl => push_c hm x (by show s.stack.length < _; omega)
  have var : ∀ (w : World), MAt F B w g { s with next := (pc : Int) + 1 } → s.stack.length < 10 → Calls Try.prog 44 #[.pointer (some ⟨g, 0, none⟩), .int .i64 0] w fun e w' => (∃ v, e = .returned v) ∧ MAt F B w' g { s with next := (pc : Int) + 1, stack := s.stack ++ [(c : Int)] } ∧ KeepV B w w' := fun w hm hl => var_c hm 0 (c : Int) (by show s.vars[0]? = _; rw [hv]; rfl) (by show s.stack.length < _; omega)
  rcases hp with rfl | rfl | rfl | rfl | rfl | rfl | rfl | rfl | rfl | rfl | rfl | rfl | rfl | rfl
  · exact ⟨2, 0, 44, { s with next := 1, stack := [(c : Int)] }, hx, by omega, rfl, by omega, by rw [hF]; rfl, fun _ _ => rfl, fun w hm _ => by have := var w hm (by rw [hk]; simp [VM.stkOf]); rw [hk] at this; exact this, c, 1, hc, by omega, hv, rfl, rfl, hw, by show s.acts.length ≤ _; omega, hs0, by show s.sent ≤ _; omega, hst, .inl ⟨by omega, by omega⟩⟩
  · exact ⟨1, n, 43, { s with next := 2, stack := [(c : Int), n] }, hx, by omega, rfl, by omega, by rw [hF]; rfl, fun _ _ => rfl, fun w hm _ => by have := push n w hm (by rw [hk]; simp [VM.stkOf]); rw [hk] at this; exact this, c, 2, hc, by omega, hv, rfl, rfl, hw, by show s.acts.length ≤ _; omega, hs0, by show s.sent ≤ _; omega, hst, .inl ⟨by omega, by omega⟩⟩
  · exact ⟨11, 0, 56, { s with next := 3, stack := [if (c : Int) < n then 1 else 0] }, hx, by omega, rfl, by omega, by rw [hF]; rfl, fun _ _ => rfl, fun w hm _ => lt_c hm 0 [] (c : Int) n _ rfl (by show s.stack = _; rw [hk]; rfl) (by simp), c, 3, hc, by omega, hv, rfl, rfl, hw, by show s.acts.length ≤ _; omega, hs0, by show s.sent ≤ _; omega, hst, .inl ⟨by omega, by omega⟩⟩
  · by_cases hcn : (c : Int) < n
    · exact ⟨16, 13, 62, { s with next := 4, stack := [] }, hx, by omega, rfl, by omega, by rw [hF]; rfl, fun _ _ => rfl, fun w hm _ => unless_c hm 13 [] 1 (by show s.stack = _; rw [hk]; show [if (c : Int) < n then (1 : Int) else 0] = _; rw [if_pos hcn]; rfl) (by simp) 4 rfl, c, 4, hc, by omega, hv, rfl, rfl, hw, by show s.acts.length ≤ _; omega, hs0, by show s.sent ≤ _; omega, hst, .inr (.inl ⟨by omega, by omega, by omega, by omega⟩)⟩
    · exact ⟨16, 13, 62, { s with next := 13, stack := [] }, hx, by omega, rfl, by omega, by rw [hF]; rfl, fun _ _ => rfl, fun w hm _ => unless_c hm 13 [] 0 (by show s.stack = _; rw [hk]; show [if (c : Int) < n then (1 : Int) else 0] = _; rw [if_neg hcn]; rfl) (by simp) 13 rfl, c, 13, hc, by omega, hv, rfl, rfl, hw, by show s.acts.length ≤ _; omega, hs0, by show s.sent ≤ _; omega, hst, .inr (.inr (.inr (.inl ⟨rfl, by omega, by omega⟩)))⟩
  · exact ⟨1, d, 43, { s with next := 5, stack := [d] }, hx, by omega, rfl, by omega, by rw [hF]; rfl, fun _ _ => rfl, fun w hm _ => by have := push d w hm (by rw [hk]; simp [VM.stkOf]); rw [hk] at this; exact this, c, 5, hc, by omega, hv, rfl, rfl, hw, by show s.acts.length ≤ _; omega, hs0, by show s.sent ≤ _; omega, hst, .inr (.inl ⟨by omega, by omega, by omega, by omega⟩)⟩
  · exact ⟨2, 0, 44, { s with next := 6, stack := [d, (c : Int)] }, hx, by omega, rfl, by omega, by rw [hF]; rfl, fun _ _ => rfl, fun w hm _ => by have := var w hm (by rw [hk]; simp [VM.stkOf]); rw [hk] at this; exact this, c, 6, hc, by omega, hv, rfl, rfl, hw, by show s.acts.length ≤ _; omega, hs0, by show s.sent ≤ _; omega, hst, .inr (.inl ⟨by omega, by omega, by omega, by omega⟩)⟩
  · exact ⟨1, 5, 43, { s with next := 7, stack := [d, (c : Int), 5] }, hx, by omega, rfl, by omega, by rw [hF]; rfl, fun _ _ => rfl, fun w hm _ => by have := push 5 w hm (by rw [hk]; simp [VM.stkOf]); rw [hk] at this; exact this, c, 7, hc, by omega, hv, rfl, rfl, hw, by show s.acts.length ≤ _; omega, hs0, by show s.sent ≤ _; omega, hst, .inr (.inl ⟨by omega, by omega, by omega, by omega⟩)⟩
  · refine ⟨17, 7, 63, VM.sendS lim { s with next := 8 } [] 7 d (c : Int) 5, hx, by omega, rfl, by omega, by rw [hF]; rfl, fun _ _ => rfl, fun w hm hB => send_c hm hB lim hlim 7 [] d (c : Int) 5 (by show s.stack = _; rw [hk]; rfl) (by simp) (by show s.acts.length < _; omega) (by show 0 ≤ s.sent ∧ s.sent < 1000; omega), c, 8, hc, by omega, ?_⟩
    unfold VM.sendS
    split
    · exact ⟨hv, rfl, rfl, by show VM.wrOf (s.acts ++ _) = _; rw [VM.wrOf_app, hw]; simp [VM.wrOf], by show (s.acts ++ [_]).length ≤ _; rw [List.length_append, List.length_singleton]; omega, by show 0 ≤ s.sent + 1; omega, by show s.sent + 1 ≤ _; omega, hst, .inr (.inl ⟨by omega, by omega, by omega, by omega⟩)⟩
    · exact ⟨hv, rfl, rfl, hw, by show s.acts.length ≤ _; omega, hs0, by show s.sent ≤ _; omega, hst, .inr (.inl ⟨by omega, by omega, by omega, by omega⟩)⟩
  · exact ⟨2, 0, 44, { s with next := 9, stack := [(c : Int)] }, hx, by omega, rfl, by omega, by rw [hF]; rfl, fun _ _ => rfl, fun w hm _ => by have := var w hm (by rw [hk]; simp [VM.stkOf]); rw [hk] at this; exact this, c, 9, hc, by omega, hv, rfl, rfl, hw, by show s.acts.length ≤ _; omega, hs0, by show s.sent ≤ _; omega, hst, .inr (.inl ⟨by omega, by omega, by omega, by omega⟩)⟩
  · exact ⟨1, 1, 43, { s with next := 10, stack := [(c : Int), 1] }, hx, by omega, rfl, by omega, by rw [hF]; rfl, fun _ _ => rfl, fun w hm _ => by have := push 1 w hm (by rw [hk]; simp [VM.stkOf]); rw [hk] at this; exact this, c, 10, hc, by omega, hv, rfl, rfl, hw, by show s.acts.length ≤ _; omega, hs0, by show s.sent ≤ _; omega, hst, .inr (.inl ⟨by omega, by omega, by omega, by omega⟩)⟩
  · exact ⟨6, 0, 48, { s with next := 11, stack := [(c : Int) + 1] }, hx, by omega, rfl, by omega, by rw [hF]; rfl, fun _ _ => rfl, fun w hm _ => add_c hm 0 [] (c : Int) 1 (by show s.stack = _; rw [hk]; rfl) (by simp) (by omega), c, 11, hc, by omega, hv, rfl, rfl, hw, by show s.acts.length ≤ _; omega, hs0, by show s.sent ≤ _; omega, hst, .inr (.inl ⟨by omega, by omega, by omega, by omega⟩)⟩
  · refine ⟨3, 0, 45, VM.setS F { s with next := 12 } [] 0 ((c : Int) + 1), hx, by omega, rfl, by omega, by rw [hF]; rfl, fun _ _ => rfl, fun w hm hB => set_c hm hB 0 [] ((c : Int) + 1) (by show s.stack = _; rw [hk]; rfl) (by show 0 < s.vars.length; rw [hv]; simp) (by show s.vars.length < _; rw [hv]; simp) (by simp) (by show s.acts.length < _; omega), c + 1, 12, by omega, by omega, ?_⟩
    unfold VM.setS
    refine ⟨by show s.vars.set 0 _ = _; rw [hv]; rfl, rfl, rfl, ?_, ?_, hs0, by show s.sent ≤ _; omega, hst, .inr (.inr (.inl ⟨rfl, by omega⟩))⟩
    · show VM.wrOf (if _ then s.acts ++ _ else s.acts) = _
      rw [if_pos (by rw [hd]; decide), VM.wrOf_app, hw, VM.wrsOf_succ]
      rfl
    · show (if _ then s.acts ++ _ else s.acts).length ≤ _
      rw [if_pos (by rw [hd]; decide), List.length_append, List.length_singleton]
      omega
  · exact ⟨15, 0, 61, { s with next := 0 }, hx, by omega, rfl, by omega, by rw [hF]; rfl, fun _ _ => rfl, fun w hm _ => jump_c hm 0, c, 0, hc, by omega, hv, hk, rfl, hw, by show s.acts.length ≤ _; omega, hs0, by show s.sent ≤ _; omega, hst, .inl ⟨by omega, by omega⟩⟩
  · exact ⟨23, 0, 70, { s with next := 14, stopped := true }, hx, by omega, rfl, by omega, by rw [hF]; rfl, fun _ _ => rfl, fun w hm _ => stop_c hm 0, c, 14, hc, by omega, hv, hk, rfl, hw, by show s.acts.length ≤ _; omega, hs0, by show s.sent ≤ _; omega, rfl, .inr (.inr (.inr (.inr ⟨rfl, by omega, by omega⟩)))⟩
end Go.Proofs.Ytgdefhlcgmibcaa
