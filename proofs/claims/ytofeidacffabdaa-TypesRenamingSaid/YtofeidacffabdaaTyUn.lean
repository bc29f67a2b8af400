/-
  The reference's Unit: a generated program. Condition: the numbers are integers.
-/
import Derived.Test.YtofeidacffabdaaTySz
import Derived.Test.YtofeidacffabdaaTyIn
namespace Go.Proofs.Ytofeidacffabdaa
open Go Go.RowKit Go.Proofs Go.Shelf
attribute [local go_sem] Oper.semAt_some

/-! ### The variables -/
def varsN (skip : Nat) (f : Nat → Bool) (n : Nat) : List ByteArray := ((List.range n).filter fun i => decide (i ≠ skip) && f i).map TY.vName
theorem varsN_ten (skip : Nat) (f : Nat → Bool) : varsN skip f 10 = TY.varsG skip f := rfl
theorem varsN_out {skip : Nat} {f : Nat → Bool} {n : Nat} (h : n = skip ∨ f n = false) : varsN skip f (n + 1) = varsN skip f n := by
  unfold varsN
  rw [List.range_succ, List.filter_append]
  simp
  intro hn
  rcases h with h | h
  · exact absurd h hn
  · exact h
theorem varsN_in {skip : Nat} {f : Nat → Bool} {n : Nat} (h : n ≠ skip) (hf : f n = true) : varsN skip f (n + 1) = varsN skip f n ++ [TY.vName n] := by
  unfold varsN
  rw [List.range_succ, List.filter_append]
  simp [h, hf]
theorem varsN_len (skip : Nat) (f : Nat → Bool) (n : Nat) : (varsN skip f n).length ≤ n := by
  unfold varsN
  rw [List.length_map]
  exact Nat.le_trans (List.length_filter_le _ _) (by simp)
/-- What a program is in memory. -/
def UnV (W : World) (u : TY.Un) (v : Value) : Prop := ∃ (Ad : Option Addr) (cd : Nat) (Av : Option Addr) (cv : Nat) (A : Option Addr) (c : Nat), v = .agg #[.slice Ad u.dur.length cd, .slice Av u.vol.length cv, .slice A u.on.length c] ∧ Stn W.heap.size W Ad cd u.dur ∧ Stn W.heap.size W Av cv u.vol ∧ Hs W W.heap.size A u.on ∧ u.on.length ≤ c ∧ c ≤ maxLen ∧ u.dur.length ≤ 20 ∧ u.vol.length ≤ 20 ∧ u.on.length ≤ 4
abbrev unitT (zs : List Int) : TY.Un := TY.unitG (zs.take 120)

/-- What stands while the variables are laid: the unit in block B, the rows behind it; dj: they lie apart. -/
structure UV (V : World) (B base : Nat) (jd cd jv cv : Nat) (Ad Av : Option Addr) (ds vs : List ByteArray) : Prop where
  box : V.heap[B]? = some (.cells #[.slice Ad jd cd, .slice Av jv cv, .slice none 0 0] 35 (0, 0))
  ld : ds.length = jd
  lv : vs.length = jv
  od : V.ownsRow base 9 1 (.slice Ad jd cd) jd (ds.map Value.string)
  ov : V.ownsRow base 9 1 (.slice Av jv cv) jv (vs.map Value.string)
  dj : ∀ k, (Value.slice Ad jd cd).ownBlock = some k → (Value.slice Av jv cv).ownBlock ≠ some k
  lt : B < base
theorem own_keep {w w' : World} {base size n : Nat} {t : TypeId} {v : Value} {xs : List Value} (h : w.ownsRow base t size v n xs) (hb : ∀ k, v.ownBlock = some k → w'.heap[k]? = w.heap[k]?) : w'.ownsRow base t size v n xs := by
  obtain ⟨h1, h2⟩ := h
  refine ⟨h1, ?_⟩
  rcases h2 with h2 | ⟨k, cap, cur, hv, hk, hh, r⟩
  · exact .inl h2
  · exact .inr ⟨k, cap, cur, hv, hk, (hb k (by rw [hv]; rfl)).trans hh, r⟩
/-- The step at the durable variables. -/
theorem UV.stepD {V w4 U : World} {B base jd cd jv cv g c4 : Nat} {Ad Av : Option Addr} {ds vs : List ByteArray} {s : ByteArray} (h : UV V B base jd cd jv cv Ad Av ds vs) (hg : (V.alloc (.cells #[.string s] 9)).drew.grownBy w4 (Value.slice Ad jd cd).ownBlock)
    (hown : w4.ownsRow base 9 1 (.slice (some ⟨g, 0, none⟩) (jd + 1) c4) (jd + 1) (ds.map Value.string ++ [.string s])) (hat : (Value.slice Ad jd cd).ownBlock = some g ∨ g = (V.alloc (.cells #[.string s] 9)).drew.heap.size) (hU : w4.setCell ⟨B, 0, none⟩ (.slice (some ⟨g, 0, none⟩) (jd + 1) c4) = U) :
    UV U B base (jd + 1) c4 jv cv (some ⟨g, 0, none⟩) Av (ds ++ [s]) vs ∧ Chg (fun x => x = B ∨ base ≤ x) V U := by
  have hl := heap_lt h.box
  have hg' : (V.alloc (.cells #[.string s] 9)).grownBy w4 (Value.slice Ad jd cd).ownBlock := ⟨hg.os, hg.tape, hg.output, hg.size, hg.block⟩
  have hsz : (V.alloc (.cells #[.string s] 9)).drew.heap.size = V.heap.size + 1 := World.size_alloc _ _
  rw [hsz] at hat
  have hlt := h.lt
  have hb4 : ∀ k, k < V.heap.size → some k ≠ (Value.slice Ad jd cd).ownBlock → w4.heap[k]? = V.heap[k]? := fun k hk hn => (hg'.block k (by rw [World.size_alloc]; omega) hn).trans (Below.heap_alloc V _ k hk)
  have hne : some B ≠ (Value.slice Ad jd cd).ownBlock := fun e => by have := (h.od.lt B e.symm).1; omega
  have hUk : ∀ x, x ≠ B → U.heap[x]? = w4.heap[x]? := fun x hx => by rw [← hU]; exact Below.heap_setCell _ _ _ _ hx
  refine ⟨⟨?_, by rw [List.length_append, h.ld]; rfl, h.lv, ?_, ?_, ?_, hlt⟩, ?_⟩
  · rw [← hU]
    have := (hb4 B hl hne).trans h.box
    simp only [World.setCell, Array.getElem?_modify]
    simp [this]
  · rw [List.map_append]
    exact own_keep hown fun k hk => hUk k (by have := (hown.lt k hk).1; omega)
  · exact own_keep h.ov fun k hk => (hUk k (by have := (h.ov.lt k hk).1; omega)).trans (hb4 k (h.ov.lt k hk).2 (fun e => h.dj k e.symm hk))
  · intro k hk e
    have hk' : g = k := by injection hk
    subst hk'
    rcases hat with hat | hat
    · exact h.dj g hat e
    · have := (h.ov.lt g e).2; omega
  · rw [← hU]
    refine Chg.setCell (p := ⟨B, 0, none⟩) ?_ (fun _ => .inl rfl) _
    exact (((Chg.refl _ V).alloc _)).grown hg' fun k e _ => .inr (h.od.lt k e).1
/-- The step at the volatile variables. -/
theorem UV.stepV {V w4 U : World} {B base jd cd jv cv g c4 : Nat} {Ad Av : Option Addr} {ds vs : List ByteArray} {s : ByteArray} (h : UV V B base jd cd jv cv Ad Av ds vs) (hg : (V.alloc (.cells #[.string s] 9)).drew.grownBy w4 (Value.slice Av jv cv).ownBlock)
    (hown : w4.ownsRow base 9 1 (.slice (some ⟨g, 0, none⟩) (jv + 1) c4) (jv + 1) (vs.map Value.string ++ [.string s])) (hat : (Value.slice Av jv cv).ownBlock = some g ∨ g = (V.alloc (.cells #[.string s] 9)).drew.heap.size) (hU : w4.setCell ⟨B, 1, none⟩ (.slice (some ⟨g, 0, none⟩) (jv + 1) c4) = U) :
    UV U B base jd cd (jv + 1) c4 Ad (some ⟨g, 0, none⟩) ds (vs ++ [s]) ∧ Chg (fun x => x = B ∨ base ≤ x) V U := by
  have hl := heap_lt h.box
  have hg' : (V.alloc (.cells #[.string s] 9)).grownBy w4 (Value.slice Av jv cv).ownBlock := ⟨hg.os, hg.tape, hg.output, hg.size, hg.block⟩
  have hsz : (V.alloc (.cells #[.string s] 9)).drew.heap.size = V.heap.size + 1 := World.size_alloc _ _
  rw [hsz] at hat
  have hlt := h.lt
  have hb4 : ∀ k, k < V.heap.size → some k ≠ (Value.slice Av jv cv).ownBlock → w4.heap[k]? = V.heap[k]? := fun k hk hn => (hg'.block k (by rw [World.size_alloc]; omega) hn).trans (Below.heap_alloc V _ k hk)
  have hne : some B ≠ (Value.slice Av jv cv).ownBlock := fun e => by have := (h.ov.lt B e.symm).1; omega
  have hUk : ∀ x, x ≠ B → U.heap[x]? = w4.heap[x]? := fun x hx => by rw [← hU]; exact Below.heap_setCell _ _ _ _ hx
  refine ⟨⟨?_, h.ld, by rw [List.length_append, h.lv]; rfl, ?_, ?_, ?_, hlt⟩, ?_⟩
  · rw [← hU]
    have := (hb4 B hl hne).trans h.box
    simp only [World.setCell, Array.getElem?_modify]
    simp [this]
  · exact own_keep h.od fun k hk => (hUk k (by have := (h.od.lt k hk).1; omega)).trans (hb4 k (h.od.lt k hk).2 (fun e => h.dj k hk e.symm))
  · rw [List.map_append]
    exact own_keep hown fun k hk => hUk k (by have := (hown.lt k hk).1; omega)
  · intro k hk e
    have hk' : g = k := by injection e
    subst hk'
    rcases hat with hat | hat
    · exact h.dj g hk hat
    · have := (h.od.lt g hk).2; omega
  · rw [← hU]
    refine Chg.setCell (p := ⟨B, 1, none⟩) ?_ (fun _ => .inl rfl) _
    exact (((Chg.refl _ V).alloc _)).grown hg' fun k e _ => .inr (h.ov.lt k e).1
theorem kept3 {V w4 : World} {B base n : Nat} {v : Value} {s : ByteArray} {a0 a1 a2 : Value} {xs : List Value} (hg : (V.alloc (.cells #[.string s] 9)).drew.grownBy w4 v.ownBlock) (hblk : V.heap[B]? = some (.cells #[a0, a1, a2] 35 (0, 0))) (hown : V.ownsRow base 9 1 v n xs) (hB : B < base) :
    w4.cell? ⟨B, 0, none⟩ = some a0 ∧ w4.frozen? ⟨B, 0, none⟩ = false ∧ w4.cell? ⟨B, 1, none⟩ = some a1 ∧ w4.frozen? ⟨B, 1, none⟩ = false := by
  have hl := heap_lt hblk
  have hne : some B ≠ v.ownBlock := fun e => by have := (hown.lt B e.symm).1; omega
  have h4 : w4.heap[B]? = some (.cells #[a0, a1, a2] 35 (0, 0)) := ((hg.block B (by simp; omega) hne).trans (Below.heap_alloc V _ B hl)).trans hblk
  exact ⟨cell_of_row w4 B 0 _ _ (0, 0) h4, by simp [World.frozen?, h4], cell_of_row w4 B 1 _ _ (0, 0) h4, by simp [World.frozen?, h4]⟩
end Go.Proofs.Ytofeidacffabdaa
