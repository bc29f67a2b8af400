/-
  Disks in memory: rows of integers, of writes and of truths; facts of the types. No function of the program.
-/
import Derived.Test.YtgdefhlcgmibcaaDkW
import Derived.Test.YtgdefhlcgmibcaaDkM
namespace Go.Proofs.Ytgdefhlcgmibcaa
open Go Go.RowKit Go.Proofs

theorem dk_info {P : Program} {t : TypeId} {z : Value} {s b : Nat} (h : (P.info? t).map (fun i => (i.zero, i.size, i.bytes)) = some (some z, s, b)) : ∃ i, P.info? t = some i ∧ i.zero = some z ∧ i.size = s ∧ i.bytes = b := by
  cases hq : P.info? t with
  | none => rw [hq] at h; cases h
  | some i =>
    rw [hq] at h
    simp only [Option.map_some, Option.some.injEq, Prod.mk.injEq] at h
    exact ⟨i, rfl, h.1, h.2.1, h.2.2⟩
theorem dk_int : (Try.prog.info? 3).map (fun i => (i.zero, i.size, i.bytes)) = some (some (.int .i64 0), 1, 8) := by kernel_rfl
theorem dk_wr : (Try.prog.info? 46).map (fun i => (i.zero, i.size, i.bytes)) = some (some (.agg #[.int .i64 0, .int .i64 0]), 2, 16) := by kernel_rfl
theorem dk_bool : (Try.prog.info? 4).map (fun i => (i.zero, i.size, i.bytes)) = some (some (.bool false), 1, 1) := by kernel_rfl
theorem dk_sz_int : (Try.prog.info? 3).map (·.size) = some 1 := by kernel_rfl
theorem dk_sz_wr : (Try.prog.info? 46).map (·.size) = some 2 := by kernel_rfl
theorem dk_sz_disk : (Try.prog.info? 26).map (·.size) = some 2 := by kernel_rfl
theorem dk_make_ints (n : Nat) (hn : n ≤ 100000) : ∀ W : World, (Instr.makeSlice 22 (.int .i64 (n : Int)) (.int .i64 (n : Int))).run Try.prog W = .ok (.slice (some ⟨W.heap.size, 0, none⟩) n n) (W.alloc (.cells (Array.replicate n (.int .i64 0)) 3)) := by
  obtain ⟨i, hi, hz, h1, h2⟩ := dk_info dk_int
  intro W
  have h := run_makeN 22 3 i _ Try.underlying22 hi hz .i64 .i64 n n (Nat.le_refl _) (by rw [h2]; omega) (by omega) W
  rw [h1, Nat.mul_one, madeN_one _ _ rfl] at h
  exact h
theorem dk_make_wrs (n c : Nat) (hn : n ≤ c) (hc : c ≤ 100000) : ∃ Z : Array Value, Z.size = c * 2 ∧ ∀ W : World, (Instr.makeSlice 24 (.int .i64 (n : Int)) (.int .i64 (c : Int))).run Try.prog W = .ok (.slice (some ⟨W.heap.size, 0, none⟩) n c) (W.alloc (.cells Z 46)) := by
  obtain ⟨i, hi, hz, h1, h2⟩ := dk_info dk_wr
  refine ⟨madeCells (Value.agg #[.int .i64 0, .int .i64 0]).cells (c * 2), size_madeCells _ _, fun W => ?_⟩
  have h := run_makeN 24 46 i _ Try.underlying24 hi hz .i64 .i64 n c hn (by rw [h2]; omega) (by omega) W
  rw [h1] at h
  exact h
namespace DK
def wrC (x : Wr) : List Value := [.int .i64 x.1, .int .i64 x.2]
def wrsC (l : List Wr) : List Value := l.flatMap wrC
def intsC (l : List Int) : List Value := l.map (Value.int .i64)
def blsC (l : List Bool) : List Value := l.map Value.bool
theorem wrsC_cons (x : Wr) (l : List Wr) : wrsC (x :: l) = .int .i64 x.1 :: .int .i64 x.2 :: wrsC l := rfl
theorem wrsC_len (l : List Wr) : (wrsC l).length = l.length * 2 := by
  induction l with
  | nil => rfl
  | cons x t ih => rw [wrsC_cons, List.length_cons, List.length_cons, ih, List.length_cons]; omega
theorem wrsC_app (l r : List Wr) : wrsC (l ++ r) = wrsC l ++ wrsC r := by simp [wrsC]
theorem wrsC_one (l : List Wr) : ∀ u ∈ wrsC l, u.oneCell' = true := by
  intro u hu
  obtain ⟨x, _, h⟩ := List.mem_flatMap.1 hu
  simp [wrC] at h
  rcases h with rfl | rfl <;> rfl
theorem intsC_one (l : List Int) : ∀ u ∈ intsC l, u.oneCell' = true := by
  intro u hu
  obtain ⟨x, _, rfl⟩ := List.mem_map.1 hu
  rfl
theorem blsC_one (l : List Bool) : ∀ u ∈ blsC l, u.oneCell' = true := by
  intro u hu
  obtain ⟨x, _, rfl⟩ := List.mem_map.1 hu
  rfl
theorem wrsC_at : ∀ {l : List Wr} {j : Nat} {x : Wr}, l[j]? = some x → (wrsC l)[j * 2]? = some (.int .i64 x.1) ∧ (wrsC l)[j * 2 + 1]? = some (.int .i64 x.2)
  | [], _, _, h => by simp at h
  | y :: t, 0, x, h => by
    simp only [List.getElem?_cons_zero, Option.some.injEq] at h
    subst h
    exact ⟨rfl, rfl⟩
  | y :: t, j + 1, x, h => by
    have := wrsC_at (l := t) (j := j) (x := x) (by simpa using h)
    rw [wrsC_cons, show (j + 1) * 2 = j * 2 + 1 + 1 by omega]
    simp only [List.getElem?_cons_succ]
    exact this
theorem wrsC_take : ∀ (l : List Wr) (m : Nat), (wrsC l).take (m * 2) = wrsC (l.take m)
  | [], m => by simp [wrsC]
  | x :: l, 0 => by simp [wrsC]
  | x :: l, m + 1 => by
    rw [wrsC_cons, show (m + 1) * 2 = m * 2 + 1 + 1 by omega, List.take_succ_cons, List.take_succ_cons, List.take_succ_cons, wrsC_cons, wrsC_take l m]
theorem wrsC_drop : ∀ (l : List Wr) (m : Nat), (wrsC l).drop (m * 2) = wrsC (l.drop m)
  | [], m => by simp [wrsC]
  | x :: l, 0 => by simp [wrsC]
  | x :: l, m + 1 => by
    rw [wrsC_cons, show (m + 1) * 2 = m * 2 + 1 + 1 by omega, List.drop_succ_cons, List.drop_succ_cons, List.drop_succ_cons, wrsC_drop l m]
theorem intsC_len (l : List Int) : (intsC l).length = l.length := by simp [intsC]
theorem blsC_len (l : List Bool) : (blsC l).length = l.length := by simp [blsC]
/-- A cell stored into a row of integers. -/
theorem intsC_set (xs : List Int) (j : Nat) (v : Int) (hj : j < xs.length) : (((intsC xs).toArray.toList.take j ++ (Value.int .i64 v).cells.toList ++ (intsC xs).toArray.toList.drop (j + (Value.int .i64 v).cells.size)).toArray) = (intsC (xs.set j v)).toArray := by
  congr 1
  have e : (intsC xs).toArray.toList = intsC xs := rfl
  have e2 : (Value.int .i64 v).cells.toList = [Value.int .i64 v] := rfl
  have e3 : (Value.int .i64 v).cells.size = 1 := rfl
  rw [e, e2, e3]
  unfold intsC
  rw [List.map_set, List.set_eq_take_append_cons_drop, if_pos (by simpa using hj)]
  simp
end DK

/-- A slice of integers, of writes, of truths, made since block lo. -/
def Cls (lo : Nat) (w : World) (A : Option Addr) (n c : Nat) (xs : List Int) : Prop := Rw 3 1 lo w A n c (DK.intsC xs)
def Wrs (lo : Nat) (w : World) (A : Option Addr) (n c : Nat) (ws : List DK.Wr) : Prop := Rw 46 2 lo w A n c (DK.wrsC ws)
def Bls (lo : Nat) (w : World) (A : Option Addr) (n c : Nat) (bs : List Bool) : Prop := Rw 4 1 lo w A n c (DK.blsC bs)
section
variable {lo lo' n c : Nat} {w w' : World} {A : Option Addr} {xs : List Int} {ws : List DK.Wr} {bs : List Bool}
theorem Cls.len (h : Cls lo w A n c xs) : xs.length = n := by have := Rw.len h; rw [DK.intsC_len] at this; omega
theorem Wrs.len (h : Wrs lo w A n c ws) : ws.length = n := by have := Rw.len h; rw [DK.wrsC_len] at this; omega
theorem Bls.len (h : Bls lo w A n c bs) : bs.length = n := by have := Rw.len h; rw [DK.blsC_len] at this; omega
theorem Cls.keep (h : Cls lo w A n c xs) (hb : Below w.heap.size w w') : Cls lo w' A n c xs := Rw.keep h hb
theorem Wrs.keep (h : Wrs lo w A n c ws) (hb : Below w.heap.size w w') : Wrs lo w' A n c ws := Rw.keep h hb
theorem Bls.keep (h : Bls lo w A n c bs) (hb : Below w.heap.size w w') : Bls lo w' A n c bs := Rw.keep h hb
theorem Cls.more (h : Cls lo w A n c xs) (hl : lo' ≤ lo) : Cls lo' w A n c xs := Rw.more h hl
theorem Wrs.more (h : Wrs lo w A n c ws) (hl : lo' ≤ lo) : Wrs lo' w A n c ws := Rw.more h hl
theorem Cls.at_ (h : Cls lo w A n c xs) {k : Nat} (hk : k < n) : ∃ g off x, A = some ⟨g, off, none⟩ ∧ lo ≤ g ∧ g < w.heap.size ∧ xs[k]? = some x ∧ w.cell? ⟨g, off + k, none⟩ = some (.int .i64 x) := by
  obtain ⟨g, off, e, hl, hg, hc⟩ := Rw.cell h (by omega)
  have hx : xs[k]? = some xs[k]! := by
    have := h.len
    rw [List.getElem?_eq_getElem (by omega), getElem!_pos xs k (by omega)]
  exact ⟨g, off, _, e, hl, hg, hx, hc k _ (by unfold DK.intsC; rw [List.getElem?_map, hx]; rfl)⟩
theorem Wrs.at_ (h : Wrs lo w A n c ws) {k : Nat} (hk : k < n) : ∃ g off a v, A = some ⟨g, off, none⟩ ∧ lo ≤ g ∧ g < w.heap.size ∧ ws[k]? = some (a, v) ∧ w.cell? ⟨g, off + k * 2, none⟩ = some (.int .i64 a) ∧ w.cell? ⟨g, off + k * 2 + 1, none⟩ = some (.int .i64 v) := by
  obtain ⟨g, off, e, hl, hg, hc⟩ := Rw.cell h (by omega)
  obtain ⟨⟨a, v⟩, hx⟩ : ∃ x, ws[k]? = some x := ⟨_, List.getElem?_eq_getElem (by rw [h.len]; exact hk)⟩
  obtain ⟨h0, h1⟩ := DK.wrsC_at hx
  exact ⟨g, off, a, v, e, hl, hg, hx, hc _ _ h0, by rw [Nat.add_assoc]; exact hc _ _ h1⟩
theorem Bls.at_ (h : Bls lo w A n c bs) {k : Nat} (hk : k < n) : ∃ g off b, A = some ⟨g, off, none⟩ ∧ lo ≤ g ∧ g < w.heap.size ∧ bs[k]? = some b ∧ w.cell? ⟨g, off + k, none⟩ = some (.bool b) := by
  obtain ⟨g, off, e, hl, hg, hc⟩ := Rw.cell h (by omega)
  obtain ⟨b, hx⟩ : ∃ x, bs[k]? = some x := ⟨_, List.getElem?_eq_getElem (by rw [h.len]; exact hk)⟩
  exact ⟨g, off, b, e, hl, hg, hx, hc k _ (by unfold DK.blsC; rw [List.getElem?_map, hx]; rfl)⟩
theorem Cls.ints (h : Cls lo w A n c xs) : Ints .i64 w.heap.size w A n xs := by
  refine ⟨h.len, fun hn => ?_⟩
  obtain ⟨g, off, e, hl, hg, hc⟩ := Rw.cell h hn
  refine ⟨g, off, e, hg, fun j hj => hc j _ ?_⟩
  unfold DK.intsC
  rw [List.getElem?_map, List.getElem?_eq_getElem (by rw [h.len]; exact hj)]
  rfl
theorem Cls.of_block {g : Nat} (hg : w.heap[g]? = some (.cells (DK.intsC xs).toArray 3 (0, 0))) (hl : lo ≤ g) (hn : xs.length = n) (hm : n ≤ 100000) : Cls lo w (some ⟨g, 0, none⟩) n n xs :=
  Rw.of_block hg hl (by rw [DK.intsC_len]; omega) (Nat.le_refl _) (by simp [maxLen]; omega) fun j u hu => by simpa using hu
end
/-- The value is a disk, made since block lo. -/
def DkAt (lo : Nat) (w : World) (x : Value) (d : DK.Dk) : Prop := ∃ A n c P m q, x = .agg #[.slice A n c, .slice P m q] ∧ Cls lo w A n c d.cells ∧ Wrs lo w P m q d.pend
theorem DkAt.keep {lo : Nat} {w w' : World} {x : Value} {d : DK.Dk} (h : DkAt lo w x d) (hb : Below w.heap.size w w') : DkAt lo w' x d := by
  obtain ⟨A, n, c, P, m, q, e, h1, h2⟩ := h
  exact ⟨A, n, c, P, m, q, e, h1.keep hb, h2.keep hb⟩
theorem DkAt.more {lo lo' : Nat} {w : World} {x : Value} {d : DK.Dk} (h : DkAt lo w x d) (hl : lo' ≤ lo) : DkAt lo' w x d := by
  obtain ⟨A, n, c, P, m, q, e, h1, h2⟩ := h
  exact ⟨A, n, c, P, m, q, e, h1.more hl, h2.more hl⟩
theorem dk_new_at {V : World} {o : Obj} {g : Nat} (hg : g = V.heap.size) : (V.alloc o).heap[g]? = some o := by
  subst hg
  exact World.alloc_heap_new V o
theorem dk_box (w : World) (o : Obj) : Below w.heap.size w (w.alloc o) := (Below.refl _ _).alloc (Nat.le_refl _) _
theorem dk_drewN (w : World) (q : Nat) : Below w.heap.size w (w.drewN q) := ⟨rfl, rfl, rfl, Nat.le_refl _, fun _ _ => rfl⟩
theorem dk_two {V : World} {g : Nat} {t : TypeId} {x0 x1 : Value} (h : V.heap[g]? = some (.cells #[x0, x1] t (0, 0))) : V.cell? ⟨g, 0, none⟩ = some x0 ∧ V.cell? ⟨g, 1, none⟩ = some x1 :=
  ⟨cell_of_row _ _ 0 _ _ (0, 0) h, cell_of_row _ _ 1 _ _ (0, 0) h⟩
end Go.Proofs.Ytgdefhlcgmibcaa
