/-
  Slices in memory by their cells, of elements of any size; the laws of copy and make over them. No function of the program.
-/
import Derived.Test.YtgdefhlcgmibcaaBase
import Derived.Test.YtgdefhlcgmibcaaRgT
import Derived.Test.YtgdefhlcgmibcaaRgN
import Derived.Laws.MakeOwn
namespace Go.Proofs.Ytgdefhlcgmibcaa
open Go Go.RowKit Go.Proofs

/-- A slice of elements of sz cells each, in a plain block of elements of type t that was made since block lo; nil let in. -/
def Rw (t : TypeId) (sz lo : Nat) (w : World) (A : Option Addr) (n c : Nat) (vs : List Value) : Prop :=
  vs.length = n * sz ∧ n ≤ c ∧ c ≤ maxLen ∧ ((A = none ∧ c = 0) ∨ ∃ g off C, A = some ⟨g, off, none⟩ ∧ lo ≤ g ∧ w.heap[g]? = some (.cells C t (0, 0)) ∧ ∀ j u, vs[j]? = some u → C[off + j]? = some u)
section
variable {t : TypeId} {sz lo lo' n c : Nat} {w w' : World} {A : Option Addr} {vs : List Value}
theorem blk_lt {w : World} {b : Nat} {o : Obj} (h : w.heap[b]? = some o) : b < w.heap.size := (Array.getElem?_eq_some_iff.1 h).1
theorem Rw.len (h : Rw t sz lo w A n c vs) : vs.length = n * sz := h.1
theorem Rw.le (h : Rw t sz lo w A n c vs) : n ≤ c := h.2.1
theorem Rw.cap (h : Rw t sz lo w A n c vs) : c ≤ maxLen := h.2.2.1
theorem Rw.keepTo {B : Nat} (h : Rw t sz lo w A n c vs) (hk : ∀ g C, w.heap[g]? = some (.cells C t (0, 0)) → lo ≤ g → w'.heap[g]? = w.heap[g]?) (hl : B ≤ lo) : Rw t sz B w' A n c vs := by
  obtain ⟨h1, h2, h3, h4⟩ := h
  refine ⟨h1, h2, h3, ?_⟩
  rcases h4 with h4 | ⟨g, off, C, e, hg, hc, hj⟩
  · exact .inl h4
  · exact .inr ⟨g, off, C, e, Nat.le_trans hl hg, (hk g C hc hg).trans hc, hj⟩
theorem Rw.keep (h : Rw t sz lo w A n c vs) (hb : Below w.heap.size w w') : Rw t sz lo w' A n c vs := h.keepTo (fun g _ hc _ => hb.block g (blk_lt hc)) (Nat.le_refl _)
theorem Rw.more (h : Rw t sz lo w A n c vs) (hl : lo' ≤ lo) : Rw t sz lo' w A n c vs := h.keepTo (fun _ _ _ _ => rfl) hl
theorem Rw.cell (h : Rw t sz lo w A n c vs) (hn : 0 < n) : ∃ g off, A = some ⟨g, off, none⟩ ∧ lo ≤ g ∧ g < w.heap.size ∧ ∀ j u, vs[j]? = some u → w.cell? ⟨g, off + j, none⟩ = some u := by
  obtain ⟨h1, h2, h3, h4⟩ := h
  rcases h4 with ⟨rfl, rfl⟩ | ⟨g, off, C, e, hg, hc, hj⟩
  · omega
  · exact ⟨g, off, e, hg, blk_lt hc, fun j u hu => (cell_of_row w g (off + j) C t (0, 0) hc).trans (hj j u hu)⟩
theorem Rw.src (h : Rw t sz lo w A n c vs) : RgX.Src w A n c vs := by
  obtain ⟨h1, h2, h3, h4⟩ := h
  rcases h4 with ⟨rfl, rfl⟩ | ⟨g, off, C, e, hg, hc, hj⟩
  · obtain rfl : n = 0 := by omega
    exact .inl ⟨rfl, rfl, rfl, List.eq_nil_of_length_eq_zero (by omega)⟩
  · refine .inr ⟨_, e, fun j u hu => ?_⟩
    rw [Addr.add_lit]
    exact (cell_of_row w g (off + j) C t (0, 0) hc).trans (hj j u hu)
theorem Rw.nil (t : TypeId) (sz lo : Nat) (w : World) : Rw t sz lo w none 0 0 [] := ⟨by simp, Nat.le_refl _, by simp [maxLen], .inl ⟨rfl, rfl⟩⟩
/-- A block that is known whole, as a slice of its first elements. -/
theorem Rw.of_block {g : Nat} {C : Array Value} (hg : w.heap[g]? = some (.cells C t (0, 0))) (hl : lo ≤ g) (h1 : vs.length = n * sz) (h2 : n ≤ c) (h3 : c ≤ maxLen) (hC : ∀ (j : Nat) (u : Value), vs[j]? = some u → C[j]? = some u) : Rw t sz lo w (some ⟨g, 0, none⟩) n c vs :=
  ⟨h1, h2, h3, .inr ⟨g, 0, C, rfl, hl, hg, fun j u hu => by rw [Nat.zero_add]; exact hC j u hu⟩⟩
/-- The first m elements of a slice. -/
theorem Rw.front {m : Nat} (h : Rw t sz lo w A n c vs) (hm : m ≤ n) : Rw t sz lo w A m c (vs.take (m * sz)) := by
  obtain ⟨h1, h2, h3, h4⟩ := h
  have hmn : m * sz ≤ n * sz := Nat.mul_le_mul_right _ hm
  refine ⟨by rw [List.length_take]; omega, by omega, h3, ?_⟩
  rcases h4 with h4 | ⟨g, off, C, e, hg, hc, hj⟩
  · exact .inl h4
  · refine .inr ⟨g, off, C, e, hg, hc, fun j u hu => hj j u ?_⟩
    rw [List.getElem?_take] at hu
    split at hu
    · exact hu
    · cases hu
/-- What an own row is. -/
theorem Rw.of_own {base : Nat} (h : w.ownsRow base t sz (.slice A n c) n vs) : Rw t sz base w A n c vs := by
  rcases h.2 with ⟨e1, e2⟩ | ⟨g, cap, cur, e1, hb, hg, h1, h2, h3, h4⟩
  · injection e1 with ea eb ec
    subst ea
    subst e2
    refine ⟨by have := h.1; simpa using this, by omega, by rw [ec]; simp [maxLen], .inl ⟨rfl, ec⟩⟩
  · injection e1 with ea eb ec
    subst ea
    subst ec
    refine ⟨h.1, h1, h2, .inr ⟨g, 0, cur, rfl, hb, hg, fun j u hu => ?_⟩⟩
    rw [Nat.zero_add]
    have hl : vs.length = n * sz := h.1
    have hj : j < n * sz := by
      have := (List.getElem?_eq_some_iff.1 hu).1
      omega
    have e : (cur.toList.take (n * sz))[j]? = vs[j]? := by rw [h4]
    rw [List.getElem?_take_of_lt hj, Array.getElem?_toList] at e
    rw [e]
    exact hu
end
/-- Two slices of one address and length with cells that lie there: the same cells. -/
theorem run_copy_any {P : Program} (w : World) (dT sT ty elem : TypeId) (g o dLen dCap : Nat) (A : Option Addr) (sLen sCap size : Nat) (cur : Array Value) (t : TypeId) (cs : List Value)
    (hu : P.underlying dT = some (.slice elem)) (hs : (P.info? elem).map (·.size) = some size)
    (hg : w.heap[g]? = some (.cells cur t (0, 0))) (hn : cs.length = Nat.min sLen dLen * size)
    (hsrc : (A = none ∧ sLen = 0 ∧ sCap = 0) ∨ ∃ a, A = some a ∧ ∀ j v, cs[j]? = some v → w.cell? (a.add j) = some v) (hfit : o + cs.length ≤ cur.size) (h1 : ∀ v ∈ cs, v.oneCell' = true) :
    (Builtin.copy_ #[dT, sT] ty #[.slice (some ⟨g, o, none⟩) dLen dCap, .slice A sLen sCap]).run P w =
      .ok (goInt (Nat.min sLen dLen)) (w.setRow g (cur.toList.take o ++ cs ++ cur.toList.drop (o + cs.length)).toArray) := by
  cases hq : P.info? elem with
  | none => simp [hq] at hs
  | some i =>
    have hi : i.size = size := by simpa [hq] using hs
    rcases hsrc with ⟨rfl, rfl, rfl⟩ | ⟨a, rfl, hc⟩
    · obtain rfl : cs = [] := List.eq_nil_of_length_eq_zero (by simpa using hn)
      simp [Builtin.copy_, run_underlying hu, Builtin.lenOf, Builtin.firstCells, sizeOf, typeInfo, hq, storeCells, setRow_self w g cur t (0, 0) hg]
    · have hl := run_loadCells_list (P := P) w a cs hc
      have hst := run_storeCells_at P g o t cs 0 cur w hg (by simpa using hfit) h1
      rw [hn] at hl
      simp [Builtin.copy_, run_underlying hu, Builtin.lenOf, Builtin.firstCells, sizeOf, typeInfo, hq, hi, hl, hst]
theorem wpList_copy_any {P : Program} {w : World} {ops : Array Oper} {rest : List Oper} {o : Oper} {a : Act} {Q : Exit → Act → World → Prop} (hgd : o.guard = none) (d s : Operand) (dT sT : TypeId)
    (ho : o.op = .call { callee := .builtin .copy, args := #[d, s], argTypes := #[dT, sT] }) (elem : TypeId) (size : Nat) (hu : P.underlying dT = some (.slice elem)) (hs : (P.info? elem).map (·.size) = some size)
    (g off dLen dCap : Nat) (A : Option Addr) (sLen sCap : Nat) (hd : a.eval d = .slice (some ⟨g, off, none⟩) dLen dCap) (hx : a.eval s = .slice A sLen sCap)
    (cur : Array Value) (t : TypeId) (hg : w.heap[g]? = some (.cells cur t (0, 0))) (cs : List Value) (hn : cs.length = Nat.min sLen dLen * size)
    (hsrc : (A = none ∧ sLen = 0 ∧ sCap = 0) ∨ ∃ a, A = some a ∧ ∀ j v, cs[j]? = some v → w.cell? (a.add j) = some v) (hfit : off + cs.length ≤ cur.size) (h1 : ∀ v ∈ cs, v.oneCell' = true)
    (C' : Array Value) (hC : C' = (cur.toList.take off ++ cs ++ cur.toList.drop (off + cs.length)).toArray)
    (h : ∀ W', W'.heap[g]? = some (.cells C' t (0, 0)) → (∀ b, b ≠ g → W'.heap[b]? = w.heap[b]?) → W'.heap.size = w.heap.size → Below g w W' → wpList P ops Q rest (a.put o.dst (goInt (Nat.min sLen dLen))) W') : wpList P ops Q (o :: rest) a w := by
  subst hC
  refine wpList_plain hgd fun K hK => ?_
  have hrun := run_copy_any (P := P) w dT sT o.type elem g off dLen dCap A sLen sCap size cur t cs hu hs hg hn hsrc hfit h1
  unfold Oper.wp
  simp only [execOp, ho, resolve, invoke, builtin, Sem.run_bind, Sem.run_pure, Result.andThen_ok, List.map_toArray, List.map_cons, List.map_nil, hd, hx, hrun]
  exact hK _ _ (h _ (setRow_heap w g cur _ t _ hg) (fun b hb => setRow_other w g b _ hb) (by simp) (below_setRow (Below.refl g w) (Nat.le_refl _) _))
theorem Rw.copySrc {t : TypeId} {sz lo n c : Nat} {w : World} {A : Option Addr} {vs : List Value} (h : Rw t sz lo w A n c vs) (k : Nat) : (A = none ∧ n = 0 ∧ c = 0) ∨ ∃ a, A = some a ∧ ∀ j v, (vs.take k)[j]? = some v → w.cell? (a.add j) = some v := by
  rcases h.src with ⟨h1, h2, h3, _⟩ | ⟨ad, e, hc⟩
  · exact .inl ⟨h1, h2, h3⟩
  · refine .inr ⟨ad, e, fun j v hv => hc j v ?_⟩
    rw [List.getElem?_take] at hv
    split at hv
    · exact hv
    · cases hv
theorem run_makeN {P : Program} (t e : TypeId) (i : TypeInfo) (z : Value) (ht : P.underlying t = some (.slice e)) (hi : P.info? e = some i) (hz : i.zero = some z)
    (kl kc : IntKind) (n c : Nat) (hnc : n ≤ c) (hbytes : i.bytes * c ≤ 281474976710656) (h63 : c ≤ 9223372036854775807) (w : World) :
    (Instr.makeSlice t (.int kl (n : Int)) (.int kc (c : Int))).run P w = .ok (.slice (some ⟨w.heap.size, 0, none⟩) n c) (w.alloc (.cells (madeCells z.cells (c * i.size)) e)) := by
  have hb : (i.bytes : Int) * (c : Int) ≤ 281474976710656 := by
    have h : ((i.bytes * c : Nat) : Int) ≤ 281474976710656 := by omega
    rwa [Int.natCast_mul] at h
  have hr := run_make (P := P) w t e i z ht hi hz kl kc n c (by omega) (by omega) hb (by omega)
  simp only [Int.toNat_natCast] at hr
  exact hr
theorem madeN_one (z : Value) (n : Nat) (h : z.cells = #[z]) : madeCells z.cells n = Array.replicate n z := by
  apply Array.ext
  · simp [size_madeCells]
  · intro i h1 h2
    simp [madeCells, h, Nat.mod_one]
end Go.Proofs.Ytgdefhlcgmibcaa
