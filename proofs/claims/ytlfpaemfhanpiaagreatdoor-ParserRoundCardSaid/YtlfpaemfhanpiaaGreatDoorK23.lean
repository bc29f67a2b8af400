/-
  The parser in memory: its block, the tokens that are left; what a parsing function does. No function of the program.
-/
import Derived.Test.YtlfpaemfhanpiaaGreatDoorK2
import Derived.Test.YtlfpaemfhanpiaaGreatDoorK22
import Derived.Test.YtlfpaemfhanpiaaGreatDoorK3

namespace Go.Proofs.YtlfpaemfhanpiaaGreatDoor
open Go Go.RowKit Go.Proofs
attribute [local go_sem] Oper.semAt_some

/-- What parsing leaves alone: the block of the tokens, the parser's block, and its cells behind the level. -/
structure Pc where
  tb : Nat
  g : Nat
  dv : Value
  vv : Value
  ov : Value
  mv : Value
  mb : Nat
  mo : Obj
/-- The tokens ts lie from place off on in the tokens' block; the map of the statements stands. -/
structure Tks (W : World) (K : Pc) (off : Nat) (ts : List LX.Tok) : Prop where
  cell : ∀ i t, ts[i]? = some t → Tk4 W K.tb (off + i) t
  lt : K.tb < W.heap.size
  map : W.heap[K.mb]? = some K.mo
  big : ts.length ≤ 4000
  good : PS.Good ts
/-- The parser K, with these tokens left, at this level. -/
def PAt (W : World) (K : Pc) (ts : List LX.Tok) (lv : Nat) : Prop :=
  ∃ off c, W.heap[K.g]? = some (.cells #[.slice (some ⟨K.tb, off * 4, none⟩) ts.length c, .int .i64 (lv : Int), K.dv, K.vv, K.ov, K.mv] 71 (0, 0)) ∧ ts.length ≤ c ∧ c ≤ maxLen ∧ Tks W K off ts ∧ K.tb ≠ K.g ∧ K.mb ≠ K.g
/-- The panic that ends the parsing. -/
abbrev failV (p e : Nat) : Ending := .panicked [{ v := .iface 66 (.agg #[.int .i64 (p : Int), .int .i64 (e : Int)]), recovered := false }]
/-- What a parsing function does that began at V. -/
def PRes (V : World) (K : Pc) (lv : Nat) (R : PS.PR TY.Nd) (e : Ending) (w' : World) : Prop :=
  Chg (· = K.g) V w' ∧ match R with
  | .ok t r => ∃ v, e = .returned v ∧ Nw V.heap.size w' t v ∧ PAt w' K r lv
  | .err p c => e = failV p c
  | .out => False
section
variable {W W' : World} {K : Pc} {ts : List LX.Tok} {lv off : Nat}
theorem Tks.keep (h : Tks W K off ts) (hk : W'.heap[K.tb]? = W.heap[K.tb]?) (hm : W'.heap[K.mb]? = W.heap[K.mb]?) (hz : W.heap.size ≤ W'.heap.size) : Tks W' K off ts :=
  ⟨fun i t ht => (h.cell i t ht).keep hk, Nat.lt_of_lt_of_le h.lt hz, hm.trans h.map, h.big, h.good⟩
theorem PAt.lt (h : PAt W K ts lv) : K.g < W.heap.size := by
  obtain ⟨off, c, h1, _⟩ := h
  exact heap_lt h1
theorem PAt.ltb (h : PAt W K ts lv) : K.tb < W.heap.size := by
  obtain ⟨off, c, _, _, _, h1, _⟩ := h
  exact h1.lt
theorem PAt.ltm (h : PAt W K ts lv) : K.mb < W.heap.size := by
  obtain ⟨off, c, _, _, _, h1, _⟩ := h
  exact heap_lt h1.map
theorem PAt.good (h : PAt W K ts lv) : PS.Good ts := by
  obtain ⟨off, c, _, _, _, h1, _⟩ := h
  exact h1.good
theorem PAt.keep (h : PAt W K ts lv) (hb : Below W.heap.size W W') : PAt W' K ts lv := by
  have hl := h.lt
  have hlb := h.ltb
  have hlm := h.ltm
  obtain ⟨off, c, h1, h2, h3, h4, h5⟩ := h
  exact ⟨off, c, (hb.block _ hl).trans h1, h2, h3, h4.keep (hb.block _ hlb) (hb.block _ hlm) hb.size, h5⟩
theorem PAt.alloc (h : PAt W K ts lv) (o : Obj) : PAt (W.alloc o) K ts lv := h.keep ((Below.refl _ _).alloc (Nat.le_refl _) o)
theorem PAt.drew (h : PAt W K ts lv) : PAt W.drew K ts lv := h.keep ((Below.refl _ _).drew)
theorem PAt.drewN (h : PAt W K ts lv) (n : Nat) : PAt (W.drewN n) K ts lv := h.keep ⟨rfl, rfl, rfl, Nat.le_refl _, fun _ _ => rfl⟩
end
end Go.Proofs.YtlfpaemfhanpiaaGreatDoor
