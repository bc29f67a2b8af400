/-
  The laws of make at integers. No condition.
  Words for poset's memory: a set of few elements (no word or one), the rows above, the frontier, the order. No function of the program.
  The contracts of poset's sets: newSet, has, add, remove, addAll, removeAll, meets. Condition: the elements are less than 14.
-/
import Derived.Test.YtlomhoohmcnniaaDoorK2
import Derived.Test.YtlomhoohmcnniaaDoorK10
import Derived.Deep.RegionHeld3
import Derived.Deep.RegionLaw
import Derived.Deep.AppendLies
import Derived.Laws.MakeOwn
import Derived.Lib.SliceRun
import Derived.Test.YtlomhoohmcnniaaDoorK12
import Derived.RegionTactic
import Derived.Laws.BitsAllLaws
import Derived.Deep.QuietTactic
import Derived.BigQuiet

namespace Go.Proofs.YtlomhoohmcnniaaDoor
open Go Go.RowKit

theorem info_int : (Tryd.prog.info? 3).map (fun i => (i.zero, i.size, i.bytes)) = some (some (.int .i64 0), 1, 8) := by kernel_rfl
theorem made_one (z : Value) (n : Nat) (h : z.cells = #[z]) : madeCells z.cells n = Array.replicate n z := by
  apply Array.ext
  · simp [size_madeCells]
  · intro i h1 h2
    simp [madeCells, h, Nat.mod_one]
theorem run_make_rowN {P : Program} (t e : TypeId) (i : TypeInfo) (z : Value) (ht : P.underlying t = some (.slice e)) (hi : P.info? e = some i) (hz : i.zero = some z)
    (kl kc : IntKind) (n c : Nat) (hnc : n ≤ c) (hbytes : i.bytes * c ≤ 281474976710656) (h63 : c ≤ 9223372036854775807) (w : World) :
    (Instr.makeSlice t (.int kl (n : Int)) (.int kc (c : Int))).run P w = .ok (.slice (some ⟨w.heap.size, 0, none⟩) n c) (w.alloc (.cells (madeCells z.cells (c * i.size)) e)) := by
  have hb : (i.bytes : Int) * (c : Int) ≤ 281474976710656 := by
    have h : ((i.bytes * c : Nat) : Int) ≤ 281474976710656 := by omega
    rwa [Int.natCast_mul] at h
  have hr := run_make (P := P) w t e i z ht hi hz kl kc n c (by omega) (by omega) hb (by omega)
  simp only [Int.toNat_natCast] at hr
  exact hr
/-- make([]int, n, c). -/
theorem make_ints (n c : Nat) (hn : n ≤ c) (hc : c ≤ 100000) : ∀ W : World, (Instr.makeSlice 22 (.int .i64 (n : Int)) (.int .i64 (c : Int))).run Tryd.prog W = .ok (.slice (some ⟨W.heap.size, 0, none⟩) n c) (W.alloc (.cells (Array.replicate c (.int .i64 0)) 3)) := by
  obtain ⟨i, hi, hz, h1, h2⟩ := info_parts info_int
  intro W
  have h := run_make_rowN 22 3 i _ Tryd.underlying22 hi hz .i64 .i64 n c hn (by rw [h2]; omega) (by omega) W
  rw [h1, Nat.mul_one, made_one _ _ rfl] at h
  exact h
theorem own_made (W : World) (base c n : Nat) (hn : n ≤ c) (hc : c ≤ 100000) (hb : base ≤ W.heap.size) : Own (W.alloc (.cells (Array.replicate c (.int .i64 0)) 3)) base (.slice (some ⟨W.heap.size, 0, none⟩) n c) (List.replicate n 0) := by
  refine ⟨by simp, .inr ⟨_, c, _, by simp, hb, World.alloc_heap_new W _, by simpa using hn, by simp [maxLen]; omega, by simp, ?_⟩⟩
  simp [List.take_replicate, Nat.min_eq_left hn, nv]
end Go.Proofs.YtlomhoohmcnniaaDoor

namespace Go.Proofs.YtlomhoohmcnniaaDoor
open Go Go.RowKit Go.Proofs

/-- Block g is a set of k words, bits m. -/
def Sw (W : World) (k g m : Nat) : Prop := k ≤ 1 ∧ (k = 0 → m = 0) ∧ W.heap[g]? = some (.cells (Array.replicate k (.int .u64 (m : Int))) 82 (0, 0))
abbrev sl (g : Nat) : Value := .slice (some ⟨g, 0, none⟩) 1 1
section
variable {W W' : World} {k g m m' : Nat}
theorem Sw.blk (h : Sw W 1 g m) : W.heap[g]? = some (.cells #[.int .u64 (m : Int)] 82 (0, 0)) := h.2.2
theorem Sw.of_blk (h : W.heap[g]? = some (.cells #[.int .u64 (m : Int)] 82 (0, 0))) : Sw W 1 g m := ⟨Nat.le_refl _, (fun e => absurd e (by omega)), h⟩
theorem Sw.cell (h : Sw W 1 g m) : W.cell? ⟨g, 0, none⟩ = some (.int .u64 (m : Int)) := cell_of_row W g 0 _ _ (0, 0) h.blk
theorem Sw.free (h : Sw W k g m) : W.frozen? ⟨g, 0, none⟩ = false := by have := h.2.2; simp [World.frozen?, this]
theorem Sw.lt (h : Sw W k g m) : g < W.heap.size := heap_lt h.2.2
theorem Sw.set (h : Sw W 1 g m) : Sw (W.setCell ⟨g, 0, none⟩ (.int .u64 (m' : Int))) 1 g m' := by
  have h := h.blk
  refine Sw.of_blk ?_
  simp only [World.setCell, Array.getElem?_modify]
  simp [h]
theorem Sw.keep (h : Sw W k g m) (hk : W'.heap[g]? = W.heap[g]?) : Sw W' k g m := ⟨h.1, h.2.1, hk.trans h.2.2⟩
theorem Sw.below (h : Sw W k g m) {B : Nat} (hB : g < B) (hb : Below B W W') : Sw W' k g m := h.keep (hb.block g hB)
theorem Sw.new (W : World) : Sw (W.alloc (.cells #[.int .u64 0] 82)) 1 W.heap.size 0 := Sw.of_blk (World.alloc_heap_new W _)
end
theorem lt256 {m n : Nat} (hm : m < 2 ^ n) (hn : n ≤ 14) : m < 16384 := Nat.lt_of_lt_of_le hm (Nat.pow_le_pow_right (n := 2) (by omega) hn)
theorem po_ofNat64 (a : Nat) (ha : a < 18446744073709551616) : (BitVec.ofInt 64 (a : Int)).toNat = a := by
  rw [BitVec.ofInt_natCast, BitVec.toNat_ofNat]
  exact Nat.mod_eq_of_lt (by omega)
theorem po_wrap (a : Nat) (ha : a < 18446744073709551616) : IntKind.u64.wrap (a : Int) = (a : Int) := by
  show (a : Int) % 18446744073709551616 = a
  omega
theorem po_or (a b : Nat) (ha : a < 16384) (hb : b < 16384) : bits .or .u64 (a : Int) (b : Int) = ((a ||| b : Nat) : Int) := by
  have hx : a ||| b < 2 ^ 14 := Nat.or_lt_two_pow (by omega) (by omega)
  show IntKind.u64.wrap ((BitVec.ofInt 64 (a : Int) ||| BitVec.ofInt 64 (b : Int)).toNat : Int) = _
  rw [BitVec.toNat_or, po_ofNat64 a (by omega), po_ofNat64 b (by omega)]
  exact po_wrap _ (by omega)
theorem po_and (a b : Nat) (ha : a < 18446744073709551616) (hb : b < 18446744073709551616) : bits .and .u64 (a : Int) (b : Int) = ((a &&& b : Nat) : Int) := by
  have hx : a &&& b ≤ a := Nat.and_le_left
  show IntKind.u64.wrap ((BitVec.ofInt 64 (a : Int) &&& BitVec.ofInt 64 (b : Int)).toNat : Int) = _
  rw [BitVec.toNat_and, po_ofNat64 a (by omega), po_ofNat64 b (by omega)]
  exact po_wrap _ (by omega)
theorem po_xor (a b : Nat) (ha : a < 16384) (hb : b < 16384) : bits .xor .u64 (a : Int) (b : Int) = ((a ^^^ b : Nat) : Int) := by
  have hx : a ^^^ b < 2 ^ 14 := Nat.xor_lt_two_pow (by omega) (by omega)
  show IntKind.u64.wrap ((BitVec.ofInt 64 (a : Int) ^^^ BitVec.ofInt 64 (b : Int)).toNat : Int) = _
  rw [BitVec.toNat_xor, po_ofNat64 a (by omega), po_ofNat64 b (by omega)]
  exact po_wrap _ (by omega)
theorem po_andNot (a b : Nat) (ha : a < 16384) (hb : b < 18446744073709551616) : bits .andNot .u64 (a : Int) (b : Int) = ((a ^^^ (a &&& b) : Nat) : Int) := by
  have hx : a ^^^ (a &&& b) < 2 ^ 14 := Nat.xor_lt_two_pow (by omega) (Nat.lt_of_le_of_lt Nat.and_le_left (by omega))
  have e : (BitVec.ofInt 64 (a : Int) &&& ~~~ BitVec.ofInt 64 (b : Int)).toNat = a ^^^ (a &&& b) := by
    rw [BitVec.toNat_and, BitVec.toNat_not, po_ofNat64 a (by omega), po_ofNat64 b hb]
    apply Nat.eq_of_testBit_eq
    intro i
    rw [Nat.testBit_and, Nat.testBit_xor, Nat.testBit_and, show 2 ^ 64 - 1 - b = 2 ^ 64 - (b + 1) by omega, Nat.testBit_two_pow_sub_succ (by omega)]
    cases h1 : a.testBit i with
    | false => simp
    | true =>
      have : i < 64 := Nat.lt_of_lt_of_le (PO.bit_lt (n := 14) (by omega) h1) (by omega)
      simp [this]
  show IntKind.u64.wrap ((BitVec.ofInt 64 (a : Int) &&& ~~~ BitVec.ofInt 64 (b : Int)).toNat : Int) = _
  rw [e]
  exact po_wrap _ (by omega)
theorem po_pow {x : Nat} (hx : x < 14) : 2 ^ x < 16384 := Nat.pow_lt_pow_right (n := 14) (by omega) hx
theorem po_or_pow {m x : Nat} (hm : m < 16384) (hx : x < 14) : bits BinOp.or IntKind.u64 (m : Int) (IntKind.u64.wrap (2 ^ x)) = ((m ||| 2 ^ x : Nat) : Int) := by
  have hp := po_pow hx
  have e : (2 ^ x : Int) = ((2 ^ x : Nat) : Int) := by simp
  rw [e, po_wrap _ (by omega)]
  exact po_or m (2 ^ x) hm hp
theorem po_not_pow {m x : Nat} (hm : m < 16384) (hx : x < 14) : bits BinOp.andNot IntKind.u64 (m : Int) (IntKind.u64.wrap (2 ^ x)) = ((m ^^^ (m &&& 2 ^ x) : Nat) : Int) := by
  have hp := po_pow hx
  have e : (2 ^ x : Int) = ((2 ^ x : Nat) : Int) := by simp
  rw [e, po_wrap _ (by omega)]
  exact po_andNot m (2 ^ x) hm (by omega)
theorem heap_alloc_keep {w W : World} {b : Nat} (h : b < w.heap.size) (o : Obj) (e : w.alloc o = W) : W.heap[b]? = w.heap[b]? := by rw [← e]; exact Below.heap_alloc w o b h

/-- Block ga holds the sets at the blocks ws, of bits R; all lie below hi. -/
structure Ab (W : World) (hi ga : Nat) (ws R : List Nat) : Prop where
  len : ws.length = R.length
  blk : W.heap[ga]? = some (.cells (ws.map sl).toArray 67 (0, 0))
  gin : ga < hi
  row : ∀ i g m : Nat, ws[i]? = some g → R[i]? = some m → Sw W 1 g m
  inn : ∀ g ∈ ws, g < hi
section
variable {W W' : World} {hi hi' ga : Nat} {ws R : List Nat}
theorem Ab.below (h : Ab W hi ga ws R) (hb : Below hi W W') : Ab W' hi ga ws R :=
  ⟨h.len, (hb.block ga h.gin).trans h.blk, h.gin, fun i g m hg hm => (h.row i g m hg hm).below (h.inn g (List.mem_of_getElem? hg)) hb, h.inn⟩
theorem Ab.more (h : Ab W hi ga ws R) (hh : hi ≤ hi') : Ab W hi' ga ws R := ⟨h.len, h.blk, Nat.lt_of_lt_of_le h.gin hh, h.row, fun g hg => Nat.lt_of_lt_of_le (h.inn g hg) hh⟩
theorem Ab.at_ (h : Ab W hi ga ws R) {i : Nat} (hir : i < R.length) : ∃ g, ws[i]? = some g ∧ W.cell? ⟨ga, i, none⟩ = some (.slice (some ⟨g, 0, none⟩) 1 1) ∧ Sw W 1 g (PO.rw_ R i) ∧ g < hi := by
  have hw : i < ws.length := by rw [h.len]; exact hir
  refine ⟨ws[i], List.getElem?_eq_getElem hw, ?_, ?_, h.inn _ (List.getElem_mem hw)⟩
  · rw [cell_of_row W ga i _ _ (0, 0) h.blk]
    simp [hw, sl]
  · have := h.row i ws[i] R[i] (List.getElem?_eq_getElem hw) (List.getElem?_eq_getElem hir)
    unfold PO.rw_
    rw [List.getElem?_eq_getElem hir]
    exact this
theorem Ab.ne (h : Ab W hi ga ws R) {g : Nat} (hg : g ∈ ws) : g ≠ ga := by
  obtain ⟨i, hi, rfl⟩ := List.mem_iff_getElem.1 hg
  have hr : i < R.length := by rw [← h.len]; exact hi
  exact heapT_ne (h.row i _ _ (List.getElem?_eq_getElem hi) (List.getElem?_eq_getElem hr)).2.2 h.blk (by decide)
theorem Ab.set (h : Ab W hi ga ws R) (hd : ws.Nodup) {i g : Nat} (hg : ws[i]? = some g) (m : Nat) : Ab (W.setCell ⟨g, 0, none⟩ (.int .u64 (m : Int))) hi ga ws (R.set i m) := by
  have hne : ga ≠ g := Ne.symm (h.ne (List.mem_of_getElem? hg))
  refine ⟨by rw [List.length_set]; exact h.len, (Below.heap_setCell W ⟨g, 0, none⟩ _ ga hne).trans h.blk, h.gin, fun j g' m' hg' hm' => ?_, h.inn⟩
  by_cases e : i = j
  · subst e
    rw [hg] at hg'
    injection hg' with hg'
    subst hg'
    have hl : i < R.length := by
      have := (List.getElem?_eq_some_iff.1 hm').1
      rwa [List.length_set] at this
    rw [List.getElem?_set_self hl] at hm'
    injection hm' with hm'
    subst hm'
    exact (h.row i g _ hg (List.getElem?_eq_getElem hl)).set
  · rw [List.getElem?_set_ne e] at hm'
    refine (h.row j g' m' hg' hm').keep (Below.heap_setCell W ⟨g, 0, none⟩ _ g' ?_)
    rintro rfl
    obtain ⟨h1, e1⟩ := List.getElem?_eq_some_iff.1 hg
    obtain ⟨h2, e2⟩ := List.getElem?_eq_some_iff.1 hg'
    have hp := List.pairwise_iff_getElem.1 hd
    rcases Nat.lt_trichotomy i j with h3 | h3 | h3
    · exact hp i j h1 h2 h3 (e1.trans e2.symm)
    · exact e h3
    · exact hp j i h2 h1 h3 (e2.trans e1.symm)
end

/-- The frontier at block gf. -/
structure Fr (W : World) (lo gf ga n gw gr k : Nat) (F : Nat → Int) (m : Nat) : Prop where
  fr : W.heap[gf]? = some (.cells #[.slice (some ⟨ga, 0, none⟩) n n, .slice (some ⟨gw, 0, none⟩) n n, .slice (some ⟨gr, 0, none⟩) k k] 101 (0, 0))
  wt : W.heap[gw]? = some (.cells ((List.range n).map fun x => Value.int .i64 (F x)).toArray 3 (0, 0))
  rd : Sw W k gr m
  l1 : lo ≤ gf
  l2 : lo ≤ gw
  l3 : lo ≤ gr
section
variable {W W' : World} {lo gf ga n gw gr k m m' : Nat} {F : Nat → Int}
theorem Fr.ne1 (h : Fr W lo gf ga n gw gr k F m) : gf ≠ gw := heapT_ne h.fr h.wt (by decide)
theorem Fr.ne2 (h : Fr W lo gf ga n gw gr k F m) : gf ≠ gr := heapT_ne h.fr h.rd.2.2 (by decide)
theorem Fr.ne3 (h : Fr W lo gf ga n gw gr k F m) : gw ≠ gr := heapT_ne h.wt h.rd.2.2 (by decide)
theorem Fr.keep (h : Fr W lo gf ga n gw gr k F m) (h1 : W'.heap[gf]? = W.heap[gf]?) (h2 : W'.heap[gw]? = W.heap[gw]?) (h3 : W'.heap[gr]? = W.heap[gr]?) : Fr W' lo gf ga n gw gr k F m :=
  ⟨h1.trans h.fr, h2.trans h.wt, h.rd.keep h3, h.l1, h.l2, h.l3⟩
theorem Fr.lt1 (h : Fr W lo gf ga n gw gr k F m) : gf < W.heap.size := heap_lt h.fr
theorem Fr.lt2 (h : Fr W lo gf ga n gw gr k F m) : gw < W.heap.size := heap_lt h.wt
theorem Fr.lt3 (h : Fr W lo gf ga n gw gr k F m) : gr < W.heap.size := h.rd.lt
theorem Fr.below (h : Fr W lo gf ga n gw gr k F m) (hb : Below W.heap.size W W') : Fr W' lo gf ga n gw gr k F m := h.keep (hb.block _ h.lt1) (hb.block _ h.lt2) (hb.block _ h.lt3)
theorem Fr.c0 (h : Fr W lo gf ga n gw gr k F m) : W.cell? ⟨gf, 0, none⟩ = some (.slice (some ⟨ga, 0, none⟩) n n) := cell_of_row W gf 0 _ _ (0, 0) h.fr
theorem Fr.c1 (h : Fr W lo gf ga n gw gr k F m) : W.cell? ⟨gf, 1, none⟩ = some (.slice (some ⟨gw, 0, none⟩) n n) := cell_of_row W gf 1 _ _ (0, 0) h.fr
theorem Fr.c2 (h : Fr W lo gf ga n gw gr k F m) : W.cell? ⟨gf, 2, none⟩ = some (.slice (some ⟨gr, 0, none⟩) k k) := cell_of_row W gf 2 _ _ (0, 0) h.fr
theorem Fr.cw (h : Fr W lo gf ga n gw gr k F m) {x : Nat} (hx : x < n) : W.cell? ⟨gw, x, none⟩ = some (.int .i64 (F x)) := by
  rw [cell_of_row W gw x _ _ (0, 0) h.wt]
  simp [hx]
theorem Fr.fw (h : Fr W lo gf ga n gw gr k F m) (x : Nat) : W.frozen? ⟨gw, x, none⟩ = false := by simp [World.frozen?, h.wt]
theorem Fr.setw (h : Fr W lo gf ga n gw gr k F m) (x : Nat) (c : Int) : Fr (W.setCell ⟨gw, x, none⟩ (.int .i64 c)) lo gf ga n gw gr k (PO.upd F x c) m := by
  refine ⟨(Below.heap_setCell W ⟨gw, x, none⟩ _ gf h.ne1).trans h.fr, ?_, h.rd.keep (Below.heap_setCell W ⟨gw, x, none⟩ _ gr (Ne.symm h.ne3)), h.l1, h.l2, h.l3⟩
  have hw := h.wt
  simp only [World.setCell, Array.getElem?_modify]
  simp only [↓reduceIte, hw, Option.map_some, Option.some.injEq, Obj.cells.injEq, and_true]
  apply Array.ext_getElem?
  intro i
  show (Array.setIfInBounds _ x _)[i]? = _
  rw [Array.getElem?_setIfInBounds]
  simp only [List.getElem?_toArray, List.getElem?_map, List.size_toArray, List.length_map, List.length_range]
  by_cases e : x = i
  · subst e
    rw [if_pos rfl]
    by_cases hx : x < n
    · rw [if_pos hx, List.getElem?_range hx]
      simp [PO.upd]
    · rw [if_neg hx, List.getElem?_eq_none (by simp; omega)]
      rfl
  · rw [if_neg e]
    by_cases hx : i < n
    · rw [List.getElem?_range hx]
      simp [PO.upd, Ne.symm e]
    · rw [List.getElem?_eq_none (by simp; omega)]
      rfl
theorem Fr.setr (h : Fr W lo gf ga n gw gr 1 F m) (m' : Nat) : Fr (W.setCell ⟨gr, 0, none⟩ (.int .u64 (m' : Int))) lo gf ga n gw gr 1 F m' :=
  ⟨(Below.heap_setCell W ⟨gr, 0, none⟩ _ gf h.ne2).trans h.fr, (Below.heap_setCell W ⟨gr, 0, none⟩ _ gw h.ne3).trans h.wt, h.rd.set, h.l1, h.l2, h.l3⟩
end

/-- Block p is an order of n elements with rows R, all below hi. -/
def Od (W : World) (hi p : Nat) (R : List Nat) : Prop := p < hi ∧ ∃ ga ws, W.heap[p]? = some (.cells #[.slice (some ⟨ga, 0, none⟩) R.length R.length] 70 (0, 0)) ∧ Ab W hi ga ws R
theorem Od.below {W W' : World} {hi p : Nat} {R : List Nat} (h : Od W hi p R) (hb : Below hi W W') : Od W' hi p R := by
  obtain ⟨h0, ga, ws, h1, h2⟩ := h
  exact ⟨h0, ga, ws, (hb.block p h0).trans h1, h2.below hb⟩
theorem Od.more {W : World} {hi hi' p : Nat} {R : List Nat} (h : Od W hi p R) (hh : hi ≤ hi') : Od W hi' p R := by
  obtain ⟨h0, ga, ws, h1, h2⟩ := h
  exact ⟨Nat.lt_of_lt_of_le h0 hh, ga, ws, h1, h2.more hh⟩
end Go.Proofs.YtlomhoohmcnniaaDoor

namespace Go.Proofs.YtlomhoohmcnniaaDoor
open Go Go.RowKit Go.Proofs

theorem po_has {m a : Nat} (ha : a < 14) (hm : m < 16384) : (bits BinOp.and IntKind.u64 ((m : Int) / 2 ^ (a % 64)) 1 == 1) = m.testBit a := by
  have h1 : (m : Int) / 2 ^ (a % 64) = ((m / 2 ^ a : Nat) : Int) := by
    rw [Nat.mod_eq_of_lt (by omega)]
    simp
  have h2 : m / 2 ^ a < 16384 := Nat.lt_of_le_of_lt (Nat.div_le_self _ _) hm
  rw [h1, show (1 : Int) = ((1 : Nat) : Int) from rfl, po_and _ 1 (by omega) (by omega), Nat.testBit_eq_decide_div_mod_eq]
  have h3 : m / 2 ^ a &&& 1 = m / 2 ^ a % 2 := Nat.and_one_is_mod _
  rw [h3, Bool.eq_iff_iff, beq_iff_eq, decide_eq_true_iff]
  omega
set_option maxHeartbeats 1000000 in
theorem has_any (g m a : Nat) (W : World) (h : Sw W 1 g m) (ha : a < 14) (hm : m < 16384) :
    Calls Tryd.prog 31 #[.slice (some ⟨g, 0, none⟩) 1 1, .int .i64 (a : Int)] W fun e w' => e = .returned (.bool (m.testBit a)) ∧ W = w' := by
  have hc := h.cell
  have ha0 : (0 : Int) ≤ (a : Int) := by omega
  have ha8 : (a : Int) < 14 := by omega
  have hq : (a : Int) / 64 = 0 := by omega
  go_enter Tryd.func31, Tryd.ntmps31
  go_wp2_with fail
  rw [po_has ha hm]
  go_ret
  exact ⟨rfl, rfl⟩
set_option maxHeartbeats 2000000 in
theorem add_any (g m a : Nat) (W : World) (h : Sw W 1 g m) (ha : a < 14) (hm : m < 16384) :
    Calls Tryd.prog 41 #[.slice (some ⟨g, 0, none⟩) 1 1, .int .i64 (a : Int)] W fun e w' => (∃ v, e = .returned v) ∧ w' = (W.setCell ⟨g, 0, none⟩ (.int .u64 ((m ||| 2 ^ a : Nat) : Int))).drew := by
  have hc := h.cell
  have hf := h.free
  have ha0 : (0 : Int) ≤ (a : Int) := by omega
  have ha8 : (a : Int) < 14 := by omega
  have hq : (a : Int) / 64 = 0 := by omega
  have hr : a % 64 = a := by omega
  have hr2 : (a : Int) % 64 = (a : Int) := by omega
  have he := po_or_pow hm ha
  go_enter Tryd.func41, Tryd.ntmps41
  go_region
  go_end0
  exact ⟨⟨_, rfl⟩, rfl⟩
set_option maxHeartbeats 2000000 in
theorem remove_any (g m a : Nat) (W : World) (h : Sw W 1 g m) (ha : a < 14) (hm : m < 16384) :
    Calls Tryd.prog 65 #[.slice (some ⟨g, 0, none⟩) 1 1, .int .i64 (a : Int)] W fun e w' => (∃ v, e = .returned v) ∧ w' = (W.setCell ⟨g, 0, none⟩ (.int .u64 ((m ^^^ (m &&& 2 ^ a) : Nat) : Int))).drew := by
  have hc := h.cell
  have hf := h.free
  have ha0 : (0 : Int) ≤ (a : Int) := by omega
  have ha8 : (a : Int) < 14 := by omega
  have hq : (a : Int) / 64 = 0 := by omega
  have hr : a % 64 = a := by omega
  have hr2 : (a : Int) % 64 = (a : Int) := by omega
  have he := po_not_pow hm ha
  go_enter Tryd.func65, Tryd.ntmps65
  go_region
  go_end0
  exact ⟨⟨_, rfl⟩, rfl⟩
/-- How many words a set of n elements has. -/
def wk (n : Nat) : Nat := if n = 0 then 0 else 1
theorem wk_pos {n : Nat} (h : 0 < n) : wk n = 1 := if_neg (by omega)
theorem wk_le (n : Nat) : wk n ≤ 1 := by unfold wk; split <;> omega
set_option maxHeartbeats 2000000 in
theorem newSet_any (n k : Nat) (hn : n ≤ 14) (hk : wk n = k) (W : World) :
    Calls Tryd.prog 39 #[.int .i64 (n : Int)] W fun e w' => e = .returned (.slice (some ⟨W.heap.size, 0, none⟩) k k) ∧ w' = W.alloc (.cells (Array.replicate k (.int .u64 0)) 82) := by
  obtain ⟨i, hi, hz, h1, h2⟩ := info_parts (show (Tryd.prog.info? 82).map (fun i => (i.zero, i.size, i.bytes)) = some (some (.int .u64 0), 1, 8) by kernel_rfl)
  have hk1 : k ≤ 1 := by rw [← hk]; exact wk_le n
  have hq : ((n : Int) + 64 - 1) / 64 = (k : Int) := by
    rcases Nat.eq_zero_or_pos n with h | h
    · subst h; rw [← hk]; rfl
    · rw [← hk, wk_pos h]; omega
  have hq2 : ((n : Int) + 63) / 64 = (k : Int) := by omega
  have hmk : ∀ W : World, (Instr.makeSlice 67 (.int .i64 (k : Int)) (.int .i64 (k : Int))).run Tryd.prog W = .ok (.slice (some ⟨W.heap.size, 0, none⟩) k k) (W.alloc (.cells (Array.replicate k (.int .u64 0)) 82)) := by
    intro W
    have h := run_make_rowN 67 82 i _ Tryd.underlying67 hi hz .i64 .i64 k k (Nat.le_refl _) (by rw [h2]; omega) (by omega) W
    rw [h1, Nat.mul_one, made_one _ _ rfl] at h
    exact h
  clear hk hi hz h1 h2
  go_enter Tryd.func39, Tryd.ntmps39
  go_wp2_with fail
  go_ret
  exact ⟨rfl, rfl⟩
set_option maxHeartbeats 4000000 in
theorem addAll_any (g m g' m' : Nat) (W : World) (h : Sw W 1 g m) (h' : Sw W 1 g' m') (hm : m < 16384) (hm' : m' < 16384) :
    Calls Tryd.prog 62 #[.slice (some ⟨g, 0, none⟩) 1 1, .slice (some ⟨g', 0, none⟩) 1 1] W fun e w' => (∃ v, e = .returned v) ∧ w' = W.setCell ⟨g, 0, none⟩ (.int .u64 ((m ||| m' : Nat) : Int)) := by
  have hc := h.cell
  have hc' := h'.cell
  have hf := h.free
  have he := po_or m m' hm (by omega)
  go_enter Tryd.func62, Tryd.ntmps62
  go_wp2_with fail
  go_loopw [8] (fun i wr => (i = .int .i64 0 ∧ wr = W) ∨ (i = .int .i64 1 ∧ wr = W.setCell ⟨g, 0, none⟩ (.int .u64 ((m ||| m' : Nat) : Int)))) (fun i _ => 1 - (intOf i).toNat)
  case atStart => exact .inl ⟨rfl, rfl⟩
  case round =>
    rcases hrel with ⟨rfl, rfl⟩ | ⟨rfl, rfl⟩
    · go_wp2_with fail
      go_roundw
      case rel => refine .inr ⟨?_, ?_⟩ <;> first | trivial | rfl
      case measure => simp [intOf]
    · go_wp2_with fail
      go_end0
      exact ⟨⟨_, rfl⟩, rfl⟩
set_option maxHeartbeats 4000000 in
theorem removeAll_any (g m g' m' : Nat) (W : World) (h : Sw W 1 g m) (h' : Sw W 1 g' m') (hm : m < 16384) (hm' : m' < 16384) :
    Calls Tryd.prog 44 #[.slice (some ⟨g, 0, none⟩) 1 1, .slice (some ⟨g', 0, none⟩) 1 1] W fun e w' => (∃ v, e = .returned v) ∧ w' = W.setCell ⟨g, 0, none⟩ (.int .u64 ((m ^^^ (m &&& m') : Nat) : Int)) := by
  have hc := h.cell
  have hc' := h'.cell
  have hf := h.free
  have he := po_andNot m m' hm (by omega)
  go_enter Tryd.func44, Tryd.ntmps44
  go_wp2_with fail
  go_loopw [8] (fun i wr => (i = .int .i64 0 ∧ wr = W) ∨ (i = .int .i64 1 ∧ wr = W.setCell ⟨g, 0, none⟩ (.int .u64 ((m ^^^ (m &&& m') : Nat) : Int)))) (fun i _ => 1 - (intOf i).toNat)
  case atStart => exact .inl ⟨rfl, rfl⟩
  case round =>
    rcases hrel with ⟨rfl, rfl⟩ | ⟨rfl, rfl⟩
    · go_wp2_with fail
      go_roundw
      case rel => refine .inr ⟨?_, ?_⟩ <;> first | trivial | rfl
      case measure => simp [intOf]
    · go_wp2_with fail
      go_end0
      exact ⟨⟨_, rfl⟩, rfl⟩
set_option maxHeartbeats 4000000 in
theorem meets_any (g m g' m' : Nat) (W : World) (h : Sw W 1 g m) (h' : Sw W 1 g' m') (hm : m < 16384) (hm' : m' < 16384) :
    Calls Tryd.prog 40 #[.slice (some ⟨g, 0, none⟩) 1 1, .slice (some ⟨g', 0, none⟩) 1 1] W fun e w' => e = .returned (.bool (decide (m &&& m' ≠ 0))) ∧ W = w' := by
  have hc := h.cell
  have hc' := h'.cell
  have he := po_and m m' (by omega) (by omega)
  go_enter Tryd.func40, Tryd.ntmps40
  go_wp2_with fail
  go_loopw [9] (fun i wr => wr = W ∧ (i = .int .i64 0 ∨ (i = .int .i64 1 ∧ m &&& m' = 0))) (fun i _ => 1 - (intOf i).toNat)
  case atStart => exact ⟨rfl, .inl rfl⟩
  case round =>
    obtain ⟨rfl, rfl | ⟨rfl, hz⟩⟩ := hrel
    · by_cases hz : m &&& m' = 0
      · have hb : (((m &&& m' : Nat) : Int) != 0) = false := by rw [hz]; rfl
        have HZ := Lib.hid hz
        clear hz
        go_wp2_with fail
        go_roundw
        case rel => refine ⟨?_, .inr ⟨?_, HZ.out⟩⟩ <;> first | trivial | rfl
        case measure => simp [intOf]
      · have hb : (((m &&& m' : Nat) : Int) != 0) = true := by simp; omega
        have HZ := Lib.hid hz
        clear hz
        go_wp2_with fail
        go_ret
        exact ⟨by rw [decide_eq_true HZ.out]; rfl, rfl⟩
    · have HZ := Lib.hid hz
      clear hz
      go_wp2_with fail
      go_ret
      exact ⟨by rw [HZ.out]; rfl, rfl⟩
end Go.Proofs.YtlomhoohmcnniaaDoor
