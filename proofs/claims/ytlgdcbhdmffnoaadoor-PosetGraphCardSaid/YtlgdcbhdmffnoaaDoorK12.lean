/-
  The memo of the counts: what the map holds; parts of a count. Mathematics and words for memory; no function of the program.
  The contract of Extensions' inner function: the count grows by the number of extensions, up to its bound.
  The contract of Extensions: the number of extensions, up to the bound. Condition: an order of at most 8 elements; the bound is at most 1000000.
  The laws' example holds: lives. Condition: the library's table lies as it lay.
-/
import Derived.Test.YtlgdcbhdmffnoaaDoorK11
import Derived.Maps.AppendAt
import Derived.Maps.OwnIn
import Derived.Test.YtlgdcbhdmffnoaaDoorK7
import Derived.Test.YtlgdcbhdmffnoaaDoorK2

namespace Go.Proofs.YtlgdcbhdmffnoaaDoor
open Go Go.RowKit Go.Proofs
namespace PO
def part (R : List Nat) (f : Nat) (d : List Nat) (a : Nat) : Nat := (((List.range a).filter (canGo (rows R) d)).map fun x => cnt R f (d ++ [x])).sum
theorem part_succ (R : List Nat) (f : Nat) (d : List Nat) (a : Nat) : part R f d (a + 1) = part R f d a + if canGo (rows R) d a then cnt R f (d ++ [a]) else 0 := by
  unfold part
  rw [List.range_succ, List.filter_append, List.map_append, List.sum_append]
  cases h : canGo (rows R) d a <;> simp [h]
theorem part_all (R : List Nat) (f : Nat) (d : List Nat) : part R f d R.length = cnt R (f + 1) d := rfl
theorem part_mono (R : List Nat) (f : Nat) (d : List Nat) {a b : Nat} (h : a ≤ b) : part R f d a ≤ part R f d b := by
  induction b with
  | zero => rw [Nat.le_zero.1 h]; exact Nat.le_refl _
  | succ b ih =>
    rcases Nat.lt_or_ge a (b + 1) with h1 | h1
    · rw [part_succ]
      have := ih (by omega)
      omega
    · rw [Nat.le_antisymm h h1]; exact Nat.le_refl _
theorem part_le (R : List Nat) (f : Nat) (d : List Nat) {a : Nat} (h : a ≤ R.length) : part R f d a ≤ cnt R (f + 1) d := by rw [← part_all]; exact part_mono R f d h
theorem ready_same {R d d' : List Nat} (h : Cl R) (hd : Dn R d) (hd' : Dn R d') (hm : kM (rows R) d = kM (rows R) d') : d.length = d'.length ∧ ∀ f, cnt R f d = cnt R f d' :=
  cnt_ready h hd hd' fun x hx => by
    have hx : x < (rows R).length := by rw [rows_len]; exact hx
    rw [← kM_bit (rows R) d hx, ← kM_bit (rows R) d' hx, hm]
theorem Dn.cl {R d : List Nat} (hs : Small R) (h : Dn R d) : ∀ w ∈ d, ∀ u, u < (rows R).length → w ∈ nb (rows R) u → u ∈ d := fun w hw u _ hn => h.closed w hw u ((lt_nb hs u w).1 hn)
end PO
theorem keyS_eq (m : Nat) : keyS m = ⟨#[UInt8.ofNat m, 0, 0, 0, 0, 0, 0, 0]⟩ := rfl
def kLit (m : Nat) : Lit := .string [UInt8.ofNat m, 0, 0, 0, 0, 0, 0, 0]
theorem kLit_inj {m m' : Nat} (h : m < 256) (h' : m' < 256) (e : kLit m = kLit m') : m = m' := by
  unfold kLit at e
  injection e with e
  injection e with e
  have := congrArg UInt8.toNat e
  simp at this
  omega
theorem key_of (m : Nat) : keyOf Tryd.prog 9 (.string (keyS m)) = some (kLit m) := by
  rw [keyS_eq]
  kernel_rfl
theorem kLit_key (m : Nat) : WideAt.IsKeyLit (kLit m) := by
  unfold kLit WideAt.IsKeyLit
  trivial
/-- The map's block b holds true counts alone. -/
def Memo (W : World) (b c : Nat) (R : List Nat) (n : Nat) : Prop := ∃ D : DataW Unit, W.ownsMap Tryd.prog 9 (plainElem Tryd.prog 3) b c D ∧ ∀ m, m < 256 → Maps.has D (kLit m) = true → ∃ d, PO.Dn R d ∧ PO.kM (PO.rows R) d = m ∧ ∀ z, D.atKey (kLit m) z = DataW.lit (Lit.int .i64 (PO.cnt R (n - d.length) d : Int))
theorem Memo.made (w : World) (R : List Nat) (n : Nat) : Memo (w.alloc (.map #[] 0)) w.heap.size 0 R n := ⟨_, World.ownsMap_made w _ _ _, fun m _ h => by cases h⟩
theorem Memo.kept {W W' : World} {b c n : Nat} {R : List Nat} {row : Option Nat} (h : Memo W b c R n) (hg : W.grownBy W' row) (hr : some b ≠ row) : Memo W' b c R n := by
  obtain ⟨D, h1, h2⟩ := h
  exact ⟨D, h1.kept hg hr, h2⟩
theorem Memo.lt {W : World} {b c n : Nat} {R : List Nat} (h : Memo W b c R n) : b < W.heap.size := by
  obtain ⟨D, h1, _⟩ := h
  exact h1.lt
theorem Memo.ne {W : World} {b c n : Nat} {R : List Nat} (h : Memo W b c R n) {g : Nat} {C : Array Value} {t : TypeId} {fr : Nat × Nat} (hg : W.heap[g]? = some (.cells C t fr)) : b ≠ g := by
  obtain ⟨D, ⟨es, clock, h1, _⟩, _⟩ := h
  rintro rfl
  rw [hg] at h1
  cases h1
theorem Memo.block {W W' : World} {b c n : Nat} {R : List Nat} (h : Memo W b c R n) (hk : W'.heap[b]? = W.heap[b]?) : Memo W' b c R n := by
  obtain ⟨D, ⟨es, clock, h1, h3⟩, h2⟩ := h
  exact ⟨D, ⟨es, clock, hk.trans h1, h3⟩, h2⟩
theorem und_map : Tryd.prog.underlying 86 = some (.map 9 3) := by kernel_rfl
theorem zero_int : ∀ W : World, (zeroValue 3).run Tryd.prog W = .ok (.int .i64 0) W := Tryd.zeroValue3
set_option maxRecDepth 100000 in
theorem Memo.look {W : World} {b c n : Nat} {R d : List Nat} (h : Memo W b c R n) (hc : PO.Cl R) (hd : PO.Dn R d) (hn : R.length = n) (h8 : n ≤ 8) : ∃ (v : Int) (ok : Bool), (Instr.lookup 86 (Value.map (some b)) (.string (keyS (PO.kM (PO.rows R) d))) true).run Tryd.prog W = .ok (.tuple #[.int .i64 v, .bool ok]) W ∧ (ok = true → v = (PO.cnt R (n - d.length) d : Int)) := by
  obtain ⟨D, h1, h2⟩ := h
  have hm : PO.kM (PO.rows R) d < 256 := lt256 (kM_lt' hn d) h8
  obtain ⟨v, ps, h3, h4⟩ := h1.look_ok (Maps.string_keyed Tryd.underlying9) und_map (zero_int W) (plainElem_int Tryd.underlying3 (by decide)) (key_of (PO.kM (PO.rows R) d))
  have hv : ∃ q : Int, v = .int .i64 q ∧ D.atKey (kLit (PO.kM (PO.rows R) d)) (DataW.lit (Lit.int .i64 0)) = DataW.lit (Lit.int .i64 q) := by
    obtain ⟨q, h5, h6, _⟩ := plainElem_int_inv Tryd.underlying3 h4
    exact ⟨q, h5, congrArg Prod.fst h6⟩
  obtain ⟨q, rfl, hq⟩ := hv
  refine ⟨q, Maps.has D (kLit (PO.kM (PO.rows R) d)), h3, fun hok => ?_⟩
  obtain ⟨d', k1, k2, k3⟩ := h2 _ hm hok
  rw [k3] at hq
  injection hq with hq
  injection hq with _ hq
  obtain ⟨e1, e2⟩ := PO.ready_same hc k1 hd k2
  rw [← hq, e1, e2]
set_option maxRecDepth 100000 in
theorem Memo.put {W : World} {b c n : Nat} {R d : List Nat} (h : Memo W b c R n) (hd : PO.Dn R d) (hn : R.length = n) (h8 : n ≤ 8) (hcm : c < maxLen) (hw : (Lit.int .i64 (PO.cnt R (n - d.length) d : Int)).wf = true) :
    ∃ W', (Instr.mapUpdate 86 (Value.map (some b)) (.string (keyS (PO.kM (PO.rows R) d))) (.int .i64 (PO.cnt R (n - d.length) d : Int))).run Tryd.prog W = .ok () W' ∧ Memo W' b (c + 1) R n ∧ W.grownBy W' (some b) := by
  obtain ⟨D, h1, h2⟩ := h
  have hm : PO.kM (PO.rows R) d < 256 := lt256 (kM_lt' hn d) h8
  obtain ⟨W', h3, h4, h5⟩ := h1.update (Maps.string_keyed Tryd.underlying9) und_map hcm (key_of (PO.kM (PO.rows R) d)) (plainElem_int Tryd.underlying3 hw)
  refine ⟨W', h3, ⟨_, h4, fun m hm' hh => ?_⟩, h5⟩
  by_cases e : m = PO.kM (PO.rows R) d
  · subst e
    exact ⟨d, hd, rfl, fun z => Maps.atKey_put_same h1.isMap (kLit_key _) _ z⟩
  · have hne : kLit m ≠ kLit (PO.kM (PO.rows R) d) := fun h => e (kLit_inj hm' hm h)
    rw [Maps.has_put_other hne] at hh
    obtain ⟨d', k1, k2, k3⟩ := h2 m hm' hh
    exact ⟨d', k1, k2, fun z => by rw [Maps.atKey_put_other hne]; exact k3 z⟩
end Go.Proofs.YtlgdcbhdmffnoaaDoor

namespace Go.Proofs.YtlgdcbhdmffnoaaDoor
open Go Go.RowKit Go.Proofs

structure ExA where
  bt : Nat
  bn : Nat
  bk : Nat
  bm : Nat
  bo : Nat
  be : Nat
  gf : Nat
  ga : Nat
  gw : Nat
  gr : Nat
  mb : Nat
  p : Nat
/-- The inner function's arguments behind the first. -/
abbrev ExA.pt (b : Nat) : Value := .pointer (some ⟨b, 0, none⟩)
structure ExJ (w : World) (a : ExA) (n most : Nat) (R d : List Nat) (t c : Nat) (V : World) : Prop where
  bxt : Boxed V a.bt 3 (.int .i64 (t : Int))
  bxn : Boxed V a.bn 84 (.pointer (some ⟨a.gf, 0, none⟩))
  bxk : Boxed V a.bk 86 (.map (some a.mb))
  bxm : Boxed V a.bm 3 (.int .i64 (most : Int))
  bxo : Boxed V a.bo 27 (.pointer (some ⟨a.p, 0, none⟩))
  bxe : Boxed V a.be 73 (.func (.func 52) #[] #[.pointer (some ⟨a.bt, 0, none⟩), .pointer (some ⟨a.bn, 0, none⟩), .pointer (some ⟨a.bk, 0, none⟩), .pointer (some ⟨a.bm, 0, none⟩), .pointer (some ⟨a.bo, 0, none⟩), .pointer (some ⟨a.be, 0, none⟩)])
  fr : FrAt V w.heap.size a.gf a.ga n a.gw a.gr (wk n) R d
  memo : Memo V a.mb c R n
  bel : Below w.heap.size w V
  n1 : a.bt ≠ a.bm
  n2 : a.gw ≠ a.bt
  n3 : a.gw ≠ a.bm
  l1 : w.heap.size ≤ a.bt
  l2 : w.heap.size ≤ a.mb
section
variable {w V V' : World} {a : ExA} {n most t c : Nat} {R d : List Nat}
theorem ExJ.new (h : ExJ w a n most R d t c V) (hb : Below V.heap.size V V') : ExJ w a n most R d t c V' :=
  ⟨(hb.block _ h.bxt.lt).trans h.bxt, (hb.block _ h.bxn.lt).trans h.bxn, (hb.block _ h.bxk.lt).trans h.bxk, (hb.block _ h.bxm.lt).trans h.bxm, (hb.block _ h.bxo.lt).trans h.bxo, (hb.block _ h.bxe.lt).trans h.bxe, h.fr.below hb, h.memo.block (hb.block _ h.memo.lt), h.bel.trans (hb.mono h.bel.size), h.n1, h.n2, h.n3, h.l1, h.l2⟩
theorem ExJ.total (h : ExJ w a n most R d t c V) (t' : Nat) : ExJ w a n most R d t' c (V.setCell ⟨a.bt, 0, none⟩ (.int .i64 (t' : Int))) := by
  have hk : ∀ b, b ≠ a.bt → (V.setCell ⟨a.bt, 0, none⟩ (.int .i64 (t' : Int))).heap[b]? = V.heap[b]? := fun b hb => Below.heap_setCell V ⟨a.bt, 0, none⟩ _ b hb
  have hf := h.fr
  exact ⟨h.bxt.set _, (hk _ (heapT_ne h.bxn h.bxt (by decide))).trans h.bxn, (hk _ (heapT_ne h.bxk h.bxt (by decide))).trans h.bxk, (hk _ (Ne.symm h.n1)).trans h.bxm, (hk _ (heapT_ne h.bxo h.bxt (by decide))).trans h.bxo, (hk _ (heapT_ne h.bxe h.bxt (by decide))).trans h.bxe,
    hf.keep (hk _ (heapT_ne hf.fr h.bxt (by decide))) (hk _ h.n2) (hk _ (heapT_ne hf.rd.2.2 h.bxt (by decide))), h.memo.block (hk _ (h.memo.ne h.bxt)), h.bel.setCell (p := ⟨a.bt, 0, none⟩) h.l1 _, h.n1, h.n2, h.n3, h.l1, h.l2⟩
theorem ExJ.move {d' : List Nat} (h : ExJ w a n most R d t c V) (hc : Chg (fun b => b = a.gw ∨ b = a.gr) V V') (hf : FrAt V' w.heap.size a.gf a.ga n a.gw a.gr (wk n) R d') : ExJ w a n most R d' t c V' := by
  have hk : ∀ b, b < V.heap.size → b ≠ a.gw → b ≠ a.gr → V'.heap[b]? = V.heap[b]? := fun b hb h1 h2 => hc.block b hb (fun e => by rcases e with e | e; exact h1 e; exact h2 e)
  have f := h.fr
  have r := f.rd.2.2
  have q := f.wt
  exact ⟨(hk _ h.bxt.lt (Ne.symm h.n2) (heapT_ne h.bxt r (by decide))).trans h.bxt, (hk _ h.bxn.lt (heapT_ne h.bxn q (by decide)) (heapT_ne h.bxn r (by decide))).trans h.bxn, (hk _ h.bxk.lt (heapT_ne h.bxk q (by decide)) (heapT_ne h.bxk r (by decide))).trans h.bxk, (hk _ h.bxm.lt (Ne.symm h.n3) (heapT_ne h.bxm r (by decide))).trans h.bxm, (hk _ h.bxo.lt (heapT_ne h.bxo q (by decide)) (heapT_ne h.bxo r (by decide))).trans h.bxo, (hk _ h.bxe.lt (heapT_ne h.bxe q (by decide)) (heapT_ne h.bxe r (by decide))).trans h.bxe,
    hf, h.memo.block (hk _ h.memo.lt (h.memo.ne q) (h.memo.ne r)), h.bel.trans (hc.below (fun b _ e => by rcases e with e | e; exact e ▸ f.l2; exact e ▸ f.l3) h.bel.size), h.n1, h.n2, h.n3, h.l1, h.l2⟩
theorem ExJ.put {c' : Nat} (h : ExJ w a n most R d t c V) (hg : V.grownBy V' (some a.mb)) (hm : Memo V' a.mb c' R n) : ExJ w a n most R d t c' V' := by
  have hk : ∀ (b : Nat) (C : Array Value) (t : TypeId) (fr : Nat × Nat), V.heap[b]? = some (.cells C t fr) → V'.heap[b]? = V.heap[b]? := fun b C t fr hb => hg.block b (heap_lt hb) (fun e => by injection e with e; exact h.memo.ne hb e.symm)
  have f := h.fr
  exact ⟨(hk _ _ _ _ h.bxt).trans h.bxt, (hk _ _ _ _ h.bxn).trans h.bxn, (hk _ _ _ _ h.bxk).trans h.bxk, (hk _ _ _ _ h.bxm).trans h.bxm, (hk _ _ _ _ h.bxo).trans h.bxo, (hk _ _ _ _ h.bxe).trans h.bxe, f.keep (hk _ _ _ _ f.fr) (hk _ _ _ _ f.wt) (hk _ _ _ _ f.rd.2.2), hm, h.bel.grown hg h.bel.size (fun b e => by injection e with e; exact e ▸ h.l2), h.n1, h.n2, h.n3, h.l1, h.l2⟩
end
theorem wf_i64 {x : Int} (h1 : -1000000000 ≤ x) (h2 : x ≤ 1000000000) : (Lit.int .i64 x).wf = true := by
  have h3 : IntKind.i64.min = -9223372036854775808 := rfl
  have h4 : IntKind.i64.max = 9223372036854775807 := rfl
  simp [Lit.wf]
  omega
theorem min_l {a b : Nat} (h : a ≤ b) : Nat.min a b = a := Nat.min_eq_left h
set_option maxRecDepth 100000 in
set_option maxHeartbeats 16000000 in
theorem extend_any {w : World} {a : ExA} {n most : Nat} {R ws : List Nat} (hn : n ≤ 8) (hR : R.length = n) (hc : PO.Cl R) (hT : Tab w) (hA : Ab w w.heap.size a.ga ws R) (hO : Od w w.heap.size a.p R) (hmo : most ≤ 1000000) :
    ∀ (f : Nat) (d : List Nat) (t c : Nat) (W : World), PO.Dn R d → d.length + f = n → t < most → c + 9 ^ f < maxLen → ExJ w a n most R d t c W →
    Calls Tryd.prog 52 #[.int .i64 (f : Int), .pointer (some ⟨a.bt, 0, none⟩), .pointer (some ⟨a.bn, 0, none⟩), .pointer (some ⟨a.bk, 0, none⟩), .pointer (some ⟨a.bm, 0, none⟩), .pointer (some ⟨a.bo, 0, none⟩), .pointer (some ⟨a.be, 0, none⟩)] W fun e w' => (∃ v, e = .returned v) ∧ ∃ c', c' ≤ c + 9 ^ f ∧ ExJ w a n most R d (min most (t + PO.cnt R f d)) c' w' := by
  intro f
  induction f with
  | zero =>
    intro d t c W hd hdl ht hcm hJ
    have c1 := hJ.bxt.cell
    have f1 := hJ.bxt.frozen
    have HJ2 := Lib.hid (hJ.total (t + 1))
    have e1 : ((t + 1 : Nat) : Int) = (t : Int) + 1 := by omega
    rw [e1] at HJ2
    have HC := Lib.hid (show min most (t + PO.cnt R 0 d) = t + 1 by show min most (t + 1) = t + 1; omega)
    clear hJ hc hA hO hT e1
    go_enter Tryd.func52, Tryd.ntmps52
    go_wp2_with fail
    refine bodyPost_ret (results_none rfl _ _ _) rfl ?_
    exact ⟨⟨_, rfl⟩, c, by omega, by rw [HC.out]; exact HJ2.out⟩
  | succ f ih =>
    intro d t c W hd hdl ht hcm hJ
    have hn0 : 0 < n := by omega
    have hk1 : wk n = 1 := wk_pos hn0
    have hF := hJ.fr
    rw [hk1] at hF
    have hmlt := lt256 (kM_lt' hR d) hn
    have HKEY := Lib.hid (key_any a.gr (PO.kM (PO.rows R) d) W hF.rd hmlt)
    have c2 := hJ.bxn.cell
    have c3 := hF.c2
    have hne0 : ((f : Int) + 1 == 0) = false := by simp; omega
    have hLs := PO.part_le R f d (a := R.length) (Nat.le_refl _)
    have hDl : n - d.length = f + 1 := by omega
    have HJ := Lib.hid hJ
    have HC := Lib.hid hc
    have HD := Lib.hid hd
    have HIH := Lib.hid ih
    have HT := Lib.hid hT
    have HA := Lib.hid hA
    have HO := Lib.hid hO
    have hsub : (f : Int) + 1 - 1 = (f : Int) := by omega
    clear hJ hc hd ih hT hA hO hF
    go_enter Tryd.func52, Tryd.ntmps52
    go_wp2_with fail
    refine HKEY.out.mono ?_
    rintro e w1 ⟨rfl, hb1⟩
    have hJ1 := HJ.out.new hb1
    have c4 := hJ1.bxk.cell
    obtain ⟨v, ok, hlook, hok⟩ := hJ1.memo.look HC.out HD.out hR hn
    rw [hDl] at hok
    have c5 := hJ1.bxt.cell
    have f5 := hJ1.bxt.frozen
    have c6 := hJ1.bxm.cell
    have c7 := hJ1.bxo.cell
    have HJ1 := Lib.hid hJ1
    clear hJ1 hb1 HJ HKEY c2 c3
    cases ok with
    | true =>
      obtain ⟨x, hx⟩ : ∃ x, PO.cnt R (f + 1) d = x := ⟨_, rfl⟩
      have hv := hok rfl
      rw [hx] at hv
      subst hv
      have HX := Lib.hid hx
      clear hok hx
      by_cases hle : x ≤ most - t
      · have h5 : (x : Int) ≤ (most : Int) - (t : Int) := by omega
        have HC2 := Lib.hid (show min most (t + PO.cnt R (f + 1) d) = t + x by rw [HX.out]; omega)
        have HJ2 := Lib.hid (HJ1.out.total (t + x))
        go_wp2_with fail
        refine bodyPost_ret (results_none rfl _ _ _) rfl ?_
        exact ⟨⟨_, rfl⟩, c, Nat.le_add_right _ _, by rw [HC2.out]; have h := HJ2.out; rw [Int.natCast_add] at h; exact h⟩
      · have h5 : ¬ (x : Int) ≤ (most : Int) - (t : Int) := by omega
        have h6 : (t : Int) + ((most : Int) - (t : Int)) = (most : Int) := by omega
        have HC2 := Lib.hid (show min most (t + PO.cnt R (f + 1) d) = most by rw [HX.out]; omega)
        have HJ2 := Lib.hid (HJ1.out.total most)
        go_wp2_with fail
        refine bodyPost_ret (results_none rfl _ _ _) rfl ?_
        exact ⟨⟨_, rfl⟩, c, Nat.le_add_right _ _, by rw [HC2.out]; exact HJ2.out⟩
    | false =>
      clear hok
      have hod := HO.out.below HJ1.out.bel
      have hlen := len_any hod
      rw [hR] at hlen
      have HLEN := Lib.hid hlen
      clear hlen hod
      go_wp2_with (go_at_call 22; refine HLEN.out.mono ?_; rintro e w' ⟨rfl, rfl⟩)
      go_loopw [39] (fun i V => ∃ (q c' : Nat), q ≤ n ∧ i = .int .i64 (q : Int) ∧ c' ≤ c + q * 9 ^ f ∧ t + PO.part R f d q < most ∧ Hid (ExJ w a n most R d (t + PO.part R f d q) c' V)) (fun i _ => n - (intOf i).toNat)
      case atStart => exact ⟨0, c, Nat.zero_le _, rfl, by omega, (show t + 0 < most from ht), HJ1.out⟩
      case round =>
        obtain ⟨q, c', hq, rfl, hc', hlt, hJ⟩ := hrel
        obtain ⟨T, hTe⟩ : ∃ T, t + PO.part R f d q = T := ⟨_, rfl⟩
        rw [hTe] at hlt hJ
        clear HLEN c4 c5 f5 c6 c7 hlook HJ1
        have d1 := hJ.out.bxt.cell
        have d2 := hJ.out.bxn.cell
        have d3 := hJ.out.bxm.cell
        have d4 := hJ.out.bxe.cell
        have d5 := hJ.out.bxk.cell
        have hF := hJ.out.fr
        rw [hk1] at hF
        have d6 := hF.c2
        by_cases hqn : q < n
        · have hbit := PO.kM_bit (PO.rows R) d (x := q) (by rw [PO.rows_len, hR]; exact hqn)
          have HHAS := Lib.hid (has_any a.gr (PO.kM (PO.rows R) d) q wr hF.rd (by omega) hmlt)
          rw [hbit] at HHAS
          have HPS := Lib.hid (PO.part_succ R f d q)
          have hle9 : q * 9 ^ f + 9 ^ f ≤ 9 ^ (f + 1) := by
            have : (q + 1) * 9 ^ f ≤ 9 * 9 ^ f := Nat.mul_le_mul_right _ (by omega)
            rw [Nat.add_mul, Nat.one_mul] at this
            rw [Nat.pow_succ]
            omega
          have hsm9 : (q + 1) * 9 ^ f = q * 9 ^ f + 9 ^ f := by rw [Nat.add_mul, Nat.one_mul]
          obtain ⟨P9, hP9⟩ : ∃ P, 9 ^ f = P := ⟨_, rfl⟩
          obtain ⟨Q9, hQ9⟩ : ∃ Q, q * 9 ^ f = Q := ⟨_, rfl⟩
          obtain ⟨S9, hS9⟩ : ∃ S, 9 ^ (f + 1) = S := ⟨_, rfl⟩
          rw [hQ9] at hc' hle9 hsm9
          rw [hP9] at hle9
          rw [hS9] at hcm hle9
          have HP9 := Lib.hid hP9
          have HS9 := Lib.hid hS9
          have HSM := Lib.hid hsm9
          clear hbit hP9 hQ9 hS9 hsm9
          cases hg : canGo (PO.rows R) d q with
          | false =>
            rw [hg] at HHAS HPS
            clear hg hF
            have HTE := Lib.hid hTe
            clear hTe
            go_wp2_with (go_at_call 46; refine HHAS.out.mono ?_; rintro e w' ⟨rfl, rfl⟩)
            go_roundw
            case rel => exact ⟨q + 1, c', by omega, by go_num, by rw [HSM.out, HP9.out]; omega, by rw [HPS.out, if_neg (by simp), Nat.add_zero, HTE.out]; exact hlt, by rw [HPS.out, if_neg (by simp), Nat.add_zero, HTE.out]; exact hJ.out⟩
            case measure => simp [intOf]; omega
          | true =>
            have hdn := HD.out.snoc HC.out.small (show q < R.length by omega) hg
            have hcl := PO.Dn.cl HC.out.small HD.out
            obtain ⟨x, hx⟩ : ∃ x, PO.cnt R f (d ++ [q]) = x := ⟨_, rfl⟩
            rw [hg, if_pos rfl, hx] at HPS
            rw [hg] at HHAS
            have hple := PO.part_le R f d (a := q + 1) (by omega)
            rw [HPS.out] at hple
            have hdl2 : (d ++ [q]).length + f = n := by rw [List.length_append, List.length_singleton]; omega
            have HTK := Lib.hid ((callsIn_wide (n := 6)).1 (take_st 6 (by omega) w.heap.size w.heap.size a.gf a.ga n a.gw a.gr q ws R d wr (HT.out.below HT.out.lt hJ.out.bel) hn hR HC.out.small (HA.out.below hJ.out.bel) hF (Nat.le_refl _) HT.out.lt hqn hg hcl))
            have HG := Lib.hid hg
            have HDN := Lib.hid hdn
            have HX := Lib.hid hx
            have HTE := Lib.hid hTe
            clear hg hdn hcl hx hF hTe
            by_cases hfin : T + x < most
            · have heq : min most (T + x) = T + x := by omega
              have hne : (((T + x : Nat) : Int) == (most : Int)) = false := by simp; omega
              have e1 : ((T + x : Nat) : Int) = (T : Int) + (x : Int) := by omega
              rw [e1] at hne
              go_wp2_with (first
                | (go_at_call 46; refine HHAS.out.mono ?_; rintro e w' ⟨rfl, rfl⟩)
                | (go_at_call 54
                   refine HTK.out.mono ?_
                   rintro e w3 ⟨⟨v3, rfl⟩, hf3, hc3⟩
                   have hJ3 := hJ.out.move hc3 (by rw [hk1]; exact hf3)
                   have g1 := hJ3.bxe.cell
                   have HEX := Lib.hid (HIH.out (d ++ [q]) T c' w3 HDN.out hdl2 hlt (by rw [HP9.out]; omega) hJ3)
                   rw [HX.out, heq, HP9.out] at HEX
                   clear hf3 hc3 hJ3 HTK)
                | (go_at_call 52
                   refine HEX.out.mono ?_
                   rintro e w4 ⟨⟨v4, rfl⟩, c4, hc4, hJ4⟩
                   have g2 := hJ4.bxn.cell
                   have hF4 := hJ4.fr
                   rw [hk1] at hF4
                   have HPB := Lib.hid ((callsIn_wide (n := 6)).1 (putBack_st 6 (by omega) w.heap.size w.heap.size a.gf a.ga n a.gw a.gr q ws R d w4 (HT.out.below HT.out.lt hJ4.bel) hn hR HC.out.small (HA.out.below hJ4.bel) hF4 (Nat.le_refl _) HT.out.lt hqn HG.out))
                   have HJ4 := Lib.hid hJ4
                   clear hJ4 hF4 HEX)
                | (go_at_call 55
                   refine HPB.out.mono ?_
                   rintro e w5 ⟨⟨v5, rfl⟩, hf5, hc5⟩
                   have hJ5 := HJ4.out.move hc5 (by rw [hk1]; exact hf5)
                   have g3 := hJ5.bxt.cell
                   rw [e1] at g3
                   have g4 := hJ5.bxm.cell
                   have HJ5 := Lib.hid hJ5
                   clear hf5 hc5 hJ5 HPB))
              go_roundw
              case rel => exact ⟨q + 1, c4, by omega, by go_num, by rw [HSM.out, HP9.out]; omega, by rw [HPS.out, ← Nat.add_assoc, HTE.out]; exact hfin, by rw [HPS.out, ← Nat.add_assoc, HTE.out]; exact HJ5.out⟩
              case measure => simp [intOf]; omega
            · have heq : min most (T + x) = most := by omega
              have hne : ((most : Int) == (most : Int)) = true := by simp
              have HEND := Lib.hid (show min most (t + PO.cnt R (f + 1) d) = most by have := HTE.out; omega)
              go_wp2_with (first
                | (go_at_call 46; refine HHAS.out.mono ?_; rintro e w' ⟨rfl, rfl⟩)
                | (go_at_call 54
                   refine HTK.out.mono ?_
                   rintro e w3 ⟨⟨v3, rfl⟩, hf3, hc3⟩
                   have hJ3 := hJ.out.move hc3 (by rw [hk1]; exact hf3)
                   have g1 := hJ3.bxe.cell
                   have HEX := Lib.hid (HIH.out (d ++ [q]) T c' w3 HDN.out hdl2 hlt (by rw [HP9.out]; omega) hJ3)
                   rw [HX.out, heq, HP9.out] at HEX
                   clear hf3 hc3 hJ3 HTK)
                | (go_at_call 52
                   refine HEX.out.mono ?_
                   rintro e w4 ⟨⟨v4, rfl⟩, c4, hc4, hJ4⟩
                   have g2 := hJ4.bxn.cell
                   have hF4 := hJ4.fr
                   rw [hk1] at hF4
                   have HPB := Lib.hid ((callsIn_wide (n := 6)).1 (putBack_st 6 (by omega) w.heap.size w.heap.size a.gf a.ga n a.gw a.gr q ws R d w4 (HT.out.below HT.out.lt hJ4.bel) hn hR HC.out.small (HA.out.below hJ4.bel) hF4 (Nat.le_refl _) HT.out.lt hqn HG.out))
                   have HJ4 := Lib.hid hJ4
                   clear hJ4 hF4 HEX)
                | (go_at_call 55
                   refine HPB.out.mono ?_
                   rintro e w5 ⟨⟨v5, rfl⟩, hf5, hc5⟩
                   have hJ5 := HJ4.out.move hc5 (by rw [hk1]; exact hf5)
                   have g3 := hJ5.bxt.cell
                   have g4 := hJ5.bxm.cell
                   have HJ5 := Lib.hid hJ5
                   clear hf5 hc5 hJ5 HPB))
              refine bodyPost_ret (results_none rfl _ _ _) rfl ?_
              exact ⟨⟨_, rfl⟩, c4, by rw [HS9.out]; omega, by rw [HEND.out]; exact HJ5.out⟩
        · obtain rfl : n = q := by omega
          have hpa : PO.part R f d n = PO.cnt R (f + 1) d := by rw [← hR]; exact PO.part_all R f d
          obtain ⟨x, hx⟩ : ∃ x, PO.cnt R (f + 1) d = x := ⟨_, rfl⟩
          have h9 : n * 9 ^ f + 1 ≤ 9 ^ (f + 1) := by
            have h1 : 1 ≤ 9 ^ f := Nat.one_le_pow _ _ (by omega)
            have h2 : n * 9 ^ f ≤ 8 * 9 ^ f := Nat.mul_le_mul_right _ hn
            rw [Nat.pow_succ]
            omega
          rw [hpa, hx] at hTe
          have hput := hJ.out.memo.put HD.out hR hn (by omega) (by
            rw [hDl, hx]
            have h1 : (x : Int) ≤ 1000000 := by omega
            exact wf_i64 (by omega) (by omega))
          rw [hDl, hx] at hput
          obtain ⟨w6, hrun, hm6, hg6⟩ := hput
          have hsb : (T : Int) - (t : Int) = (x : Int) := by omega
          have HFIN := Lib.hid (hJ.out.put hg6 hm6)
          have HEND := Lib.hid (show min most (t + PO.cnt R (f + 1) d) = T by rw [hx]; omega)
          have hcl : c' + 1 ≤ c + 9 ^ (f + 1) := by omega
          clear hF hm6 hg6 hTe hx hpa
          go_wp2_with fail
          go_end0
          exact ⟨⟨_, rfl⟩, c' + 1, hcl, by rw [HEND.out]; exact HFIN.out⟩
end Go.Proofs.YtlgdcbhdmffnoaaDoor

namespace Go.Proofs.YtlgdcbhdmffnoaaDoor
open Go Go.RowKit Go.Proofs

theorem run_store_fn (P : Program) (w : World) (a : Addr) (m : Mode) (fn : Fn) (x y : Array Value) : (store a (.func fn x y) m).run P w = stored P w a (.func fn x y) m := run_store P w a _ m rfl
attribute [local go_sem] run_store_fn
set_option maxHeartbeats 1000000 in
theorem ext_none (p : Nat) (most : Int) (w : World) (hm : most ≤ 0) : Calls Tryd.prog 35 #[.pointer (some ⟨p, 0, none⟩), .int .i64 most] w fun e w' => e = .returned (.int .i64 0) ∧ Below w.heap.size w w' := by
  have hb := ((Below.refl w.heap.size w).alloc (Nat.le_refl _) (.cells #[.pointer (some ⟨p, 0, none⟩)] 27)).alloc (by simp) (.cells #[.int .i64 most] 3)
  go_enter Tryd.func35, Tryd.ntmps35
  go_wp2_with fail
  go_ret
  exact ⟨rfl, hb⟩
set_option maxRecDepth 100000 in
set_option maxHeartbeats 4000000 in
theorem ext_any {w : World} {hi p n most : Nat} {R : List Nat} (h : Od w hi p R) (hRn : R.length = n) (hn : n ≤ 8) (hc : PO.Cl R) (hT : Tab w) (hlo : hi ≤ w.heap.size) (hm0 : 0 < most) (hmo : most ≤ 1000000) :
    Calls Tryd.prog 35 #[.pointer (some ⟨p, 0, none⟩), .int .i64 (most : Int)] w fun e w' => e = .returned (.int .i64 ((min most (PO.cnt R n []) : Nat) : Int)) ∧ Below w.heap.size w w' := by
  have hod := h.more hlo
  obtain ⟨hpl, ga, ws, hc0, hab⟩ := hod
  rw [hRn] at hc0
  have c0 := cell_of_row w p 0 _ _ (0, 0) hc0
  have hmp : ¬ (most : Int) ≤ 0 := by omega
  obtain ⟨w2, hw2⟩ : ∃ W, (w.alloc (.cells #[.pointer (some ⟨p, 0, none⟩)] 27)).alloc (.cells #[.int .i64 (most : Int)] 3) = W := ⟨_, rfl⟩
  have hb2 : Below w.heap.size w w2 := by rw [← hw2]; exact ((Below.refl _ w).alloc (Nat.le_refl _) _).alloc (by simp) _
  have hs2 : w2.heap.size = w.heap.size + 2 := by rw [← hw2]; simp
  have bo2 : Boxed w2 w.heap.size 27 (.pointer (some ⟨p, 0, none⟩)) := by rw [← hw2]; exact (Boxed.new w _ _).alloc _
  have bm2 : Boxed w2 (w.heap.size + 1) 3 (.int .i64 (most : Int)) := by
    rw [← hw2]
    have := Boxed.new (w.alloc (.cells #[.pointer (some ⟨p, 0, none⟩)] 27)) 3 (.int .i64 (most : Int))
    rw [World.size_alloc] at this
    exact this
  have cm2 := bm2.cell
  have co2 := bo2.cell
  have cp2 : w2.cell? ⟨p, 0, none⟩ = some (.slice (some ⟨ga, 0, none⟩) n n) := (hb2.cell (p := ⟨p, 0, none⟩) hpl).trans c0
  have HNF := Lib.hid ((callsIn_wide (n := 6)).1 (newFrontier_st 6 (by omega) w.heap.size ga n ws R w2 (hT.below hT.lt hb2) hn hRn hc.small (hab.below hb2) (by omega)))
  have CP := cp2
  rw [← hw2] at CP
  have HW2 := Lib.hid hw2
  have HB2 := Lib.hid hb2
  have BO := Lib.hid bo2
  have BM := Lib.hid bm2
  have HC := Lib.hid hc
  have HT := Lib.hid hT
  have HAB := Lib.hid hab
  have HOD := Lib.hid (h.more hlo)
  clear hw2 hb2 bo2 bm2 hc hT hab h c0 hc0
  go_enter Tryd.func35, Tryd.ntmps35
  go_wp2_with fail
  rw [HW2.out]
  refine HNF.out.mono ?_
  rintro e w3 ⟨gf, gw, gr, rfl, hF3, hb3⟩
  have hs3 := hb3.size
  have hmk : ∀ V : World, (Instr.makeMap 86 none).run Tryd.prog V = .ok (.map (some V.heap.size)) (V.alloc (.map #[] 0)) := fun V => by kernel_rfl
  obtain ⟨w4, hw4⟩ : ∃ W, (((((w3.alloc (.cells #[.pointer (some ⟨gf, 0, none⟩)] 84)).alloc (.cells #[.int .i64 0] 3)).alloc (.map #[] 0)).alloc (.cells #[.map (some (w3.heap.size + 1 + 1))] 86)).alloc (.cells #[.func (.func 52) #[] #[.pointer (some ⟨w3.heap.size + 1, 0, none⟩), .pointer (some ⟨w3.heap.size, 0, none⟩), .pointer (some ⟨w3.heap.size + 1 + 1 + 1, 0, none⟩), .pointer (some ⟨w.heap.size + 1, 0, none⟩), .pointer (some ⟨w.heap.size, 0, none⟩), .pointer (some ⟨w3.heap.size + 1 + 1 + 1 + 1, 0, none⟩)]] 73)) = W := ⟨_, rfl⟩
  have hb4 : Below w3.heap.size w3 w4 := by rw [← hw4]; exact (((((Below.refl _ w3).alloc (Nat.le_refl _) _).alloc (by simp) _).alloc (by simp; omega) _).alloc (by simp; omega) _).alloc (by simp; omega) _
  have at_ : ∀ b : Nat, w4.heap[b]? = (((((w3.alloc (.cells #[.pointer (some ⟨gf, 0, none⟩)] 84)).alloc (.cells #[.int .i64 0] 3)).alloc (.map #[] 0)).alloc (.cells #[.map (some (w3.heap.size + 1 + 1))] 86)).alloc (.cells #[.func (.func 52) #[] #[.pointer (some ⟨w3.heap.size + 1, 0, none⟩), .pointer (some ⟨w3.heap.size, 0, none⟩), .pointer (some ⟨w3.heap.size + 1 + 1 + 1, 0, none⟩), .pointer (some ⟨w.heap.size + 1, 0, none⟩), .pointer (some ⟨w.heap.size, 0, none⟩), .pointer (some ⟨w3.heap.size + 1 + 1 + 1 + 1, 0, none⟩)]] 73)).heap[b]? := fun b => by rw [← hw4]
  have e4 : Boxed w4 (w3.heap.size + 1 + 1 + 1 + 1) 73 (.func (.func 52) #[] #[.pointer (some ⟨w3.heap.size + 1, 0, none⟩), .pointer (some ⟨w3.heap.size, 0, none⟩), .pointer (some ⟨w3.heap.size + 1 + 1 + 1, 0, none⟩), .pointer (some ⟨w.heap.size + 1, 0, none⟩), .pointer (some ⟨w.heap.size, 0, none⟩), .pointer (some ⟨w3.heap.size + 1 + 1 + 1 + 1, 0, none⟩)]) := by
    unfold Boxed
    rw [at_]
    simp only [heap_alloc_at, World.size_alloc]
    rw [if_pos (by trivial)]
  have e3 : Boxed w4 (w3.heap.size + 1 + 1 + 1) 86 (.map (some (w3.heap.size + 1 + 1))) := by
    unfold Boxed
    rw [at_]
    simp only [heap_alloc_at, World.size_alloc]
    rw [if_neg (by omega), if_pos (by trivial)]
  have e2 : w4.heap[w3.heap.size + 1 + 1]? = some (.map #[] 0) := by
    rw [at_]
    simp only [heap_alloc_at, World.size_alloc]
    rw [if_neg (by omega), if_neg (by omega), if_pos (by trivial)]
  have e1 : Boxed w4 (w3.heap.size + 1) 3 (.int .i64 0) := by
    unfold Boxed
    rw [at_]
    simp only [heap_alloc_at, World.size_alloc]
    rw [if_neg (by omega), if_neg (by omega), if_neg (by omega), if_pos (by trivial)]
  have e0 : Boxed w4 w3.heap.size 84 (.pointer (some ⟨gf, 0, none⟩)) := by
    unfold Boxed
    rw [at_]
    simp only [heap_alloc_at, World.size_alloc]
    rw [if_neg (by omega), if_neg (by omega), if_neg (by omega), if_neg (by omega), if_pos (by trivial)]
  have hmemo : Memo w4 (w3.heap.size + 1 + 1) 0 R n := by
    have h := Memo.made ((w3.alloc (.cells #[.pointer (some ⟨gf, 0, none⟩)] 84)).alloc (.cells #[.int .i64 0] 3)) R n
    rw [World.size_alloc, World.size_alloc] at h
    refine h.block ?_
    rw [e2]
    have h2 := World.alloc_heap_new ((w3.alloc (.cells #[.pointer (some ⟨gf, 0, none⟩)] 84)).alloc (.cells #[.int .i64 0] 3)) (.map #[] 0)
    rw [World.size_alloc, World.size_alloc] at h2
    exact h2.symm
  have hbel4 : Below w.heap.size w w4 := HB2.out.trans ((hb3.trans (hb4.mono (by omega))).mono (by omega))
  have hlF := hF3.lt2
  have hlo2 := hF3.l2
  have hJ : ExJ w ⟨w3.heap.size + 1, w3.heap.size, w3.heap.size + 1 + 1 + 1, w.heap.size + 1, w.heap.size, w3.heap.size + 1 + 1 + 1 + 1, gf, ga, gw, gr, w3.heap.size + 1 + 1, p⟩ n most R [] 0 0 w4 := by
    have hf4 := hF3.below hb4
    have hB34 : Below w2.heap.size w2 w4 := hb3.trans (hb4.mono (by omega))
    exact ⟨e1, e0, e3, (hB34.block (w.heap.size + 1) (by omega)).trans BM.out, (hB34.block w.heap.size (by omega)).trans BO.out, e4, ⟨hf4.fr, hf4.wt, hf4.rd, Nat.le_trans (show w.heap.size ≤ w2.heap.size by omega) hf4.l1, Nat.le_trans (show w.heap.size ≤ w2.heap.size by omega) hf4.l2, Nat.le_trans (show w.heap.size ≤ w2.heap.size by omega) hf4.l3⟩, hmemo, hbel4, by show w3.heap.size + 1 ≠ w.heap.size + 1; omega, by show gw ≠ w3.heap.size + 1; omega, by show gw ≠ w.heap.size + 1; omega, by show w.heap.size ≤ w3.heap.size + 1; omega, by show w.heap.size ≤ w3.heap.size + 1 + 1; omega⟩
  have HEX := Lib.hid (extend_any hn hRn HC.out HT.out HAB.out HOD.out hmo n [] 0 0 w4.drew (PO.Dn.nil R) (by simp) hm0 (by
    have h9 : 9 ^ n ≤ 9 ^ 8 := Nat.pow_le_pow_right (by omega) hn
    simp only [maxLen]
    omega) (hJ.new ((Below.refl _ _).drew)))
  have hlen := len_any (HOD.out.below (hbel4.drew))
  rw [hRn] at hlen
  have HLEN := Lib.hid hlen
  have g0 := e4.cell
  have g1 := hJ.bxo.cell
  have HW4 := Lib.hid hw4
  rw [Nat.zero_add] at HEX
  dsimp only at HEX g1
  clear hlen e0 e1 e2 e3 e4 hmemo hJ at_ hw4 hb4 hbel4
  go_wp2_with fail
  rw [HW4.out]
  go_region_with (first
    | (go_at_call 22; refine HLEN.out.mono ?_; rintro e w' ⟨rfl, rfl⟩)
    | (go_at_call 52; refine HEX.out.mono ?_; rintro e w6 ⟨⟨v6, rfl⟩, c6, _, hJ6⟩; have k1 := hJ6.bxt.cell; dsimp only at k1))
  all_goals
    go_wp2_with fail
    go_ret
    exact ⟨rfl, hJ6.bel⟩
end Go.Proofs.YtlgdcbhdmffnoaaDoor

namespace Go.Proofs.YtlgdcbhdmffnoaaDoor
open Go Go.RowKit Go.Proofs

theorem natP_len (P : List (Int × Int)) : (natP P).length = P.length := by simp [natP]
theorem new_ok {n : Nat} {P : List (Int × Int)} (h : newC n P = 0) : inP n P = true ∧ (topoL (PO.rows (PO.rowsP n (natP P)))).length = n := by
  unfold newC at h
  split at h
  · rename_i h1
    split at h
    · rename_i h2
      exact ⟨h1, h2⟩
    · cases h
  · cases h
theorem new_cl {n : Nat} (hn : n ≤ 8) {P : List (Int × Int)} (h : newC n P = 0) : PO.Cl (ordR n P) ∧ (ordR n P).length = n ∧ ∀ a b, PO.lt (ordR n P) a b = true ↔ PO.Up (PO.rows (PO.rowsP n (natP P))) a b := by
  obtain ⟨h1, h2⟩ := new_ok h
  obtain ⟨k1, k2, k3⟩ := PO.clos_cl (inP_small (by omega) h1) (by rw [PO.rowsP_len]; exact h2)
  exact ⟨k1, by rw [show (ordR n P).length = _ from k2, PO.rowsP_len], k3⟩
theorem pc_at {E : List (Nat × Nat)} {j x y : Nat} (h : E[j]? = some (x, y)) : (pc E)[j * 2]? = some (nv x) ∧ (pc E)[j * 2 + 1]? = some (nv y) := by
  unfold pc
  induction E generalizing j with
  | nil => simp at h
  | cons a t ih =>
    cases j with
    | zero =>
      simp at h
      subst h
      exact ⟨rfl, rfl⟩
    | succ j =>
      rw [List.getElem?_cons_succ] at h
      have := ih h
      rw [List.flatMap_cons, show (j + 1) * 2 = j * 2 + 1 + 1 by omega]
      exact this
theorem ownP_edg {W : World} {lo n c : Nat} {A : Option Addr} {E : List (Nat × Nat)} (h : OwnP W lo (.slice A n c) E) : n = E.length ∧ Edg W W.heap.size A n E := by
  obtain ⟨A', c', e⟩ := ownP_form h
  injection e with e1 e2 e3
  subst e2
  refine ⟨rfl, rfl, fun hn => ?_⟩
  rcases h.2 with ⟨e, e2⟩ | ⟨g, cap, cur, e, g1, g2, g3, g4, g5, g6⟩
  · omega
  · injection e with ea eb ec
    subst ea
    refine ⟨g, 0, rfl, heap_lt g2, fun j x y hj => ?_⟩
    obtain ⟨p1, p2⟩ := pc_at hj
    have hjl := (List.getElem?_eq_some_iff.1 hj).1
    have key : ∀ i u, (pc E)[i]? = some u → i < E.length * 2 → W.cell? ⟨g, 0 + i, none⟩ = some u := fun i u hu hi => by
      rw [cell_of_row W g (0 + i) cur _ (0, 0) g2, Nat.zero_add]
      have : (cur.toList.take (E.length * 2))[i]? = (pc E)[i]? := by rw [g6]
      rw [List.getElem?_take_of_lt hi, Array.getElem?_toList] at this
      rw [this, hu]
    exact ⟨key _ _ p1 (by omega), by have := key _ _ p2 (by omega); rwa [Nat.zero_add] at this ⊢⟩
def P0 : List (Int × Int) := [(2, 0), (0, 1), (2, 1)]
def R0 : List Nat := [2, 0, 3, 0]
theorem p0_new : newC 4 P0 = 0 := by decide +kernel
theorem p0_ord : ordR 4 P0 = R0 := by decide +kernel
theorem r0_covs : PO.covs R0 = [(0, 1), (2, 0)] := by decide +kernel
theorem r0_topo : topoL (PO.rows R0) = [2, 0, 1, 3] := by decide +kernel
theorem r0_cnt : min 100 (PO.cnt R0 4 []) = 4 := by decide +kernel
theorem r0_down : PO.downI R0 [1] = [0, 1, 2] := by decide +kernel
theorem own_ints {W : World} {lo n c : Nat} {A : Option Addr} {l : List Nat} (h : Own W lo (.slice A n c) l) : n = l.length ∧ Ints .i64 W.heap.size W A n (l.map fun n : Nat => (n : Int)) := ⟨h.lst.1, h.lst.2.ints⟩
theorem cells_row (W : World) (C : Array Value) (t : TypeId) (j : Nat) : (W.alloc (.cells C t)).cell? ⟨W.heap.size, 0 + j, none⟩ = C[j]? := by
  rw [cell_of_row _ W.heap.size (0 + j) C t (0, 0) (World.alloc_heap_new W _), Nat.zero_add]
set_option maxRecDepth 100000 in
set_option maxHeartbeats 8000000 in
theorem lives_any (w : World) (hT : Tab w) : Calls Tryd.prog 17 #[] w fun e w' => e = .returned (.bool true) ∧ Below w.heap.size w w' := by
  have hzv := zero_pr_run
  have hP : EdgI (w.alloc (.cells #[.int .i64 2, .int .i64 0, .int .i64 0, .int .i64 1, .int .i64 2, .int .i64 1] 23)) (w.alloc (.cells #[.int .i64 2, .int .i64 0, .int .i64 0, .int .i64 1, .int .i64 2, .int .i64 1] 23)).heap.size (some ⟨w.heap.size, 0, none⟩) 3 P0 := by
    refine ⟨rfl, fun _ => ⟨w.heap.size, 0, rfl, by simp, fun j x y hj => ?_⟩⟩
    match j, hj with
    | 0, hj => injection hj with hj; injection hj with h1 h2; subst h1 h2; exact ⟨cells_row w _ _ 0, cells_row w _ _ 1⟩
    | 1, hj => injection hj with hj; injection hj with h1 h2; subst h1 h2; exact ⟨cells_row w _ _ 2, cells_row w _ _ 3⟩
    | 2, hj => injection hj with hj; injection hj with h1 h2; subst h1 h2; exact ⟨cells_row w _ _ 4, cells_row w _ _ 5⟩
    | j + 3, hj => simp [P0] at hj
  have hb1 : Below w.heap.size w (w.alloc (.cells #[.int .i64 2, .int .i64 0, .int .i64 0, .int .i64 1, .int .i64 2, .int .i64 1] 23)) := (Below.refl _ _).alloc (Nat.le_refl _) _
  have HNW := Lib.hid (new_any 4 3 3 _ P0 _ (hT.below hT.lt hb1) (by omega) (by omega) hP)
  have HB1 := Lib.hid hb1
  have HT := Lib.hid hT
  clear hP hb1 hT
  go_enter Tryd.func17, Tryd.ntmps17
  go_wp2_with fail
  refine HNW.out.mono ?_
  rintro e w2 ⟨q, rfl, hb2, hq, _⟩
  rw [p0_new] at hq
  obtain ⟨p, rfl, hod⟩ := hq rfl
  obtain ⟨hcl, hRl, _⟩ := new_cl (by omega) p0_new
  rw [p0_ord] at hod hcl hRl
  have hB2 : Below w.heap.size w w2 := HB1.out.trans (hb2.mono (by simp))
  rw [p0_new]
  have HOD := Lib.hid hod
  have HCL := Lib.hid hcl
  have HB2 := Lib.hid hB2
  have htl := HT.out.lt
  have hs2 := hB2.size
  have hT2 := HT.out.below HT.out.lt hB2
  have HCV := Lib.hid ((callsIn_wide (n := 6)).1 (covers_in 6 (by omega) hod hRl (by omega) hcl hT2 (Nat.le_refl _)))
  clear HNW hb2 hod hcl hB2 hT2 hq HB1
  go_wp2_with fail
  refine HCV.out.mono ?_
  rintro e w3 ⟨v, rfl, ho3, hb3⟩
  rw [r0_covs] at ho3
  obtain ⟨A3, c3, rfl⟩ := ownP_form ho3
  obtain ⟨_, hE3⟩ := ownP_edg ho3
  have hs3 := hb3.size
  have hb3' : Below w.heap.size w w3 := HB2.out.trans (hb3.mono hs2)
  have hL3 : Edg (w3.alloc (.cells #[.int .i64 0, .int .i64 1, .int .i64 2, .int .i64 0] 23)) (w3.alloc (.cells #[.int .i64 0, .int .i64 1, .int .i64 2, .int .i64 0] 23)).heap.size (some ⟨w3.heap.size, 0, none⟩) 2 [(0, 1), (2, 0)] := by
    refine ⟨rfl, fun _ => ⟨w3.heap.size, 0, rfl, by simp, fun j x y hj => ?_⟩⟩
    match j, hj with
    | 0, hj => injection hj with hj; injection hj with h1 h2; subst h1 h2; exact ⟨cells_row w3 _ _ 0, cells_row w3 _ _ 1⟩
    | 1, hj => injection hj with hj; injection hj with h1 h2; subst h1 h2; exact ⟨cells_row w3 _ _ 2, cells_row w3 _ _ 3⟩
    | j + 2, hj => simp at hj
  have hb4 : Below w3.heap.size w3 (w3.alloc (.cells #[.int .i64 0, .int .i64 1, .int .i64 2, .int .i64 0] 23)) := (Below.refl _ _).alloc (Nat.le_refl _) _
  have HSP := Lib.hid (show Calls Tryd.prog 26 #[.slice A3 2 c3, .slice (some ⟨w3.heap.size, 0, none⟩) 2 2] (w3.alloc (.cells #[.int .i64 0, .int .i64 1, .int .i64 2, .int .i64 0] 23)) (Tells true _) from samePairs_any A3 _ 2 2 c3 2 _ _ _ ((hE3.below hb4).more (by simp)) hL3 (by omega))
  have HB3 := Lib.hid hb3'
  have HOD3 := Lib.hid (HOD.out.below hb3)
  have HB4 := Lib.hid (hb3'.trans (hb4.mono (by omega)))
  have HOD4 := Lib.hid (((HOD.out.below hb3).more hs3).below hb4)
  clear hE3 hL3 hb3 hb3' hb4 ho3 HCV
  go_wp2_with fail
  refine HSP.out.mono ?_
  rintro e w5 ⟨rfl, hb5⟩
  have hB5 := HB4.out.trans (hb5.mono (by simp; omega))
  have hod5 := (HOD4.out.more (show w3.heap.size ≤ (w3.alloc (.cells #[.int .i64 0, .int .i64 1, .int .i64 2, .int .i64 0] 23)).heap.size by simp)).below hb5
  have hod5' := hod5.more hb5.size
  have HLN := Lib.hid (linear_any hod5' (by omega) HCL.out.small (HT.out.below htl hB5) (Nat.le_refl _))
  have HOD5 := Lib.hid hod5'
  have HB5 := Lib.hid hB5
  have hs5 := hB5.size
  clear hb5 hB5 hod5 hod5' HSP HB4 HOD4 HB3 HOD3
  go_wp2_with fail
  refine HLN.out.mono ?_
  rintro e w6 ⟨v6, rfl, ho6, hb6⟩
  rw [r0_topo] at ho6
  obtain ⟨A6, c6, rfl, _, _⟩ := ho6.slice
  obtain ⟨_, hI6⟩ := own_ints ho6
  have hs6 := hb6.size
  have hb7 : Below w6.heap.size w6 (w6.alloc (.cells #[.int .i64 2, .int .i64 0, .int .i64 1, .int .i64 3] 3)) := (Below.refl _ _).alloc (Nat.le_refl _) _
  have hL7 : Ints .i64 (w6.alloc (.cells #[.int .i64 2, .int .i64 0, .int .i64 1, .int .i64 3] 3)).heap.size (w6.alloc (.cells #[.int .i64 2, .int .i64 0, .int .i64 1, .int .i64 3] 3)) (some ⟨w6.heap.size, 0, none⟩) 4 [2, 0, 1, 3] := by
    refine ⟨rfl, fun _ => ⟨w6.heap.size, 0, rfl, by simp, fun j hj => ?_⟩⟩
    match j, hj with
    | 0, _ => exact cells_row w6 _ _ 0
    | 1, _ => exact cells_row w6 _ _ 1
    | 2, _ => exact cells_row w6 _ _ 2
    | 3, _ => exact cells_row w6 _ _ 3
    | j + 4, hj => omega
  have HSI := Lib.hid (show Calls Tryd.prog 29 #[.slice A6 4 c6, .slice (some ⟨w6.heap.size, 0, none⟩) 4 4] (w6.alloc (.cells #[.int .i64 2, .int .i64 0, .int .i64 1, .int .i64 3] 3)) (Tells true _) from sameInts_any A6 _ 4 4 c6 4 _ _ _ ((hI6.below hb7).more (by simp)) hL7 (by omega))
  have HB7 := Lib.hid (HB5.out.trans ((hb6.trans (hb7.mono hs6)).mono hs5))
  have HOD7 := Lib.hid ((HOD5.out.below hb6).below (hb7.mono hs6))
  clear hI6 hL7 hb6 hb7 ho6 HLN
  go_wp2_with fail
  refine HSI.out.mono ?_
  rintro e w8 ⟨rfl, hb8⟩
  have hB8 := HB7.out.trans (hb8.mono (by simp; omega))
  have hod8 := (HOD7.out.below (hb8.mono (by simp; omega))).more (show w5.heap.size ≤ w8.heap.size by have := hb8.size; simp at this; omega)
  have HEX := Lib.hid (ext_any hod8 hRl (by omega) HCL.out (HT.out.below htl hB8) (Nat.le_refl _) (most := 100) (by omega) (by omega))
  rw [r0_cnt] at HEX
  have HOD8 := Lib.hid hod8
  have HB8 := Lib.hid hB8
  have hs8 := hB8.size
  clear hb8 hB8 hod8 HSI HB7 HOD7
  go_wp2_with fail
  refine HEX.out.mono ?_
  rintro e w9 ⟨rfl, hb9⟩
  have hs9 := hb9.size
  have hb10 : Below w9.heap.size w9 (w9.alloc (.cells #[.int .i64 1] 3)) := (Below.refl _ _).alloc (Nat.le_refl _) _
  have hL10 : Ints .i64 (w9.alloc (.cells #[.int .i64 1] 3)).heap.size (w9.alloc (.cells #[.int .i64 1] 3)) (some ⟨w9.heap.size, 0, none⟩) 1 [1] := by
    refine ⟨rfl, fun _ => ⟨w9.heap.size, 0, rfl, by simp, fun j hj => ?_⟩⟩
    match j, hj with
    | 0, _ => exact cells_row w9 _ _ 0
    | j + 1, hj => omega
  have hod10 := (HOD8.out.below hb9).below (hb10.mono hs9)
  have HDN := Lib.hid (down_any hod10 (by omega) HCL.out.small (by simp; omega) _ 1 1 [1] hL10 (by omega))
  have HB10 := Lib.hid (HB8.out.trans ((hb9.trans (hb10.mono hs9)).mono hs8))
  clear hb9 hb10 hL10 hod10 HEX
  go_wp2_with fail
  refine HDN.out.mono ?_
  rintro e w11 ⟨v11, rfl, ho11, hb11⟩
  rw [r0_down] at ho11
  obtain ⟨A11, c11, rfl, _, _⟩ := ho11.slice
  obtain ⟨_, hI11⟩ := own_ints ho11
  have hs11 := hb11.size
  have hb12 : Below w11.heap.size w11 (w11.alloc (.cells #[.int .i64 0, .int .i64 1, .int .i64 2] 3)) := (Below.refl _ _).alloc (Nat.le_refl _) _
  have hL12 : Ints .i64 (w11.alloc (.cells #[.int .i64 0, .int .i64 1, .int .i64 2] 3)).heap.size (w11.alloc (.cells #[.int .i64 0, .int .i64 1, .int .i64 2] 3)) (some ⟨w11.heap.size, 0, none⟩) 3 [0, 1, 2] := by
    refine ⟨rfl, fun _ => ⟨w11.heap.size, 0, rfl, by simp, fun j hj => ?_⟩⟩
    match j, hj with
    | 0, _ => exact cells_row w11 _ _ 0
    | 1, _ => exact cells_row w11 _ _ 1
    | 2, _ => exact cells_row w11 _ _ 2
    | j + 3, hj => omega
  have HSI2 := Lib.hid (show Calls Tryd.prog 29 #[.slice A11 3 c11, .slice (some ⟨w11.heap.size, 0, none⟩) 3 3] (w11.alloc (.cells #[.int .i64 0, .int .i64 1, .int .i64 2] 3)) (Tells true _) from sameInts_any A11 _ 3 3 c11 3 _ _ _ ((hI11.below hb12).more (by simp)) hL12 (by omega))
  have HB12 := Lib.hid (HB10.out.trans ((hb11.mono (by simp; omega)).trans (hb12.mono (by simp at hs11; omega))))
  clear hI11 hL12 hb11 hb12 ho11 HDN
  go_wp2_with fail
  refine HSI2.out.mono ?_
  rintro e w13 ⟨rfl, hb13⟩
  have hB13 := Lib.hid (HB12.out.trans (hb13.mono (by simp at hs11 ⊢; omega)))
  clear hb13
  go_wp2_with fail
  go_ret
  exact ⟨rfl, hB13.out⟩
end Go.Proofs.YtlgdcbhdmffnoaaDoor
