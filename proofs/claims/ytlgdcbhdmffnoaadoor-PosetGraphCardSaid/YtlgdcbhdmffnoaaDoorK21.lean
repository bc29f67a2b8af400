/-
  The order of the covers, and of all covers but one. Mathematics; no function of the program.
  Laws of append for rows of pairs, at a step of a region that draws and at a plain one. No function of the program.
-/
import Derived.Test.YtlgdcbhdmffnoaaDoorK14
import Derived.Test.YtlgdcbhdmffnoaaDoorK11
import Derived.Laws.AppendOwnNone
import Derived.Deep.RegionHeld3
import Derived.Deep.RegionLaw
import Derived.Test.YtlgdcbhdmffnoaaDoorK12

namespace Go.Proofs.YtlgdcbhdmffnoaaDoor
open Go Go.RowKit Go.Proofs

theorem covs_in {R : List Nat} (hs : PO.Small R) : ∀ e ∈ PO.covs R, e.1 < R.length ∧ e.2 < R.length := by
  rintro ⟨a, b⟩ h
  have := ((PO.covs_mem hs a b).1 h).1
  exact ⟨PO.lt_from this, PO.lt_to hs this⟩
theorem covs_nodup (R : List Nat) : (PO.covs R).Nodup := by
  unfold PO.covs List.Nodup
  rw [List.pairwise_flatMap]
  constructor
  · intro a _
    rw [List.pairwise_map]
    refine List.Pairwise.imp ?_ (List.Pairwise.filter _ (List.nodup_range (n := R.length)))
    intro x y h e
    injection e with _ e
    exact h e
  · refine List.Pairwise.imp ?_ (List.nodup_range (n := R.length))
    intro a b h x hx y hy e
    obtain ⟨_, _, rfl⟩ := List.mem_map.1 hx
    obtain ⟨_, _, rfl⟩ := List.mem_map.1 hy
    injection e with e _
    exact h e
theorem covs_len (R : List Nat) (h : R.length ≤ 8) : (PO.covs R).length ≤ 64 := by
  have h1 := covTo_len R R.length
  have h2 : R.length * R.length ≤ 8 * 8 := Nat.mul_le_mul h h
  have h3 : covTo R R.length = PO.covs R := rfl
  rw [h3] at h1
  omega
theorem up_lt {R : List Nat} (hc : PO.Cl R) {nx : List (List Nat)} (hn : ∀ a b, b ∈ nb nx a → PO.lt R a b = true) {a b : Nat} (h : PO.Up nx a b) : PO.lt R a b = true := by
  induction h with
  | one e => exact hn _ _ e
  | more e _ ih => exact hc.tr _ _ _ (hn _ _ e) ih
theorem nb_E {n : Nat} (hn : n ≤ 8) {E : List (Nat × Nat)} (h : ∀ p ∈ E, p.1 < n ∧ p.2 < n) (a b : Nat) : b ∈ nb (PO.rows (PO.rowsP n E)) a ↔ (a, b) ∈ E := PO.rowsP_nb n (by omega) E h a b
theorem ok_of {n : Nat} (hn : n ≤ 8) {E : List (Nat × Nat)} (h : ∀ p ∈ E, p.1 < n ∧ p.2 < n) {R : List Nat} (hc : PO.Cl R) (hE : ∀ a b, (a, b) ∈ E → PO.lt R a b = true) : okE n E = true := by
  refine (ok_iff (by omega) h).2 fun a _ => ?_
  cases hb : PO.wAll (m0 E) n a a with
  | false => rfl
  | true =>
    have hu := (wAll_lt (by omega) h a a).1 hb
    have := up_lt hc (fun a b hab => hE a b ((nb_E hn h a b).1 hab)) hu
    rw [hc.irr] at this
    cases this
theorem lt_ord {n : Nat} (hn : n ≤ 8) {E : List (Nat × Nat)} (h : ∀ p ∈ E, p.1 < n ∧ p.2 < n) (hk : okE n E = true) (a b : Nat) : PO.lt (ordE n E) a b = true ↔ PO.Up (PO.rows (PO.rowsP n E)) a b := by
  rw [(ordE_cl hn h hk).2.2 a b, wAll_lt (by omega) h]
/-- The order of the covers is the order. -/
theorem cov_ord {R : List Nat} (hc : PO.Cl R) (hl : R.length ≤ 8) : okE R.length (PO.covs R) = true ∧ ∀ a b, PO.lt (ordE R.length (PO.covs R)) a b = PO.lt R a b := by
  have hin := covs_in hc.small
  have hok := ok_of hl hin hc fun a b h => ((PO.covs_mem hc.small a b).1 h).1
  refine ⟨hok, fun a b => ?_⟩
  rw [Bool.eq_iff_iff, lt_ord hl hin hok, PO.covs_up hc (fun a b => nb_E hl hin a b)]
/-- All covers but one. -/
def covX (R : List Nat) (q : Nat) : List (Nat × Nat) := (PO.covs R).take q ++ (PO.covs R).drop (q + 1)
theorem covX_mem {R : List Nat} {q : Nat} {e x : Nat × Nat} (hq : (PO.covs R)[q]? = some x) (h : e ∈ covX R q) : e ∈ PO.covs R ∧ e ≠ x := by
  have hnd := covs_nodup R
  obtain ⟨hql, rfl⟩ := List.getElem?_eq_some_iff.1 hq
  have hp := List.pairwise_iff_getElem.1 hnd
  unfold covX at h
  rcases List.mem_append.1 h with h | h
  · obtain ⟨i, hi, rfl⟩ := List.mem_iff_getElem.1 h
    rw [List.length_take] at hi
    rw [List.getElem_take]
    exact ⟨List.getElem_mem _, hp i q (by omega) hql (by omega)⟩
  · obtain ⟨i, hi, rfl⟩ := List.mem_iff_getElem.1 h
    rw [List.length_drop] at hi
    rw [List.getElem_drop]
    exact ⟨List.getElem_mem _, fun e => hp q (q + 1 + i) hql (by omega) (by omega) e.symm⟩
theorem covX_in {R : List Nat} (hs : PO.Small R) (q : Nat) : ∀ e ∈ covX R q, e.1 < R.length ∧ e.2 < R.length := by
  intro e h
  unfold covX at h
  rcases List.mem_append.1 h with h | h
  · exact covs_in hs e (List.mem_of_mem_take h)
  · exact covs_in hs e (List.mem_of_mem_drop h)
theorem covX_ord {R : List Nat} (hc : PO.Cl R) (hl : R.length ≤ 8) {q x y : Nat} (hq : (PO.covs R)[q]? = some (x, y)) : okE R.length (covX R q) = true ∧ PO.lt (ordE R.length (covX R q)) x y = false := by
  have hin := covX_in hc.small q
  have hok := ok_of hl hin hc fun a b h => ((PO.covs_mem hc.small a b).1 (covX_mem hq h).1).1
  refine ⟨hok, ?_⟩
  cases hb : PO.lt (ordE R.length (covX R q)) x y with
  | false => rfl
  | true =>
    exact absurd ((lt_ord hl hin hok x y).1 hb) (PO.covs_less hc (List.mem_of_getElem? hq) fun a b h => covX_mem hq ((nb_E hl hin a b).1 h))
end Go.Proofs.YtlgdcbhdmffnoaaDoor

namespace Go.Proofs.YtlgdcbhdmffnoaaDoor
open Go Go.RowKit Go.Proofs

theorem pc_one (E : List (Nat × Nat)) : ∀ u ∈ pc E, u.oneCell' = true := by
  intro u hu
  unfold pc at hu
  rw [List.mem_flatMap] at hu
  obtain ⟨e, _, h⟩ := hu
  simp at h
  rcases h with rfl | rfl <;> rfl
theorem pc_app (E G : List (Nat × Nat)) : pc (E ++ G) = pc E ++ pc G := by unfold pc; rw [List.flatMap_append]
theorem pc_get {E : List (Nat × Nat)} {i : Nat} : (pc E)[i]? = (E[i / 2]?).map fun p => if i % 2 = 0 then nv p.1 else nv p.2 := by
  induction E generalizing i with
  | nil => simp [pc]
  | cons a t ih =>
    match i with
    | 0 => rfl
    | 1 => rfl
    | i + 2 =>
      rw [show (i + 2) / 2 = i / 2 + 1 by omega, show (i + 2) % 2 = i % 2 by omega, List.getElem?_cons_succ, ← ih]
      rfl
theorem pc_take {E : List (Nat × Nat)} (q : Nat) : pc (E.take q) = (pc E).take (q * 2) := by
  apply List.ext_getElem?
  intro i
  rw [List.getElem?_take, pc_get, pc_get, List.getElem?_take]
  by_cases h : i < q * 2
  · rw [if_pos h, if_pos (by omega)]
  · rw [if_neg h, if_neg (by omega)]
    rfl
theorem pc_drop {E : List (Nat × Nat)} (q : Nat) : pc (E.drop q) = (pc E).drop (q * 2) := by
  apply List.ext_getElem?
  intro i
  rw [List.getElem?_drop, pc_get, pc_get, List.getElem?_drop]
  rw [show (q * 2 + i) / 2 = q + i / 2 by omega, show (q * 2 + i) % 2 = i % 2 by omega]
/-- What is appended: nothing that is nil, or cells that are there. -/
def SrcP (w : World) (A : Option Addr) (m c : Nat) (E : List (Nat × Nat)) : Prop := E.length = m ∧ ((A = none ∧ m = 0 ∧ c = 0) ∨ ∃ ad, A = some ad ∧ ∀ j u, (pc E)[j]? = some u → w.cell? (ad.add j) = some u)
/-- append of pairs onto an own row. -/
theorem wp_append_pairs {o : Oper} {a : Act} {w : World} {K : Act → World → Prop} {Q : Exit → Act → World → Prop} (s x : Operand)
    (ho : o.op = .call { callee := .builtin .append, args := #[s, x], argTypes := #[25, 25] }) (base : Nat)
    (B : Option Addr) (k d : Nat) (G : List (Nat × Nat)) (hs : a.eval s = .slice B k d) (hown : OwnP w base (.slice B k d) G)
    (A : Option Addr) (m c : Nat) (E : List (Nat × Nat)) (hx : a.eval x = .slice A m c) (hsrc : SrcP w A m c E) (hlen : G.length + E.length ≤ 1000000) (hbase : base ≤ w.heap.size)
    (h : ∀ A' c' w', OwnP w' base (.slice A' (k + m) c') (G ++ E) → w.grownBy w' (Value.slice B k d).ownBlock → K (a.put o.dst (.slice A' (k + m) c')) w') : o.wp Tryd.prog a w K Q := by
  obtain ⟨i0, hi0, hz0, hz1, hz2⟩ := info_parts info_pr
  obtain ⟨hk, _⟩ := ownP_edg hown
  obtain ⟨hm, hsr⟩ := hsrc
  have hown' : w.ownsRow base 23 2 (.slice B k d) k (pc G) := by
    have := hown
    unfold OwnP at this
    rw [← hk] at this
    exact this
  rcases hsr with ⟨rfl, rfl, rfl⟩ | ⟨ad, rfl, hc⟩
  · have hE : E = [] := List.eq_nil_of_length_eq_zero hm
    subst hE
    have hrun := run_append_owned_none (P := Tryd.prog) (w := w) base 25 o.type 23 i0 2 Tryd.underlying25 hi0 (.slice B k d) k (pc G) hown'
    unfold Oper.wp
    simp [execOp, ho, resolve, invoke, builtin, hs, hx, hrun, Result.andThen]
    have := h B d w (by rw [List.append_nil]; exact hown) ⟨rfl, rfl, rfl, Nat.le_refl _, fun _ _ _ => rfl⟩
    exact this
  · refine wp_append_own (P := Tryd.prog) w s x 25 ho base 23 i0 _ 2 16 Tryd.underlying25 hi0 hz0 hz1 hz2 rfl (by decide) (.slice B k d) k (pc G) hs hown' ad m c (pc E) hx (by rw [pc_len, hm]) hc (pc_one E) (by simp only [maxLen]; omega) (by omega) hbase ?_
    intro v' w' h1 h2 _
    obtain ⟨A', c', rfl⟩ : ∃ A' c', v' = .slice A' (k + m) c' := by
      rcases h1.2 with ⟨rfl, h0⟩ | ⟨g, cap, cur, rfl, _⟩
      · exact ⟨none, 0, by rw [h0]⟩
      · exact ⟨_, cap, rfl⟩
    refine h A' c' w' ?_ h2
    unfold OwnP
    rw [List.length_append, ← hk, hm, pc_app]
    exact h1
theorem step_append_pairs {ops : Array Oper} {o : Oper} {a : Act} {w : World} {K : Act → World → Prop} {Q : Exit → Act → World → Prop} {Z : Prop} (hgd : o.guard = none) (s x : Operand)
    (ho : o.op = .call { callee := .builtin .append, args := #[s, x], argTypes := #[25, 25] }) (base : Nat)
    (B : Option Addr) (k d : Nat) (G : List (Nat × Nat)) (hs : a.eval s = .slice B k d) (hown : OwnP w base (.slice B k d) G)
    (A : Option Addr) (m c : Nat) (E : List (Nat × Nat)) (hx : a.eval x = .slice A m c) (hsrc : SrcP w A m c E) (hlen : G.length + E.length ≤ 1000000) (hbase : base ≤ w.heap.size)
    (h : ∀ A' c' w', OwnP w' base (.slice A' (k + m) c') (G ++ E) → w.grownBy w' (Value.slice B k d).ownBlock → K (a.put o.dst (.slice A' (k + m) c')) w') :
    if Region.wanted o (yielded ops a.tmps) = true then Oper.wp Tryd.prog o a w K Q else Z := by
  have hw : Region.wanted o (yielded ops a.tmps) = true := by simp [Region.wanted, hgd]
  rw [if_pos hw]
  exact wp_append_pairs s x ho base B k d G hs hown A m c E hx hsrc hlen hbase h
theorem wpList_append_pairs {ops : Array Oper} {rest : List Oper} {o : Oper} {a : Act} {w : World} {Q : Exit → Act → World → Prop} (hgd : o.guard = none) (s x : Operand)
    (ho : o.op = .call { callee := .builtin .append, args := #[s, x], argTypes := #[25, 25] }) (base : Nat)
    (B : Option Addr) (k d : Nat) (G : List (Nat × Nat)) (hs : a.eval s = .slice B k d) (hown : OwnP w base (.slice B k d) G)
    (A : Option Addr) (m c : Nat) (E : List (Nat × Nat)) (hx : a.eval x = .slice A m c) (hsrc : SrcP w A m c E) (hlen : G.length + E.length ≤ 1000000) (hbase : base ≤ w.heap.size)
    (h : ∀ A' c' w', OwnP w' base (.slice A' (k + m) c') (G ++ E) → w.grownBy w' (Value.slice B k d).ownBlock → wpList Tryd.prog ops Q rest (a.put o.dst (.slice A' (k + m) c')) w') : wpList Tryd.prog ops Q (o :: rest) a w :=
  wpList_plain hgd fun _ hK => wp_append_pairs s x ho base B k d G hs hown A m c E hx hsrc hlen hbase fun A' c' w' h1 h2 => hK _ _ (h A' c' w' h1 h2)
theorem OwnP.keep {W W' : World} {lo : Nat} {v : Value} {E : List (Nat × Nat)} (h : OwnP W lo v E) (hb : ∀ b, v.ownBlock = some b → W'.heap[b]? = W.heap[b]?) : OwnP W' lo v E := own_of_block h hb
theorem OwnP.lt {W : World} {lo : Nat} {v : Value} {E : List (Nat × Nat)} (h : OwnP W lo v E) : ∀ b, v.ownBlock = some b → lo ≤ b ∧ b < W.heap.size := World.ownsRow.lt h
/-- The first q pairs of a row of at least one. -/
theorem src_take {W : World} {lo g n c q : Nat} {E : List (Nat × Nat)} (h : OwnP W lo (.slice (some ⟨g, 0, none⟩) n c) E) (hq : q ≤ n) : SrcP W (some ⟨g, 0, none⟩) q c (E.take q) := by
  obtain ⟨hn, _⟩ := ownP_edg h
  refine ⟨by rw [List.length_take]; omega, .inr ⟨_, rfl, fun j u hu => ?_⟩⟩
  rw [pc_take, List.getElem?_take] at hu
  split at hu
  · exact World.ownsRow.cells h rfl j u hu
  · cases hu
/-- The pairs from the q-th on. -/
theorem src_drop {W : World} {lo g n c q : Nat} {E : List (Nat × Nat)} (h : OwnP W lo (.slice (some ⟨g, 0, none⟩) n c) E) (hq : q ≤ n) : SrcP W (if c = q then some ⟨g, 0, none⟩ else some ⟨g, q * 2, none⟩) (n - q) (c - q) (E.drop q) := by
  obtain ⟨hn, _⟩ := ownP_edg h
  refine ⟨by rw [List.length_drop]; omega, ?_⟩
  by_cases e : c = q
  · rw [if_pos e]
    refine .inr ⟨_, rfl, fun j u hu => ?_⟩
    have hnc : n ≤ c := by
      rcases h.2 with ⟨e2, _⟩ | ⟨g', cap, cur, e2, _, _, h3, _⟩
      · cases e2
      · injection e2 with _ _ e4; omega
    rw [List.drop_eq_nil_of_le (by omega)] at hu
    cases hu
  · rw [if_neg e]
    refine .inr ⟨_, rfl, fun j u hu => ?_⟩
    rw [pc_drop, List.getElem?_drop] at hu
    have := World.ownsRow.cells h rfl _ u hu
    rw [Addr.add_lit] at this
    rw [Addr.add_lit]
    rw [Nat.zero_add] at this
    exact this
end Go.Proofs.YtlgdcbhdmffnoaaDoor
