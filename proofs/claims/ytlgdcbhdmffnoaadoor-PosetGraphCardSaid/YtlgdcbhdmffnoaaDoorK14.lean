/-
  The contracts of the law package's cyclic and made: whether generated pairs are cyclic; the order and its reference.
  What the laws of poset walk with: the order, its reference and the number of elements, in a world behind made.
-/
import Derived.Test.YtlgdcbhdmffnoaaDoorK13
import Derived.Test.YtlgdcbhdmffnoaaDoorK10
import Derived.Test.YtlgdcbhdmffnoaaDoorK12

namespace Go.Proofs.YtlgdcbhdmffnoaaDoor
open Go Go.RowKit Go.Proofs

theorem ints_mono {w : World} {B B' m : Nat} {A : Option Addr} {zs : List Int} (h : Ints .i64 B w A m zs) (hb : B ≤ B') : Ints .i64 B' w A m zs :=
  ⟨h.1, fun hm => by obtain ⟨b, off, e, hl, hc⟩ := h.2 hm; exact ⟨b, off, e, by omega, hc⟩⟩
theorem edg_mono {w : World} {B B' m : Nat} {A : Option Addr} {E : List (Nat × Nat)} (h : Edg w B A m E) (hb : B ≤ B') : Edg w B' A m E :=
  ⟨h.1, fun hm => by obtain ⟨b, off, e, hl, hc⟩ := h.2 hm; exact ⟨b, off, e, by omega, hc⟩⟩
def prE (k : Nat) (zs : List Int) : List (Nat × Nat) := if k = 0 then [] else prsL k zs
theorem prStep_lt {n : Nat} (h : 0 < n) (z : Int) : ∀ p ∈ prStep n z, p.1 < n ∧ p.2 < n := by
  intro p hp
  unfold prStep at hp
  have h1 : ∀ x, x % n < n := fun x => Nat.mod_lt x h
  dsimp only at hp
  split at hp
  · split at hp
    · cases hp
    · split at hp
      · rw [List.mem_singleton] at hp; subst hp; exact ⟨h1 _, h1 _⟩
      · rw [List.mem_singleton] at hp; subst hp; exact ⟨h1 _, h1 _⟩
  · rw [List.mem_singleton] at hp; subst hp; exact ⟨h1 _, h1 _⟩
theorem prStep_len (n : Nat) (z : Int) : (prStep n z).length ≤ 1 := by
  unfold prStep
  dsimp only
  split
  · split
    · simp
    · split <;> simp
  · simp
theorem prE_lt {k : Nat} {zs : List Int} : ∀ p ∈ prE k zs, p.1 < k ∧ p.2 < k := by
  intro p hp
  unfold prE at hp
  split at hp
  · cases hp
  · unfold prsL at hp
    obtain ⟨z, _, hz⟩ := List.mem_flatMap.1 hp
    exact prStep_lt (by omega) z p hz
theorem flat_len (n : Nat) : ∀ l : List Int, (l.flatMap (prStep n)).length ≤ l.length
  | [] => Nat.le_refl _
  | z :: t => by
    rw [List.flatMap_cons, List.length_append, List.length_cons]
    have := prStep_len n z
    have := flat_len n t
    omega
theorem prE_len (k : Nat) (zs : List Int) : (prE k zs).length ≤ 12 := by
  unfold prE
  split
  · simp
  · unfold prsL
    have := flat_len k (zs.take 12)
    rw [List.length_take] at this
    omega
def intP (E : List (Nat × Nat)) : List (Int × Int) := E.map fun p => ((p.1 : Int), (p.2 : Int))
theorem natP_int (E : List (Nat × Nat)) : natP (intP E) = E := by
  unfold natP intP
  rw [List.map_map]
  exact (List.map_congr_left (g := id) fun p _ => rfl).trans (List.map_id E)
theorem edgI_of {w : World} {B m : Nat} {A : Option Addr} {E : List (Nat × Nat)} (h : Edg w B A m E) : EdgI w B A m (intP E) := by
  refine ⟨by unfold intP; rw [List.length_map]; exact h.1, fun hm => ?_⟩
  obtain ⟨b, off, e, hb, hc⟩ := h.2 hm
  refine ⟨b, off, e, hb, fun j x y hj => ?_⟩
  unfold intP at hj
  rw [List.getElem?_map] at hj
  cases hE : E[j]? with
  | none => rw [hE] at hj; cases hj
  | some p =>
    obtain ⟨a, b⟩ := p
    rw [hE] at hj
    injection hj with hj
    injection hj with h1 h2
    subst h1 h2
    exact hc j a b hE
theorem inP_int {n : Nat} {E : List (Nat × Nat)} (h : ∀ p ∈ E, p.1 < n ∧ p.2 < n) : inP n (intP E) = true := by
  unfold inP intP
  rw [List.all_eq_true]
  intro q hq
  obtain ⟨p, hp, rfl⟩ := List.mem_map.1 hq
  obtain ⟨h1, h2⟩ := h p hp
  rw [PO.isEl_nat h1, PO.isEl_nat h2]
  rfl
/-- The pairs are not cyclic. -/
def okE (k : Nat) (E : List (Nat × Nat)) : Bool := decide ((topoL (PO.rows (PO.rowsP k E))).length = k)
theorem newC_int {n : Nat} {E : List (Nat × Nat)} (h : ∀ p ∈ E, p.1 < n ∧ p.2 < n) : newC n (intP E) = if okE n E then 0 else 9 := by
  unfold newC okE
  rw [inP_int h, natP_int, if_pos rfl]
  by_cases h2 : (topoL (PO.rows (PO.rowsP n E))).length = n
  · simp [h2]
  · simp [h2]
theorem wAll_lt {n : Nat} (hn : n ≤ 64) {E : List (Nat × Nat)} (h : ∀ p ∈ E, p.1 < n ∧ p.2 < n) (x y : Nat) : PO.wAll (m0 E) n x y = true ↔ PO.Up (PO.rows (PO.rowsP n E)) x y := by
  have hs := PO.rowsP_small n hn E fun p hp => (h p hp).2
  have := PO.wAll_up (nx := PO.rows (PO.rowsP n E)) (M := m0 E) (PO.rows_good hs) (fun x y => by rw [PO.rowsP_nb n hn E h]; unfold m0; rw [decide_eq_true_iff]) x y
  rwa [PO.rows_len, PO.rowsP_len] at this
theorem ok_iff {n : Nat} (hn : n ≤ 64) {E : List (Nat × Nat)} (h : ∀ p ∈ E, p.1 < n ∧ p.2 < n) : okE n E = true ↔ ∀ a, a < n → PO.wAll (m0 E) n a a = false := by
  have ht := PO.topo_iff (PO.rows (PO.rowsP n E))
  rw [PO.rows_len, PO.rowsP_len] at ht
  unfold okE
  rw [decide_eq_true_iff, ht]
  constructor
  · intro hc a _
    cases hb : PO.wAll (m0 E) n a a with
    | false => rfl
    | true => exact absurd ⟨a, (wAll_lt hn h a a).1 hb⟩ hc
  · rintro hw ⟨a, ha⟩
    have hl := ha.from
    rw [PO.rows_len, PO.rowsP_len] at hl
    have := hw a hl
    rw [(wAll_lt hn h a a).2 ha] at this
    cases this
/-- The order's rows. -/
def ordE (k : Nat) (E : List (Nat × Nat)) : List Nat := ordR k (intP E)
theorem ordE_cl {n : Nat} (hn : n ≤ 8) {E : List (Nat × Nat)} (h : ∀ p ∈ E, p.1 < n ∧ p.2 < n) (hk : okE n E = true) : PO.Cl (ordE n E) ∧ (ordE n E).length = n ∧ ∀ a b, PO.lt (ordE n E) a b = PO.wAll (m0 E) n a b := by
  have h0 : newC n (intP E) = 0 := by rw [newC_int h, hk]; rfl
  obtain ⟨k1, k2, k3⟩ := new_cl hn h0
  refine ⟨k1, k2, fun a b => ?_⟩
  rw [Bool.eq_iff_iff, wAll_lt (by omega) h, show PO.lt (ordE n E) a b = true ↔ _ from k3 a b, natP_int]
def gN (a0 : Int) (m : Int) : Nat := (around a0 m).toNat
theorem gN_eq (a0 : Int) {m : Int} (hm : 0 < m) : around a0 m = (gN a0 m : Int) := by
  obtain ⟨h1, _⟩ := around_in a0 m hm
  unfold gN
  omega
theorem gN_lt (a0 : Int) {m : Int} (hm : 0 < m) : (gN a0 m : Int) < m := by
  rw [← gN_eq a0 hm]
  exact (around_in a0 m hm).2
theorem pairs_e (n : Nat) (hn : n ≤ 9) (A : Option Addr) (m c : Nat) (zs : List Int) (w : World) (hI : Ints .i64 w.heap.size w A m zs) (hz : ∀ z ∈ zs, I64 z) :
    Calls Tryd.prog 14 #[.int .i64 (n : Int), .slice A m c] w fun e w' => ∃ A' c', e = .returned (.slice A' (prE n zs).length c') ∧ OwnP w' w.heap.size (.slice A' (prE n zs).length c') (prE n zs) ∧ Below w.heap.size w w' :=
  (pairs_any n hn A m c zs w hI hz).mono fun e w' h => by
    obtain ⟨v, h1, h2, h3⟩ := h
    have h2' : OwnP w' w.heap.size v (prE n zs) := h2
    obtain ⟨A', c', rfl⟩ := ownP_form h2'
    exact ⟨A', c', h1, h2', h3⟩
set_option maxRecDepth 100000 in
set_option maxHeartbeats 4000000 in
theorem cyclic_any (a0 : Int) (h0 : I64 a0) (A : Option Addr) (m c : Nat) (zs : List Int) (w : World) (hI : Ints .i64 w.heap.size w A m zs) (hz : ∀ z ∈ zs, I64 z) :
    Calls Tryd.prog 23 #[.int .i64 a0, .slice A m c] w fun e w' => e = .returned (.bool (!okE (gN a0 8) (prE (gN a0 8) zs))) ∧ Below w.heap.size w w' := by
  have HAR := Lib.hid (around_any a0 8 h0 (by omega) (by omega) w)
  rw [gN_eq a0 (by omega)] at HAR
  have hk8 := gN_lt a0 (m := 8) (by omega)
  obtain ⟨k, hk⟩ : ∃ k, gN a0 8 = k := ⟨_, rfl⟩
  rw [hk] at HAR hk8 ⊢
  have HPR := Lib.hid (pairs_e k (by omega) A m c zs w hI hz)
  have hEd := prE_lt (k := k) (zs := zs)
  have hEl := prE_len k zs
  obtain ⟨E, hE⟩ : ∃ E, prE k zs = E := ⟨_, rfl⟩
  rw [hE] at HPR hEd hEl ⊢
  have HED := Lib.hid hEd
  clear hI hz hk hE hEd h0
  go_enter Tryd.func23, Tryd.ntmps23
  go_wp2_with (first
    | (go_at_call 13; refine HAR.out.mono ?_; rintro e w' ⟨rfl, rfl⟩)
    | (go_at_call 14; refine HPR.out.mono ?_; rintro e w2 ⟨A', c', rfl, ho2, hb2⟩; have HNW := Lib.hid (refNew_any k E.length c' A' E w2 (by omega) (by omega) (ownP_edg ho2).2 HED.out); have HB2 := Lib.hid hb2; clear ho2 hb2 HPR))
  clear HAR
  refine HNW.out.mono ?_
  clear HNW
  rintro e w3 ⟨hb3, hcs⟩
  have hb13 : Below w.heap.size w w3 := HB2.out.trans (hb3.mono HB2.out.size)
  have hres : okE k E = true → (∃ a, a < k ∧ PO.wAll (m0 E) k a a = true) → False := fun ho ⟨a, ha, hw⟩ => by
    have := (ok_iff (by omega) HED.out).1 ho a ha
    rw [hw] at this
    cases this
  have hres2 : okE k E = false → (∀ a, a < k → PO.wAll (m0 E) k a a = false) → False := fun ho hw => by
    have := (ok_iff (by omega) HED.out).2 hw
    rw [ho] at this
    cases this
  rcases hcs with ⟨rfl, hcy⟩ | ⟨hno, v, gs, rfl, hmx⟩
  · have hk : okE k E = false := by
      cases h : okE k E with
      | false => rfl
      | true => exact absurd hcy (fun hc => hres h hc)
    try rw [hk]
    have HB := Lib.hid hb13
    clear hres hres2 hcy hb13 hb3 HB2 HED
    go_wp2_with fail
    go_ret
    rw [hk]
    exact ⟨rfl, HB.out.alloc HB.out.size _⟩
  · have hk : okE k E = true := by
      cases h : okE k E with
      | true => rfl
      | false => exact absurd hno (fun hc => hres2 h hc)
    try rw [hk]
    have HB := Lib.hid hb13
    obtain ⟨vA, vc, rfl, _, _⟩ := own_slice hmx.own
    clear hres hres2 hno hb13 hb3 HB2 HED hmx
    go_wp2_with fail
    go_ret
    rw [hk]
    exact ⟨rfl, HB.out.alloc HB.out.size _⟩
theorem ret_O2 {fn : Func} {p q : Tmp} (hf : fn.results = #[.tmp q, .cell p 33]) {V : World} {b n : Nat} {v code : Value} (tmps : Array Value) (hp : tmps.getD p undef = .pointer (some ⟨b, 0, none⟩)) (hq : tmps.getD q undef = code) (h : OB V b n v) : (results fn tmps).run Tryd.prog V = .ok (.tuple #[code, .agg #[.int .i64 (n : Int), v]]) V := by
  have c0 : V.cell? ⟨b, 0, none⟩ = some (.int .i64 (n : Int)) := cell_of_row V b 0 _ _ (0, 0) h
  have c1 : V.cell? ⟨b, 1, none⟩ = some v := cell_of_row V b 1 _ _ (0, 0) h
  have ia := Tryd.isAgg33
  have so := Tryd.sizeOf33
  simp only [results, hf]
  have hp' : tmps[p]?.getD undef = .pointer (some ⟨b, 0, none⟩) := by simpa using hp
  have hq' : tmps[q]?.getD undef = code := by simpa using hq
  simp [Sem.run_bind, Result.andThen, asAddr, hp', hq', go_sem, c0, c1, ia, so]
theorem Mx.lower {W : World} {lo lo' k n : Nat} {v : Value} {gs : List Nat} {M : Nat → Nat → Bool} (h : Mx W lo v k n gs M) (hl : lo' ≤ lo) : Mx W lo' v k n gs M :=
  ⟨⟨h.own.1, h.own.2.imp id fun ⟨g, cap, cur, e, h1, h2⟩ => ⟨g, cap, cur, e, Nat.le_trans hl h1, h2⟩⟩, h.row, fun g hg => Nat.le_trans hl (h.low g hg), h.nodup⟩
theorem Od.other {W : World} {hi p b i : Nat} {R : List Nat} (h : Od W hi p R) {cs : Array Value} (hb : W.heap[b]? = some (.cells cs 33 (0, 0))) (u : Value) : Od (W.setCell ⟨b, i, none⟩ u) hi p R := by
  obtain ⟨h0, ga, ws, h1, h2⟩ := h
  refine ⟨h0, ga, ws, (Below.heap_setCell W ⟨b, i, none⟩ _ p (heapT_ne h1 hb (by decide))).trans h1, h2.len, (Below.heap_setCell W ⟨b, i, none⟩ _ ga (heapT_ne h2.blk hb (by decide))).trans h2.blk, h2.gin, fun j g m hg hm => ?_, h2.inn⟩
  exact (h2.row j g m hg hm).keep (Below.heap_setCell W ⟨b, i, none⟩ _ g (heapT_ne (h2.row j g m hg hm).2.2 hb (by decide)))
theorem OB.facts {W : World} {b n : Nat} {v : Value} (h : OB W b n v) : W.cell? ⟨b, 0, none⟩ = some (.int .i64 (n : Int)) ∧ W.cell? ⟨b, 1, none⟩ = some v ∧ W.frozen? ⟨b, 0, none⟩ = false ∧ W.frozen? ⟨b, 1, none⟩ = false := by
  refine ⟨cell_of_row W b 0 _ _ (0, 0) h, cell_of_row W b 1 _ _ (0, 0) h, ?_, ?_⟩ <;> (unfold OB at h; simp [World.frozen?, h])
theorem new_e (n m c : Nat) (A : Option Addr) (E : List (Nat × Nat)) (w : World) (hT : Tab w) (hn : n ≤ 8) (hm : m ≤ 1000) (hP : Edg w w.heap.size A m E) (hd : ∀ p ∈ E, p.1 < n ∧ p.2 < n) :
    Calls Tryd.prog 15 #[.int .i64 (n : Int), .slice A m c] w fun e w' => Below w.heap.size w w' ∧ ((okE n E = false ∧ e = .returned (.tuple #[.pointer none, .int .i64 9])) ∨ (okE n E = true ∧ ∃ p, e = .returned (.tuple #[.pointer (some ⟨p, 0, none⟩), .int .i64 0]) ∧ Od w' w'.heap.size p (ordE n E))) :=
  (new_any n m c A (intP E) w hT hn hm (edgI_of hP)).mono fun e w' h => by
    obtain ⟨q, rfl, hb, h1, h2⟩ := h
    rw [newC_int hd] at h1 h2 ⊢
    refine ⟨hb, ?_⟩
    cases hk : okE n E with
    | false =>
      rw [hk] at h1 h2
      have := h2 (by decide)
      subst this
      exact Or.inl ⟨rfl, rfl⟩
    | true =>
      rw [hk] at h1 h2
      obtain ⟨p, rfl, ho⟩ := h1 rfl
      exact Or.inr ⟨rfl, p, rfl, ho⟩
/-- The pairs of an argument list, and the number of its elements. -/
def prA (a0 : Int) (zs : List Int) : List (Nat × Nat) := prE (gN a0 8) zs
def okA (a0 : Int) (zs : List Int) : Bool := okE (gN a0 8) (prA a0 zs)
set_option maxRecDepth 100000 in
set_option maxHeartbeats 4000000 in
theorem made_any (a0 : Int) (h0 : I64 a0) (A : Option Addr) (m c : Nat) (zs : List Int) (w : World) (hT : Tab w) (hI : Ints .i64 w.heap.size w A m zs) (hz : ∀ z ∈ zs, I64 z) :
    Calls Tryd.prog 24 #[.int .i64 a0, .slice A m c] w fun e w' => Below w.heap.size w w' ∧
      ((okA a0 zs = false ∧ e = .returned (.tuple #[.pointer none, .agg #[.int .i64 0, .slice none 0 0]])) ∨
       (okA a0 zs = true ∧ ∃ p v gs, e = .returned (.tuple #[.pointer (some ⟨p, 0, none⟩), .agg #[.int .i64 (gN a0 8 : Nat), v]]) ∧ Od w' w'.heap.size p (ordE (gN a0 8) (prA a0 zs)) ∧ Mx w' w.heap.size v (gN a0 8) (gN a0 8) gs (PO.wAll (m0 (prA a0 zs)) (gN a0 8)))) := by
  have hzv := zero_O_run
  obtain ⟨w1, hw1⟩ : ∃ W, w.alloc (.cells #[.int .i64 0, .slice none 0 0] 33) = W := ⟨_, rfl⟩
  have hb1 : Below w.heap.size w w1 := by rw [← hw1]; exact (Below.refl _ _).alloc (Nat.le_refl _) _
  have ho1 : OB w1 w.heap.size 0 (.slice none 0 0) := by rw [← hw1]; exact World.alloc_heap_new w _
  have hs1 : w1.heap.size = w.heap.size + 1 := by rw [← hw1]; simp
  have HAR := Lib.hid (around_any a0 8 h0 (by omega) (by omega) w1)
  rw [gN_eq a0 (by omega)] at HAR
  have hk8 := gN_lt a0 (m := 8) (by omega)
  unfold okA prA
  obtain ⟨k, hk⟩ : ∃ k, gN a0 8 = k := ⟨_, rfl⟩
  rw [hk] at HAR hk8 ⊢
  have HPR := Lib.hid (pairs_e k (by omega) A m c zs w1 (ints_mono (hI.below hb1) hb1.size) hz)
  have hEd := prE_lt (k := k) (zs := zs)
  have hEl := prE_len k zs
  obtain ⟨E, hE⟩ : ∃ E, prE k zs = E := ⟨_, rfl⟩
  rw [hE] at HPR hEd hEl ⊢
  have HED := Lib.hid hEd
  have HT := Lib.hid (hT.below hT.lt hb1)
  clear hI hz hk hE hEd h0 hT
  go_enter Tryd.func24, Tryd.ntmps24
  have HW1 := Lib.hid hw1
  have HB1 := Lib.hid hb1
  have HO1 := Lib.hid ho1
  clear hw1 hb1 ho1
  go_wp2_with (first
    | (rw [HW1.out]; go_at_call 13; refine HAR.out.mono ?_; rintro e w' ⟨rfl, rfl⟩)
    | (go_at_call 14; refine HPR.out.mono ?_; clear HPR; rintro e w2 ⟨A', c', rfl, ho2, hb2⟩; have HED2 := Lib.hid (ownP_edg ho2).2; have HB2 := Lib.hid hb2; clear ho2 hb2))
  refine (refNew_any k E.length c' A' E _ (by omega) (by omega) HED2.out HED.out).mono ?_
  clear HAR
  rintro e w3 ⟨hb3, hcs⟩
  have HB13 := Lib.hid (HB2.out.trans (hb3.mono HB2.out.size))
  have HED3 := Lib.hid (edg_mono (HED2.out.below hb3) hb3.size)
  have HT3 := Lib.hid (HT.out.below HT.out.lt HB13.out)
  obtain ⟨w4, hw4⟩ : ∃ W, W = w3 := ⟨_, rfl⟩
  rcases hcs with ⟨rfl, hcy⟩ | ⟨hno, v, gs, rfl, hmx⟩
  · have hk : okE k E = false := by
      cases h : okE k E with
      | false => rfl
      | true =>
        obtain ⟨a, ha, hw⟩ := hcy
        have := (ok_iff (by omega) HED.out).1 h a ha
        rw [hw] at this
        cases this
    have HNW := Lib.hid (fun B => (new_e k E.length c' A' E (w3.alloc B) ((HT3.out.below HT3.out.lt ((Below.refl w3.heap.size w3).alloc (Nat.le_refl _) B))) (by omega) (by omega) (edg_mono (HED3.out.below ((Below.refl w3.heap.size w3).alloc (Nat.le_refl _) B)) (by simp)) HED.out))
    have hs3 : w1.heap.size ≤ w3.heap.size := HB13.out.size
    have HO3 := Lib.hid (show OB w3 w.heap.size 0 (.slice none 0 0) from (HB13.out.block _ (by omega)).trans HO1.out)
    clear HT3 HED3 hcy HED2 HB2 hw4 w4
    go_wp2_with (go_at_call 15; refine (HNW.out _).mono ?_; clear HNW; rintro e w5 ⟨hb5, ⟨_, rfl⟩ | ⟨hk5, _⟩⟩; rotate_left; (exfalso; rw [hk] at hk5; cases hk5); have HO5 := Lib.hid (show OB w5 w.heap.size 0 (.slice none 0 0) from (hb5.block _ (by simp; omega)).trans ((Below.heap_alloc w3 _ _ (by omega)).trans HO3.out)); obtain ⟨r0, r1, f0, f1⟩ := HO5.out.facts; have r0 : w5.cell? ⟨w.heap.size, 0, none⟩ = some (.int .i64 0) := r0; have HB5 := Lib.hid (show Below w.heap.size w w5 from HB1.out.trans ((HB13.out.mono (by omega)).trans (((Below.refl _ w3).alloc (by omega) _).trans (hb5.mono (by simp; omega))))); clear hb5)
    refine bodyPost_ret (ret_O2 rfl _ rfl rfl (n := 0) HO5.out.store) rfl ?_
    exact ⟨(HB5.out.setCell (p := ⟨w.heap.size, 0, none⟩) (Nat.le_refl _) _).setCell (p := ⟨w.heap.size, 1, none⟩) (Nat.le_refl _) _, .inl ⟨hk, rfl⟩⟩
  · have hk : okE k E = true := (ok_iff (by omega) HED.out).2 hno
    obtain ⟨vA, vc, rfl, _, _⟩ := own_slice hmx.own
    have HNW := Lib.hid (fun B => (new_e k E.length c' A' E (w3.alloc B) ((HT3.out.below HT3.out.lt ((Below.refl w3.heap.size w3).alloc (Nat.le_refl _) B))) (by omega) (by omega) (edg_mono (HED3.out.below ((Below.refl w3.heap.size w3).alloc (Nat.le_refl _) B)) (by simp)) HED.out))
    have hs3 : w1.heap.size ≤ w3.heap.size := HB13.out.size
    have HO3 := Lib.hid (show OB w3 w.heap.size 0 (.slice none 0 0) from (HB13.out.block _ (by omega)).trans HO1.out)
    have HM3 := Lib.hid (hmx.lower (lo' := w.heap.size) (by have := HB2.out.size; omega))
    clear HT3 HED3 hno HED2 HB2 hw4 w4 hmx
    go_wp2_with (go_at_call 15; refine (HNW.out _).mono ?_; clear HNW; rintro e w5 ⟨hb5, ⟨hk5, _⟩ | ⟨_, p, rfl, hod⟩⟩; (exfalso; rw [hk] at hk5; cases hk5); have HO5 := Lib.hid (show OB w5 w.heap.size 0 (.slice none 0 0) from (hb5.block _ (by simp; omega)).trans ((Below.heap_alloc w3 _ _ (by omega)).trans HO3.out)); obtain ⟨r0, r1, f0, f1⟩ := HO5.out.facts; have r0 : w5.cell? ⟨w.heap.size, 0, none⟩ = some (.int .i64 0) := r0; have HOX := Lib.hid (show OB w5 w3.heap.size k (.slice vA k vc) from (hb5.block _ (by simp)).trans (World.alloc_heap_new w3 _)); obtain ⟨x0, x1, _, _⟩ := HOX.out.facts; have HB5 := Lib.hid (show Below w.heap.size w w5 from HB1.out.trans ((HB13.out.mono (by omega)).trans (((Below.refl _ w3).alloc (by omega) _).trans (hb5.mono (by simp; omega))))); have HM5 := Lib.hid (HM3.out.below (((Below.refl _ w3).alloc (Nat.le_refl _) _).trans (hb5.mono (by simp)))); have HOD := Lib.hid hod; clear hb5 hod)
    have HW := Lib.hid (show OB ((w5.setCell ⟨w.heap.size, 0, none⟩ (.int .i64 (k : Int))).setCell ⟨w.heap.size, 1, none⟩ (.slice vA k vc)).drew w.heap.size k (.slice vA k vc) from HO5.out.store)
    have HMX := Lib.hid (show Mx ((w5.setCell ⟨w.heap.size, 0, none⟩ (.int .i64 (k : Int))).setCell ⟨w.heap.size, 1, none⟩ (.slice vA k vc)).drew w.heap.size (.slice vA k vc) k k gs (PO.wAll (m0 E) k) from ((HM5.out.other HO5.out).other HO5.out.set0).below ((Below.refl _ _).drew))
    have HBB := Lib.hid (((HB5.out.setCell (p := ⟨w.heap.size, 0, none⟩) (Nat.le_refl _) (.int .i64 (k : Int))).setCell (p := ⟨w.heap.size, 1, none⟩) (Nat.le_refl _) (.slice vA k vc)).drew)
    have HDD := Lib.hid (show Od ((w5.setCell ⟨w.heap.size, 0, none⟩ (.int .i64 (k : Int))).setCell ⟨w.heap.size, 1, none⟩ (.slice vA k vc)).drew ((w5.setCell ⟨w.heap.size, 0, none⟩ (.int .i64 (k : Int))).setCell ⟨w.heap.size, 1, none⟩ (.slice vA k vc)).drew.heap.size p (ordE k E) from by
      have h := ((HOD.out.other (i := 0) HO5.out (.int .i64 (k : Int))).other (i := 1) HO5.out.set0 (.slice vA k vc)).below ((Below.refl _ _).drew)
      simpa [World.setCell, World.drew] using h)
    go_region
    go_wp2
    refine bodyPost_ret (ret_O2 rfl _ rfl rfl HW.out) rfl ?_
    exact ⟨HBB.out, .inr ⟨hk, p, _, gs, rfl, HDD.out, HMX.out⟩⟩
end Go.Proofs.YtlgdcbhdmffnoaaDoor

namespace Go.Proofs.YtlgdcbhdmffnoaaDoor
open Go Go.RowKit Go.Proofs

/-- Block p is the order, block b the reference's, of k elements. -/
structure Gd (w V : World) (p b k : Nat) (v : Value) (R gs : List Nat) (M : Nat → Nat → Bool) : Prop where
  od : Od V V.heap.size p R
  ob : OB V b k v
  mx : Mx V w.heap.size v k k gs M
  bel : Below w.heap.size w V
  low : w.heap.size ≤ b
section
variable {w V V' : World} {p b k : Nat} {v : Value} {R gs : List Nat} {M : Nat → Nat → Bool}
theorem Gd.next (h : Gd w V p b k v R gs M) (hb : Below V.heap.size V V') : Gd w V' p b k v R gs M :=
  ⟨(h.od.below hb).more hb.size, (hb.block _ (heap_lt h.ob)).trans h.ob, h.mx.below hb, h.bel.trans (hb.mono h.bel.size), h.low⟩
theorem Gd.drew (h : Gd w V p b k v R gs M) : Gd w V.drew p b k v R gs M := h.next (Below.refl _ _).drew
theorem Gd.drewN (h : Gd w V p b k v R gs M) (n : Nat) : Gd w (V.drewN n) p b k v R gs M := h.next (below_drewN' (Below.refl _ _) n)
theorem Gd.n (h : Gd w V p b k v R gs M) : V.cell? ⟨b, 0, none⟩ = some (.int .i64 (k : Int)) := h.ob.facts.1
theorem Gd.tab (h : Gd w V p b k v R gs M) (hT : Tab w) : Tab V := hT.below hT.lt h.bel
/-- The block of the reference's order is laid behind made. -/
theorem Gd.made (hod : Od V V.heap.size p R) (hmx : Mx V w.heap.size v k k gs M) (hb : Below w.heap.size w V) : Gd w (V.alloc (.cells #[.int .i64 (k : Int), v] 33)) p V.heap.size k v R gs M := by
  have h := (Below.refl V.heap.size V).alloc (Nat.le_refl _) (.cells #[.int .i64 (k : Int), v] 33)
  exact ⟨(hod.below h).more h.size, World.alloc_heap_new V _, hmx.below h, hb.trans (h.mono hb.size), hb.size⟩
end
/-- The number of elements, the pairs and the rows of an argument list. -/
def nA (a0 : Int) : Nat := gN a0 8
def ordA (a0 : Int) (zs : List Int) : List Nat := ordE (nA a0) (prA a0 zs)
theorem nA_lt (a0 : Int) : nA a0 < 8 := by have := gN_lt a0 (m := 8) (by omega); unfold nA; omega
theorem prA_lt (a0 : Int) (zs : List Int) : ∀ e ∈ prA a0 zs, e.1 < nA a0 ∧ e.2 < nA a0 := prE_lt
theorem prA_len (a0 : Int) (zs : List Int) : (prA a0 zs).length ≤ 12 := prE_len _ _
theorem ordA_cl (a0 : Int) {zs : List Int} (hk : okA a0 zs = true) : PO.Cl (ordA a0 zs) ∧ (ordA a0 zs).length = nA a0 ∧ ∀ a b, PO.lt (ordA a0 zs) a b = PO.wAll (m0 (prA a0 zs)) (nA a0) a b :=
  ordE_cl (by have := nA_lt a0; omega) (prA_lt a0 zs) hk
theorem ordA_pair (a0 : Int) {zs : List Int} (hk : okA a0 zs = true) {x y : Nat} (h : (x, y) ∈ prA a0 zs) : PO.lt (ordA a0 zs) x y = true := by
  have hl := nA_lt a0
  obtain ⟨_, _, h3⟩ := ordA_cl a0 hk
  rw [h3, wAll_lt (by omega) (prA_lt a0 zs)]
  exact .one ((PO.rowsP_nb (nA a0) (by omega) (prA a0 zs) (prA_lt a0 zs) x y).2 h)
theorem cyc_a (a0 : Int) (h0 : I64 a0) (A : Option Addr) (m c : Nat) (zs : List Int) (w : World) (hI : Ints .i64 w.heap.size w A m zs) (hz : ∀ z ∈ zs, I64 z) :
    Calls Tryd.prog 23 #[.int .i64 a0, .slice A m c] w fun e w' => e = .returned (.bool (!okA a0 zs)) ∧ Below w.heap.size w w' := cyclic_any a0 h0 A m c zs w hI hz
theorem made_a (a0 : Int) (h0 : I64 a0) (A : Option Addr) (m c : Nat) (zs : List Int) (w W : World) (hT : Tab w) (hI : Ints .i64 w.heap.size w A m zs) (hz : ∀ z ∈ zs, I64 z) (hk : okA a0 zs = true) (hb : Below w.heap.size w W) :
    Calls Tryd.prog 24 #[.int .i64 a0, .slice A m c] W fun e w' => ∃ p A' c' gs, e = .returned (.tuple #[.pointer (some ⟨p, 0, none⟩), .agg #[.int .i64 (nA a0 : Nat), .slice A' (nA a0) c']]) ∧ Gd w (w'.alloc (.cells #[.int .i64 (nA a0 : Nat), .slice A' (nA a0) c'] 33)) p w'.heap.size (nA a0) (.slice A' (nA a0) c') (ordA a0 zs) gs (PO.wAll (m0 (prA a0 zs)) (nA a0)) :=
  (made_any a0 h0 A m c zs W (hT.below hT.lt hb) ((hI.below hb).more hb.size) hz).mono fun e w' h => by
    obtain ⟨hb', h⟩ := h
    rcases h with ⟨h, _⟩ | ⟨_, p, v, gs, rfl, hod, hmx⟩
    · rw [hk] at h; cases h
    · obtain ⟨A', c', rfl, _, _⟩ := own_slice hmx.own
      exact ⟨p, A', c', gs, rfl, Gd.made hod (hmx.lower hb.size) (hb.trans (hb'.mono hb.size))⟩
theorem lives_a (w V : World) (hT : Tab w) (hb : Below w.heap.size w V) : Calls Tryd.prog 17 #[] V fun e w' => e = .returned (.bool true) ∧ Below w.heap.size w w' :=
  (lives_any V (hT.below hT.lt hb)).mono fun _ _ h => ⟨h.1, hb.trans (h.2.mono hb.size)⟩
end Go.Proofs.YtlgdcbhdmffnoaaDoor
