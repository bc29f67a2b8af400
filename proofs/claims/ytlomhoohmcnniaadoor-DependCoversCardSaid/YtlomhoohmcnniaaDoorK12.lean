/-
  What the order's functions answer for any integers: Less, Concurrent, IsLinear, Down. Plain mathematics; no function of the program.
  The frontier's counts and bits as functions of the list alone. Plain mathematics; no function of the program.
-/
import Derived.Test.YtlomhoohmcnniaaDoorK11

namespace Go.Proofs.YtlomhoohmcnniaaDoor.PO
open Go.Proofs.YtlomhoohmcnniaaDoor

def isEl (n : Nat) (a : Int) : Bool := decide (0 ≤ a) && decide (a < (n : Int))
theorem isEl_iff {n : Nat} {a : Int} : isEl n a = true ↔ ∃ x : Nat, a = (x : Int) ∧ x < n := by
  unfold isEl
  rw [Bool.and_eq_true, decide_eq_true_iff, decide_eq_true_iff]
  constructor
  · rintro ⟨h1, h2⟩
    exact ⟨a.toNat, by omega, by omega⟩
  · rintro ⟨x, rfl, h⟩
    omega
theorem isEl_nat {n x : Nat} (h : x < n) : isEl n (x : Int) = true := isEl_iff.2 ⟨x, rfl, h⟩
def ltI (R : List Nat) (a b : Int) : Bool := isEl R.length a && isEl R.length b && lt R a.toNat b.toNat
def concI (R : List Nat) (a b : Int) : Bool := isEl R.length a && isEl R.length b && decide (a ≠ b) && !lt R a.toNat b.toNat && !lt R b.toNat a.toNat
theorem ltI_nat {R : List Nat} {a b : Nat} (ha : a < R.length) (hb : b < R.length) : ltI R (a : Int) (b : Int) = lt R a b := by
  unfold ltI
  rw [isEl_nat ha, isEl_nat hb]
  rfl
theorem ltI_nat' {R : List Nat} (hs : Small R) (a b : Nat) : ltI R (a : Int) (b : Int) = lt R a b := by
  cases h : lt R a b with
  | true => rw [ltI_nat (lt_from h) (lt_to hs h), h]
  | false => unfold ltI; simp [h]
theorem concI_nat {R : List Nat} {a b : Nat} (ha : a < R.length) (hb : b < R.length) : concI R (a : Int) (b : Int) = (decide (a ≠ b) && !lt R a b && !lt R b a) := by
  unfold concI
  rw [isEl_nat ha, isEl_nat hb]
  have : decide ((a : Int) ≠ (b : Int)) = decide (a ≠ b) := by
    rw [decide_eq_decide]
    omega
  rw [this]
  rfl
/-- Place i of a list suits the places before it. -/
def okAt (R : List Nat) (l : List Int) (i : Nat) : Bool := isEl R.length (l[i]?.getD 0) && (List.range i).all fun k => decide (l[k]?.getD 0 ≠ l[i]?.getD 0) && !lt R (l[i]?.getD 0).toNat (l[k]?.getD 0).toNat
def isLinI (R : List Nat) (l : List Int) : Bool := decide (l.length = R.length) && (List.range l.length).all (okAt R l)
def okTo (R : List Nat) (l : List Int) (i : Nat) : Bool := (List.range i).all (okAt R l)
theorem okTo_succ (R : List Nat) (l : List Int) (i : Nat) : okTo R l (i + 1) = (okTo R l i && okAt R l i) := by
  unfold okTo
  rw [List.range_succ, List.all_append]
  simp
theorem isLinI_nat (R l : List Nat) : isLinI R (l.map fun x : Nat => (x : Int)) = isLin R l := by
  unfold isLinI isLin
  rw [List.length_map]
  congr 1
  rw [Bool.eq_iff_iff, List.all_eq_true, List.all_eq_true]
  have hg : ∀ j : Nat, j < l.length → (l.map fun x : Nat => (x : Int))[j]?.getD 0 = ((l[j]?.getD 0 : Nat) : Int) := fun j hj => by
    rw [List.getElem?_map, List.getElem?_eq_getElem hj]
    rfl
  have key : ∀ i, i < l.length → (okAt R (l.map fun x : Nat => (x : Int)) i = true ↔ (decide (l[i]?.getD 0 < R.length) && (List.range i).all fun k => decide (l[k]?.getD 0 ≠ l[i]?.getD 0) && !lt R (l[i]?.getD 0) (l[k]?.getD 0)) = true) := by
    intro i hi
    unfold okAt
    rw [hg i hi, Bool.and_eq_true, Bool.and_eq_true, List.all_eq_true, List.all_eq_true]
    refine and_congr ?_ ?_
    · unfold isEl
      simp
    · refine forall_congr' fun k => forall_congr' fun hk => ?_
      have hk := List.mem_range.1 hk
      rw [hg k (by omega)]
      have : decide (((l[k]?.getD 0 : Nat) : Int) ≠ ((l[i]?.getD 0 : Nat) : Int)) = decide (l[k]?.getD 0 ≠ l[i]?.getD 0) := by
        rw [decide_eq_decide]
        omega
      rw [this]
      rfl
  constructor
  · exact fun h i hi => (key i (List.mem_range.1 hi)).1 (h i hi)
  · exact fun h i hi => (key i (List.mem_range.1 hi)).2 (h i hi)
/-! ### masks -/
def msk (l : List Nat) : Nat := l.foldl (fun m v => m ||| 2 ^ v) 0
theorem msk_snoc (l : List Nat) (v : Nat) : msk (l ++ [v]) = msk l ||| 2 ^ v := by
  unfold msk
  rw [List.foldl_append]
  rfl
theorem msk_bit (l : List Nat) (i : Nat) : (msk l).testBit i = decide (i ∈ l) := by
  suffices ∀ k, k ≤ l.length → (msk (l.take k)).testBit i = decide (i ∈ l.take k) by
    have := this l.length (Nat.le_refl _)
    rwa [List.take_length] at this
  intro k
  induction k with
  | zero => intro _; simp [msk]
  | succ k ih =>
    intro hk
    have hp : l[k]? = some l[k] := List.getElem?_eq_getElem (by omega)
    have e : l.take (k + 1) = l.take k ++ [l[k]] := by rw [List.take_add_one, hp]; rfl
    rw [e, msk_snoc, add_bit, ih (by omega), Bool.eq_iff_iff, Bool.or_eq_true, decide_eq_true_iff, decide_eq_true_iff, decide_eq_true_iff, List.mem_append, List.mem_singleton]
theorem msk_lt {n : Nat} (l : List Nat) (h : ∀ x ∈ l, x < n) : msk l < 2 ^ n := by
  suffices ∀ (l : List Nat) (m : Nat), m < 2 ^ n → (∀ x ∈ l, x < n) → l.foldl (fun m v => m ||| 2 ^ v) m < 2 ^ n from this l 0 (Nat.two_pow_pos n) h
  intro l
  induction l with
  | nil => exact fun m hm _ => hm
  | cons x xs ih => exact fun m hm h => ih _ (add_lt hm (h x (by simp))) fun y hy => h y (by simp [hy])
theorem meets_iff (m r : Nat) : (m &&& r) ≠ 0 ↔ ∃ x, m.testBit x = true ∧ r.testBit x = true := by
  constructor
  · intro h
    apply Classical.byContradiction
    intro hc
    apply h
    apply Nat.eq_of_testBit_eq
    intro i
    rw [Nat.testBit_and, Nat.zero_testBit]
    cases h1 : m.testBit i with
    | false => rfl
    | true =>
      cases h2 : r.testBit i with
      | false => rfl
      | true => exact absurd ⟨i, h1, h2⟩ hc
  · rintro ⟨x, h1, h2⟩ e
    have := Nat.testBit_and m r x
    rw [e, Nat.zero_testBit, h1, h2] at this
    cases this
/-- The list's places so far. -/
def preM (l : List Int) (i : Nat) : Nat := msk ((l.take i).map Int.toNat)
theorem preM_succ {l : List Int} {i x : Nat} (h : l[i]? = some (x : Int)) : preM l (i + 1) = preM l i ||| 2 ^ x := by
  unfold preM
  rw [List.take_add_one, h, List.map_append]
  simp only [Option.toList, List.map_cons, List.map_nil, Int.toNat_natCast]
  exact msk_snoc _ _
theorem okTo_el {R : List Nat} {l : List Int} {i : Nat} (h : okTo R l i = true) {z : Int} (hz : z ∈ l.take i) : isEl R.length z = true := by
  obtain ⟨k, hk, rfl⟩ := List.mem_iff_getElem.1 hz
  rw [List.length_take] at hk
  have h1 := List.all_eq_true.1 h k (List.mem_range.2 (by omega))
  unfold okAt at h1
  rw [Bool.and_eq_true] at h1
  rw [List.getElem_take]
  rw [List.getElem?_eq_getElem (by omega)] at h1
  exact h1.1
theorem preM_lt {R : List Nat} {l : List Int} {i : Nat} (h : okTo R l i = true) : preM l i < 2 ^ R.length := by
  refine msk_lt _ fun x hx => ?_
  obtain ⟨z, hz, rfl⟩ := List.mem_map.1 hx
  obtain ⟨y, rfl, hy⟩ := isEl_iff.1 (okTo_el h hz)
  exact hy
theorem preM_bit {R : List Nat} {l : List Int} {i : Nat} (h : okTo R l i = true) (x : Nat) : (preM l i).testBit x = true ↔ (x : Int) ∈ l.take i := by
  unfold preM
  rw [msk_bit, decide_eq_true_iff, List.mem_map]
  constructor
  · rintro ⟨z, hz, e⟩
    obtain ⟨y, rfl, hy⟩ := isEl_iff.1 (okTo_el h hz)
    rw [Int.toNat_natCast] at e
    subst e
    exact hz
  · exact fun h => ⟨_, h, Int.toNat_natCast x⟩
theorem okAt_iff {R : List Nat} {l : List Int} {i x : Nat} (h : okTo R l i = true) (hi : l[i]? = some (x : Int)) (hx : x < R.length) : okAt R l i = (!(preM l i).testBit x && decide (preM l i &&& rw_ R x = 0)) := by
  have hil := (List.getElem?_eq_some_iff.1 hi).1
  have hmem : ∀ P : Int → Prop, (∀ z ∈ l.take i, P z) ↔ ∀ k, k < i → P (l[k]?.getD 0) := by
    intro P
    constructor
    · intro h1 k hk
      refine h1 _ ?_
      rw [List.getElem?_eq_getElem (by omega), Option.getD_some]
      exact List.mem_iff_getElem.2 ⟨k, by rw [List.length_take]; omega, by rw [List.getElem_take]⟩
    · intro h1 z hz
      obtain ⟨k, hk, rfl⟩ := List.mem_iff_getElem.1 hz
      rw [List.length_take] at hk
      have := h1 k (by omega)
      rw [List.getElem?_eq_getElem (by omega)] at this
      rw [List.getElem_take]
      exact this
  rw [Bool.eq_iff_iff]
  unfold okAt
  rw [hi, Option.getD_some, isEl_nat hx, Bool.true_and, List.all_eq_true]
  simp only [List.mem_range, Bool.and_eq_true, decide_eq_true_iff, Bool.not_eq_true', Int.toNat_natCast]
  rw [show (∀ k, k < i → l[k]?.getD 0 ≠ (x : Int) ∧ lt R x (l[k]?.getD 0).toNat = false) ↔ ∀ z ∈ l.take i, z ≠ (x : Int) ∧ lt R x z.toNat = false from (hmem fun z => z ≠ (x : Int) ∧ lt R x z.toNat = false).symm]
  constructor
  · intro h1
    constructor
    · cases hb : (preM l i).testBit x with
      | false => rfl
      | true => exact absurd rfl (h1 _ ((preM_bit h x).1 hb)).1
    · apply Classical.byContradiction
      intro hne
      obtain ⟨y, hy1, hy2⟩ := (meets_iff _ _).1 hne
      have := (h1 _ ((preM_bit h y).1 hy1)).2
      rw [Int.toNat_natCast] at this
      unfold lt at this
      unfold rw_ at hy2
      rw [this] at hy2
      cases hy2
  · rintro ⟨h1, h2⟩ z hz
    obtain ⟨y, rfl, hy⟩ := isEl_iff.1 (okTo_el h hz)
    have hb := (preM_bit h y).2 hz
    constructor
    · intro e
      have e : y = x := by omega
      subst e
      rw [h1] at hb
      cases hb
    · rw [Int.toNat_natCast]
      cases hc : lt R x y with
      | false => rfl
      | true => exact absurd h2 ((meets_iff _ _).2 ⟨y, hb, hc⟩)
/-! ### Down -/
def downB (R : List Nat) (l : List Int) (a : Nat) : Bool := l.any fun z => decide (z = (a : Int)) || ltI R (a : Int) z
def downI (R : List Nat) (l : List Int) : List Nat := (List.range R.length).filter (downB R l)
def gvn (n : Nat) (l : List Int) : Nat := l.foldl (fun m z => if isEl n z then m ||| 2 ^ z.toNat else m) 0
theorem gvn_snoc (n : Nat) (l : List Int) (z : Int) : gvn n (l ++ [z]) = if isEl n z then gvn n l ||| 2 ^ z.toNat else gvn n l := by
  unfold gvn
  rw [List.foldl_append]
  rfl
theorem gvn_lt (n : Nat) (l : List Int) : gvn n l < 2 ^ n := by
  unfold gvn
  suffices ∀ (l : List Int) (m : Nat), m < 2 ^ n → l.foldl (fun m z => if isEl n z then m ||| 2 ^ z.toNat else m) m < 2 ^ n from this l 0 (Nat.two_pow_pos n)
  intro l
  induction l with
  | nil => exact fun m hm => hm
  | cons z t ih =>
    intro m hm
    rw [List.foldl_cons]
    apply ih
    split
    · rename_i h
      obtain ⟨x, rfl, hx⟩ := isEl_iff.1 h
      exact add_lt hm hx
    · exact hm
theorem gvn_bit (n : Nat) (l : List Int) (x : Nat) : (gvn n l).testBit x = true ↔ x < n ∧ (x : Int) ∈ l := by
  suffices ∀ k, k ≤ l.length → ((gvn n (l.take k)).testBit x = true ↔ x < n ∧ (x : Int) ∈ l.take k) by
    have := this l.length (Nat.le_refl _)
    rwa [List.take_length] at this
  intro k
  induction k with
  | zero => intro _; simp [gvn]
  | succ k ih =>
    intro hk
    have hp : l[k]? = some l[k] := List.getElem?_eq_getElem (by omega)
    obtain ⟨z, hz⟩ : ∃ z, l[k] = z := ⟨_, rfl⟩
    rw [hz] at hp
    rw [List.take_add_one, hp]
    simp only [Option.toList]
    rw [gvn_snoc, List.mem_append, List.mem_singleton]
    by_cases h : isEl n z = true
    · rw [if_pos h]
      obtain ⟨y, rfl, hy⟩ := isEl_iff.1 h
      rw [add_bit, Bool.or_eq_true, ih (by omega), decide_eq_true_iff, Int.toNat_natCast]
      constructor
      · rintro (⟨h1, h2⟩ | rfl)
        · exact ⟨h1, .inl h2⟩
        · exact ⟨hy, .inr rfl⟩
      · rintro ⟨h1, h2 | h2⟩
        · exact .inl ⟨h1, h2⟩
        · exact .inr (by omega)
    · rw [if_neg h, ih (by omega)]
      constructor
      · exact fun ⟨h1, h2⟩ => ⟨h1, .inl h2⟩
      · rintro ⟨h1, h2 | h2⟩
        · exact ⟨h1, h2⟩
        · subst h2
          exact absurd (isEl_nat h1) h
theorem down_iff {R : List Nat} (l : List Int) {a : Nat} (ha : a < R.length) : downB R l a = ((gvn R.length l).testBit a || decide (gvn R.length l &&& rw_ R a ≠ 0)) := by
  rw [Bool.eq_iff_iff]
  unfold downB
  rw [List.any_eq_true]
  simp only [Bool.or_eq_true, decide_eq_true_iff, meets_iff, gvn_bit]
  constructor
  · rintro ⟨z, hz, rfl | h⟩
    · exact .inl ⟨ha, hz⟩
    · unfold ltI at h
      rw [Bool.and_eq_true, Bool.and_eq_true] at h
      obtain ⟨y, rfl, hy⟩ := isEl_iff.1 h.1.2
      exact .inr ⟨y, ⟨hy, hz⟩, h.2⟩
  · rintro (⟨_, h⟩ | ⟨y, ⟨hy, h⟩, h2⟩)
    · exact ⟨_, h, .inl rfl⟩
    · exact ⟨_, h, .inr (by rw [ltI_nat ha hy]; exact h2)⟩
end Go.Proofs.YtlomhoohmcnniaaDoor.PO

namespace Go.Proofs.YtlomhoohmcnniaaDoor.PO
open Go.Proofs.YtlomhoohmcnniaaDoor

def kF (nx : List (List Nat)) (d : List Nat) : Nat → Int := fun y => (kWait nx d y : Int)
def kM (nx : List (List Nat)) (d : List Nat) : Nat := rdyM (fun x => if canGo nx d x then 0 else 1) nx.length
theorem kF_bd (nx : List (List Nat)) (h : nx.length ≤ 14) (d : List Nat) (y : Nat) : -100 ≤ kF nx d y ∧ kF nx d y ≤ 100 := by
  have : kWait nx d y ≤ nx.length := by
    unfold kWait
    have := List.length_filter_le (fun u => decide (y ∈ nb nx u) && !decide (u ∈ d)) (List.range nx.length)
    rwa [List.length_range] at this
  unfold kF
  omega
theorem kM_lt (nx : List (List Nat)) (d : List Nat) : kM nx d < 2 ^ nx.length := rdyM_lt _ _ (Nat.le_refl _)
theorem kM_bit (nx : List (List Nat)) (d : List Nat) {x : Nat} (hx : x < nx.length) : (kM nx d).testBit x = canGo nx d x := by
  unfold kM
  rw [rdyM_bit, decide_eq_true hx, Bool.true_and]
  cases canGo nx d x <;> simp
theorem kst (nx : List (List Nat)) (d : List Nat) : FSt nx d (kF nx d) (kM nx d) := ⟨fun _ _ => rfl, fun _ hx => kM_bit nx d hx, kM_lt nx d⟩
theorem bits_eq {n m m' : Nat} (h : m < 2 ^ n) (h' : m' < 2 ^ n) (hb : ∀ x, x < n → m.testBit x = m'.testBit x) : m = m' := by
  apply Nat.eq_of_testBit_eq
  intro i
  rcases Nat.lt_or_ge i n with hi | hi
  · exact hb i hi
  · rw [Nat.testBit_lt_two_pow (Nat.lt_of_lt_of_le h (Nat.pow_le_pow_right (by omega) hi)), Nat.testBit_lt_two_pow (Nat.lt_of_lt_of_le h' (Nat.pow_le_pow_right (by omega) hi))]
theorem FSt.mask {nx : List (List Nat)} {d : List Nat} {F : Nat → Int} {m : Nat} (h : FSt nx d F m) : m = kM nx d :=
  bits_eq h.lt (kM_lt nx d) fun x hx => by rw [h.bit x hx, kM_bit nx d hx]
/-- What comes next, as a list. -/
theorem els_kM {nx : List (List Nat)} (h : nx.length ≤ 64) (d : List Nat) : els (kM nx d) = (List.range nx.length).filter (canGo nx d) := by
  refine sorted_ext_nat _ _ (els_sorted _) (List.Pairwise.filter _ (range_sorted _)) fun x => ?_
  rw [els_mem, List.mem_filter, List.mem_range]
  constructor
  · rintro ⟨_, h2⟩
    have := bit_lt (kM_lt nx d) h2
    exact ⟨this, by rw [← kM_bit nx d this]; exact h2⟩
  · rintro ⟨h1, h2⟩
    exact ⟨by omega, by rw [kM_bit nx d h1]; exact h2⟩
theorem step_els {nx : List (List Nat)} (h : nx.length ≤ 64) (d : List Nat) : kStep nx d = (els (kM nx d))[0]? := by
  unfold kStep
  rw [els_kM h, ← List.head?_filter, List.head?_eq_getElem?]
/-- The list on the way of the least order. -/
structure Way (nx : List (List Nat)) (d : List Nat) : Prop where
  closed : ∀ w ∈ d, ∀ u, u < nx.length → w ∈ nb nx u → u ∈ d
  nodup : d.Nodup
  lt : ∀ x ∈ d, x < nx.length
  way : kahn nx (nx.length - d.length) d = topoL nx
theorem Way.nil (nx : List (List Nat)) : Way nx [] := ⟨(fun w h => by cases h), List.nodup_nil, (fun w h => by cases h), rfl⟩
theorem Way.len {nx : List (List Nat)} {d : List Nat} (h : Way nx d) : d.length ≤ nx.length := nodup_len _ _ h.nodup h.lt
theorem Way.snoc {nx : List (List Nat)} {d : List Nat} (h : Way nx d) {a : Nat} (hs : kStep nx d = some a) : a < nx.length ∧ canGo nx d a = true ∧ Way nx (d ++ [a]) := by
  have hs2 := hs
  unfold kStep at hs2
  have ha := List.mem_range.1 (List.mem_of_find?_eq_some hs2)
  have hg := List.find?_some hs2
  obtain ⟨h3, h4⟩ := (canGo_iff _ _ _).1 hg
  have hnd := snoc_nodup h.nodup h3
  have hlt : ∀ x ∈ d ++ [a], x < nx.length := fun x hx => by
    rcases List.mem_append.1 hx with hx | hx
    · exact h.lt x hx
    · rw [List.mem_singleton] at hx
      omega
  refine ⟨ha, hg, fun w hw u hu hn => ?_, hnd, hlt, ?_⟩
  · rcases List.mem_append.1 hw with hw | hw
    · exact List.mem_append_left _ (h.closed w hw u hu hn)
    · rw [List.mem_singleton] at hw
      subst hw
      exact List.mem_append_left _ (h4 u hu hn)
  · have hl := nodup_len _ _ hnd hlt
    rw [← h.way]
    simp only [List.length_append, List.length_cons, List.length_nil] at hl ⊢
    rw [show nx.length - d.length = (nx.length - (d.length + 1)) + 1 by omega, kahn, hs]
theorem Way.done {nx : List (List Nat)} {d : List Nat} (h : Way nx d) (hs : kStep nx d = none) : topoL nx = d := by
  rw [← h.way]
  cases nx.length - d.length with
  | zero => rfl
  | succ f => rw [kahn, hs]
end Go.Proofs.YtlomhoohmcnniaaDoor.PO
namespace Go.Proofs.YtlomhoohmcnniaaDoor.PO
open Go.Proofs.YtlomhoohmcnniaaDoor
/-! ### the closure, as the program makes it -/
def stC (R : List Nat) (a : Nat) : List Nat := R.set a (rw_ R a ||| through (rw_ R) (els (rw_ R a)))
theorem stC_len (R : List Nat) (a : Nat) : (stC R a).length = R.length := by simp [stC]
theorem stC_lt {R : List Nat} {n : Nat} (h : ∀ m ∈ R, m < 2 ^ n) (a : Nat) : ∀ m ∈ stC R a, m < 2 ^ n := fun m hm => by
  unfold stC at hm
  rcases List.mem_or_eq_of_mem_set hm with hm | rfl
  · exact h m hm
  · exact Nat.or_lt_two_pow (rw_lt h a) (through_lt (fun b => rw_lt h b) _)
theorem clo_fold {R0 L : List Nat} (hs : Small R0) (hf : Fore (rows R0) L) (hd : L.Nodup) (hw : ∀ x, x < R0.length → x ∈ L) (hl : ∀ x ∈ L, x < R0.length) : ∀ k, k ≤ L.length → Clo R0 (L.drop (L.length - k)) ((L.drop (L.length - k)).reverse.foldl stC R0)
  | 0, _ => by
    rw [Nat.sub_zero, List.drop_length]
    exact Clo.nil hs
  | k + 1, hk => by
    have ih := clo_fold hs hf hd hw hl k (by omega)
    have hi : L.length - (k + 1) < L.length := by omega
    have e := List.drop_eq_getElem_cons hi
    rw [show L.length - (k + 1) + 1 = L.length - k by omega] at e
    rw [e, List.reverse_cons, foldl_snoc]
    refine ih.step hs hf hd hw (hl _ (List.getElem_mem hi)) (A := L.take (L.length - (k + 1))) ?_
    rw [← e, List.take_append_drop]
/-- The rows of the closure. -/
def clos (R : List Nat) : List Nat := (topoL (rows R)).reverse.foldl stC R
theorem clos_cl {R : List Nat} (hs : Small R) (ht : (topoL (rows R)).length = R.length) : Cl (clos R) ∧ (clos R).length = R.length ∧ ∀ a b, lt (clos R) a b = true ↔ Up (rows R) a b := by
  obtain ⟨h1, h2, h3, _⟩ := topoL_fore (rows R)
  rw [rows_len] at h3
  have hw : ∀ x, x < R.length → x ∈ topoL (rows R) := fun x hx => whole_mem ht h2 h3 hx
  have h := clo_fold hs h1 h2 hw h3 (topoL (rows R)).length (Nat.le_refl _)
  rw [Nat.sub_self, List.drop_zero] at h
  obtain ⟨k1, k2⟩ := h.cl hs hw (acyclic_of_topo (by rw [rows_len]; exact ht))
  exact ⟨k1, h.len, k2⟩
end Go.Proofs.YtlomhoohmcnniaaDoor.PO
