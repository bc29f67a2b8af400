/-
  The library's Sort and Compact at rows of the call's own: out of the shelf's contracts. No condition but lengths.
  The contract of slices.Compare at []int: the lexicographic order. Condition: both slices hold naturals.
  The library's SortFunc at a slice of rows of the call's own, by slices.Compare: out of the shelf's contract. Condition: lengths.
  The contract of graph.Reach: what the search from the given vertices leaves, sorted. Condition: the edges' ends are vertices.
-/
import Derived.Test.YtdebnnigbbjbcaaDoorK4
import Derived.Test.YtdebnnigbbjbcaaDoorK9
import Derived.Sort.OwnSortedInts
import Derived.Shelf.SlSortCmp.NoneTotal
import Derived.Test.YtdebnnigbbjbcaaDoorK11

namespace Go.Proofs.YtdebnnigbbjbcaaDoor
open Go Go.RowKit Go.Sort Go.Proofs

theorem ownI_form {w : World} {base : Nat} {v : Value} {zs : List Int} (h : OwnI w base v zs) : (v = .slice none 0 0 ∧ zs = []) ∨ ∃ g cap cur, v = .slice (some ⟨g, 0, none⟩) zs.length cap ∧ base ≤ g ∧ w.heap[g]? = some (.cells cur 3 (0, 0)) ∧ zs.length ≤ cap ∧ cap ≤ maxLen ∧ cur.size = cap * 1 ∧ cur.toList.take zs.length = zs.map (Value.int .i64) := by
  rcases h.2 with ⟨h1, h2⟩ | ⟨g, cap, cur, h1, h2, h3, h4, h5, h6, h7⟩
  · exact .inl ⟨h1, List.eq_nil_of_length_eq_zero h2⟩
  · exact .inr ⟨g, cap, cur, h1, h2, h3, h4, h5, h6, by rw [Nat.mul_one] at h7; exact h7⟩
theorem ownI_cut {w : World} {base g cap n : Nat} {cur : Array Value} {ks rest : List Int} (hbase : base ≤ g) (hb : w.heap[g]? = some (.cells cur 3 (0, 0))) (h1 : (ks ++ rest).length ≤ cap) (h2 : cap ≤ maxLen) (h3 : cur.size = cap * 1) :
    OwnI (putRow (Value.int .i64) (Sort.ahead w n) g 0 (ks ++ rest).toArray) base (.slice (some ⟨g, 0, none⟩) ks.length cap) ks := by
  have hh := heap_sortedI (w := w) (g := g) (n := n) (os := #[]) (ks ++ rest).toArray hb
  rw [grow_empty] at hh
  refine ⟨by simp, .inr ⟨g, cap, _, rfl, hbase, hh, by rw [List.length_append] at h1; omega, h2, by simp [putCells, h3], ?_⟩⟩
  have ht := take_putCellsI cur (ks ++ rest) (by omega)
  rw [Nat.mul_one]
  have := congrArg (List.take ks.length) ht
  rw [List.take_take, Nat.min_eq_left (by simp), List.map_append, List.take_left' (by simp)] at this
  exact this
theorem grown_put {w : World} {g n : Nat} (d : Array Int) : w.grownBy (putRow (Value.int .i64) (Sort.ahead w n) g 0 d) (some g) := by
  have := grownBy_sortedI (w := w) (g := g) (n := n) (os := #[]) d
  rwa [grow_empty] at this
theorem own_of_base {w : World} {base base' : Nat} {v : Value} {zs : List Int} (h : OwnI w base v zs) (hb : ∀ b, v.ownBlock = some b → base' ≤ b) : OwnI w base' v zs := by
  refine ⟨h.1, ?_⟩
  rcases h.2 with h0 | ⟨g, cap, cur, rfl, h1, h2⟩
  · exact .inl h0
  · exact .inr ⟨g, cap, cur, rfl, hb g rfl, h2⟩
theorem sort_own : SortOwn := by
  intro base v zs W h hl
  rcases ownI_form h with ⟨rfl, rfl⟩ | ⟨g, cap, cur, rfl, hbase, hb, h1, h2, h3, h4⟩
  · refine (Tryd.slices_Sort_int_none none 0 W).mono ?_
    rintro e W' ⟨rfl, rfl⟩
    exact ⟨rfl, by rw [List.mergeSort_nil]; exact h, ⟨rfl, rfl, rfl, Nat.le_refl _, fun _ _ _ => rfl⟩⟩
  · refine (Tryd.slices_Sort_int g 0 cap zs W (holds_of_blockI hb h4) (heap_lt hb) (by omega)).mono ?_
    rintro e W' ⟨rfl, n, os, rfl⟩
    refine ⟨rfl, ?_, grownBy_sortedI _⟩
    have hm := ownsRow_sortedI (os := os) (n := n) (ss := zs) (ts := zs.mergeSort fun x y => decide (x ≤ y)) (by simp) hbase hb h1 h2 h3
    unfold OwnI
    rw [List.length_mergeSort]
    exact hm
theorem compact_len (d : Array Int) (m : Nat) : (Lib.compactUpTo d m).length ≤ m := by
  unfold Lib.compactUpTo
  rw [List.length_map]
  have := List.length_filter_le (Lib.keeps d) (List.range m)
  rwa [List.length_range] at this
theorem compact_own : CompactOwn := by
  intro base v zs W h hl
  rcases ownI_form h with ⟨rfl, rfl⟩ | ⟨g, cap, cur, rfl, hbase, hb, h1, h2, h3, h4⟩
  · refine (Tryd.slices_Compact_int_empty none 0 W).mono ?_
    rintro e W' ⟨rfl, rfl⟩
    exact ⟨_, rfl, h, ⟨rfl, rfl, rfl, Nat.le_refl _, fun _ _ _ => rfl⟩, fun _ hb => hb⟩
  · refine (Tryd.slices_Compact_int g 0 cap zs W (holds_of_blockI hb h4) (by omega) h1).mono ?_
    rintro e W' ⟨rfl, q, rfl⟩
    have hcl : (Lib.compact zs).length ≤ zs.length := compact_len _ _
    exact ⟨_, rfl, ownI_cut hbase hb (by rw [List.length_append, List.length_replicate]; omega) h2 h3, grown_put _, fun _ hb => hb⟩
end Go.Proofs.YtdebnnigbbjbcaaDoor

namespace Go.Proofs.YtdebnnigbbjbcaaDoor
open Go Go.RowKit Go.Proofs

/-- -1, 0, 1 by the lexicographic order. -/
def cmpL : List Nat → List Nat → Int
  | [], [] => 0
  | [], _ :: _ => -1
  | _ :: _, [] => 1
  | x :: xs, y :: ys => if x < y then -1 else if y < x then 1 else cmpL xs ys
theorem cmpL_self (xs : List Nat) : cmpL xs xs = 0 := by
  induction xs with
  | nil => rfl
  | cons x xs ih => simp [cmpL, ih]
theorem cmpL_neg (xs ys : List Nat) : cmpL ys xs = - cmpL xs ys := by
  induction xs generalizing ys with
  | nil => cases ys <;> simp [cmpL]
  | cons x xs ih =>
    cases ys with
    | nil => simp [cmpL]
    | cons y ys =>
      simp only [cmpL]
      by_cases h1 : x < y
      · rw [if_neg (by omega), if_pos h1, if_pos h1]; rfl
      · by_cases h2 : y < x
        · rw [if_pos h2, if_neg h1, if_pos h2]
        · rw [if_neg h2, if_neg h1, if_neg h1, if_neg h2]; exact ih ys
theorem cmpL_range (xs ys : List Nat) : cmpL xs ys = -1 ∨ cmpL xs ys = 0 ∨ cmpL xs ys = 1 := by
  induction xs generalizing ys with
  | nil => cases ys <;> simp [cmpL]
  | cons x xs ih =>
    cases ys with
    | nil => simp [cmpL]
    | cons y ys =>
      simp only [cmpL]
      split
      · exact .inl rfl
      · split
        · exact .inr (.inr rfl)
        · exact ih ys
theorem cmpL_eq (xs ys : List Nat) : cmpL xs ys = 0 ↔ xs = ys := by
  induction xs generalizing ys with
  | nil => cases ys <;> simp [cmpL]
  | cons x xs ih =>
    cases ys with
    | nil => simp [cmpL]
    | cons y ys =>
      simp only [cmpL]
      by_cases h1 : x < y
      · rw [if_pos h1]
        simp
        omega
      · by_cases h2 : y < x
        · rw [if_neg h1, if_pos h2]
          simp
          omega
        · rw [if_neg h1, if_neg h2, ih]
          have : x = y := by omega
          simp [this]
theorem cmpL_trans (xs ys zs : List Nat) (h1 : cmpL xs ys ≤ 0) (h2 : cmpL ys zs ≤ 0) : cmpL xs zs ≤ 0 ∧ (cmpL xs zs = 0 → cmpL xs ys = 0 ∧ cmpL ys zs = 0) := by
  induction xs generalizing ys zs with
  | nil =>
    cases zs with
    | nil =>
      cases ys with
      | nil => simp [cmpL]
      | cons y ys => simp [cmpL] at h2
    | cons z zs => simp [cmpL]
  | cons x xs ih =>
    cases ys with
    | nil => simp [cmpL] at h1
    | cons y ys =>
      cases zs with
      | nil => simp [cmpL] at h2
      | cons z zs =>
        simp only [cmpL] at h1 h2 ⊢
        by_cases a1 : x < y
        · by_cases b1 : y < z
          · rw [if_pos (by omega)]; simp
          · by_cases b2 : z < y
            · rw [if_neg b1, if_pos b2] at h2; omega
            · rw [if_pos (by omega)]; simp
        · by_cases a2 : y < x
          · rw [if_neg a1, if_pos a2] at h1; omega
          · rw [if_neg a1, if_neg a2] at h1
            by_cases b1 : y < z
            · rw [if_pos (by omega)]; simp
            · by_cases b2 : z < y
              · rw [if_neg b1, if_pos b2] at h2; omega
              · rw [if_neg b1, if_neg b2] at h2
                rw [if_neg (by omega), if_neg (by omega), if_neg a1, if_neg a2, if_neg b1, if_neg b2]
                exact ih ys zs h1 h2
theorem compareInt_nat (x y : Nat) : Lib.compareInt (x : Int) (y : Int) = if x < y then -1 else if y < x then 1 else 0 := by
  unfold Lib.compareInt
  by_cases h1 : x < y
  · simp [h1]
  · by_cases h2 : y < x <;> simp [h1, h2]
theorem cmpL_drop {xs ys : List Nat} {k x y : Nat} (hx : xs[k]? = some x) (hy : ys[k]? = some y) : cmpL (xs.drop k) (ys.drop k) = if x < y then -1 else if y < x then 1 else cmpL (xs.drop (k + 1)) (ys.drop (k + 1)) := by
  obtain ⟨h1, e1⟩ := List.getElem?_eq_some_iff.1 hx
  obtain ⟨h2, e2⟩ := List.getElem?_eq_some_iff.1 hy
  rw [List.drop_eq_getElem_cons h1, List.drop_eq_getElem_cons h2, e1, e2]
  rfl

set_option maxRecDepth 100000 in
set_option maxHeartbeats 2000000 in
theorem compare_any (A A' : Option Addr) (n n' c c' : Nat) (xs ys : List Nat) (w : World) (hx : Ints .i64 w.heap.size w A n (xs.map fun n : Nat => (n : Int))) (hy : Ints .i64 w.heap.size w A' n' (ys.map fun n : Nat => (n : Int))) (hn : n ≤ 100000) (hn' : n' ≤ 100000) :
    Calls Tryd.prog 57 #[.slice A n c, .slice A' n' c'] w fun e w' => e = .returned (.int .i64 (cmpL xs ys)) ∧ w = w' := by
  have hlx : xs.length = n := by have := hx.len; simpa using this
  have hly : ys.length = n' := by have := hy.len; simpa using this
  have HLX := Lib.hid hlx
  have HLY := Lib.hid hly
  have HX := Lib.hid hx
  have HY := Lib.hid hy
  clear hlx hly hx hy
  go_enter Tryd.func57, Tryd.ntmps57
  go_wp2_with fail
  go_loop [11] (fun i => ∃ k : Nat, k ≤ n ∧ i = .int .i64 k ∧ k ≤ n' ∧ Hid (cmpL xs ys = cmpL (xs.drop k) (ys.drop k))) (fun i => n - (intOf i).toNat)
  case atStart => exact ⟨0, Nat.zero_le _, rfl, Nat.zero_le _, rfl⟩
  case round =>
    obtain ⟨k, hk, rfl, hk', hE⟩ := hrel
    by_cases hlt : k < n
    · obtain ⟨b, off, rfl, hb, hc⟩ := HX.out.at_ (by omega)
      have hck := hc k hlt
      obtain ⟨x, hxk⟩ : ∃ x, xs[k]? = some x := ⟨_, List.getElem?_eq_getElem (by rw [HLX.out]; exact hlt)⟩
      rw [List.getElem?_map, hxk] at hck
      have c1 : w.cell? ⟨b, off + k, none⟩ = some (.int .i64 (x : Int)) := hck
      have HXK := Lib.hid hxk
      clear hc hck hxk
      by_cases hlt' : k < n'
      · obtain ⟨b', off', rfl, hb', hc'⟩ := HY.out.at_ (by omega)
        have hck' := hc' k hlt'
        obtain ⟨y, hyk⟩ : ∃ y, ys[k]? = some y := ⟨_, List.getElem?_eq_getElem (by rw [HLY.out]; exact hlt')⟩
        rw [List.getElem?_map, hyk] at hck'
        have c2 : w.cell? ⟨b', off' + k, none⟩ = some (.int .i64 (y : Int)) := hck'
        have HD := Lib.hid (cmpL_drop HXK.out hyk)
        have HCI := Lib.hid (compareInt_nat x y)
        have hnot : ¬ n' ≤ k := by omega
        clear hc' hck' hyk
        obtain ⟨r, hr⟩ : ∃ r, Lib.compareInt (x : Int) (y : Int) = r := ⟨_, rfl⟩
        have HCC := Lib.hid (Tryd.cmp_Compare_int (x : Int) (y : Int) w)
        rw [hr] at HCC
        by_cases hxy : x = y
        · have hr0 : r = 0 := by rw [← hr, HCI.out, if_neg (by omega), if_neg (by omega)]
          have he : cmpL xs ys = cmpL (xs.drop (k + 1)) (ys.drop (k + 1)) := by rw [hE.out, HD.out, if_neg (by omega), if_neg (by omega)]
          have HE := Lib.hid he
          subst hr0
          subst hxy
          clear hr he hE
          go_wp2_with (go_at_call 78; refine HCC.out.mono ?_; rintro e w' ⟨rfl, rfl⟩)
          go_round
          case rel => exact ⟨k + 1, by omega, by go_num, by omega, HE.out⟩
          case measure => simp [intOf]; omega
        · have hr0 : r ≠ 0 := by rw [← hr, HCI.out]; split <;> (try split) <;> omega
          have he : cmpL xs ys = r := by
            rw [hE.out, HD.out, ← hr, HCI.out]
            split
            · rfl
            · split
              · rfl
              · omega
          have HE := Lib.hid he
          have hrn : (r != 0) = true := by simp [hr0]
          clear hr he hE hr0 hxy
          go_wp2_with (go_at_call 78; refine HCC.out.mono ?_; rintro e w' ⟨rfl, rfl⟩)
          go_ret
          exact ⟨by rw [HE.out]; rfl, rfl⟩
      · have hge : n' ≤ k := by omega
        have he : cmpL xs ys = 1 := by
          have hdy : ys.drop k = [] := List.drop_eq_nil_of_le (by rw [HLY.out]; omega)
          rw [hE.out, hdy]
          obtain ⟨h1, e1⟩ := List.getElem?_eq_some_iff.1 HXK.out
          rw [List.drop_eq_getElem_cons h1]
          rfl
        have HE := Lib.hid he
        clear he hE
        go_wp2_with fail
        go_ret
        exact ⟨by rw [HE.out]; rfl, rfl⟩
    · have hkn : k = n := by omega
      have hdx : xs.drop k = [] := List.drop_eq_nil_of_le (by rw [HLX.out]; omega)
      by_cases hlt' : n < n'
      · have he : cmpL xs ys = -1 := by
          rw [hE.out, hdx, List.drop_eq_getElem_cons (by rw [HLY.out]; omega)]
          rfl
        have HE := Lib.hid he
        clear he hE hdx hkn
        go_wp2_with fail
        go_ret
        exact ⟨by rw [HE.out]; rfl, rfl⟩
      · have he : cmpL xs ys = 0 := by
          rw [hE.out, hdx, List.drop_eq_nil_of_le (by rw [HLY.out]; omega)]
          rfl
        have HE := Lib.hid he
        clear he hE hdx hkn
        go_wp2_with fail
        go_ret
        exact ⟨by rw [HE.out]; rfl, rfl⟩
end Go.Proofs.YtdebnnigbbjbcaaDoor

namespace Go.Proofs.YtdebnnigbbjbcaaDoor
open Go Go.RowKit Go.Sort Go.Proofs Go.Lib

/-- av is a slice of the call's own, of rows of the call's own that hold xs. -/
def All (W : World) (lo : Nat) (av : Value) (xs : List (List Nat)) : Prop :=
  ∃ vs : List Value, W.ownsRow lo 22 1 av xs.length vs ∧ ∀ (i : Nat) (v : Value) (l : List Nat), vs[i]? = some v → xs[i]? = some l → Own W lo v l
theorem All.nil (W : World) (lo : Nat) : All W lo (.slice none 0 0) [] := ⟨[], ⟨rfl, .inl ⟨rfl, rfl⟩⟩, fun i v l h => by cases h⟩

section
variable {α : Type} [Inhabited α]
theorem heap_sortedE {enc : α → Value} {w : World} {g n : Nat} {os : Array Obj} {cur : Array Value} {e : TypeId} {fr : Nat × Nat} (d : Array α) (hb : w.heap[g]? = some (.cells cur e fr)) :
    (grow (putRow enc (Sort.ahead w n) g 0 d) os).heap[g]? = some (.cells (putCells enc 0 d cur) e fr) := by
  have hg : g < w.heap.size := (Array.getElem?_eq_some_iff.1 hb).1
  rw [heap_grow_old _ _ (by simpa using hg)]
  simp [putRow, mapBlock, Sort.ahead, Array.getElem?_modify, hb, onCells]
theorem grownBy_sortedE {enc : α → Value} {w : World} {g n : Nat} {os : Array Obj} (d : Array α) : w.grownBy (grow (putRow enc (Sort.ahead w n) g 0 d) os) (some g) := by
  refine ⟨rfl, rfl, rfl, by simp, fun k hk hne => ?_⟩
  rw [heap_grow_old _ _ (by simpa using hk)]
  have : g ≠ k := fun e => hne (by rw [e])
  simp [putRow, mapBlock, Sort.ahead, Array.getElem?_modify, this]
theorem take_putCellsE {enc : α → Value} (cur : Array Value) (d : Array α) (h : d.size ≤ cur.size) : (putCells enc 0 d cur).toList.take d.size = d.toList.map enc := by
  apply List.ext_getElem?
  intro j
  by_cases hj : j < d.size
  · rw [List.getElem?_take_of_lt hj, Array.getElem?_toList]
    simp [putCells, hj, show j < cur.size by omega]
  · rw [List.getElem?_take_eq_none (by omega), List.getElem?_eq_none (by simp; omega)]
end

/-- A row that can be read in W, in another block than g. -/
structure El (W : World) (lo g : Nat) where
  v : Value
  l : List Nat
  own : Own W lo v l
  ne : v.ownBlock ≠ some g
  short : l.length ≤ 100000
instance (W : World) (lo g : Nat) : Inhabited (El W lo g) := ⟨⟨.slice none 0 0, [], Own.nil W lo, by simp [Value.ownBlock], by simp⟩⟩
theorem compare_sorts (W : World) (lo g m size : Nat) : CmpReads Tryd.prog 57 #[] (fun x : El W lo g => x.v) (fun x y => cmpL x.l y.l) g m size W := by
  intro k os dk _ x y
  obtain ⟨v, l, ho, hne, hl⟩ := x
  obtain ⟨v', l', ho', hne', hl'⟩ := y
  have key : ∀ (v : Value) (l : List Nat), Own W lo v l → v.ownBlock ≠ some g → Own (sortWorld (fun x : El W lo g => x.v) W g m k dk os) lo v l := fun v l ho hne => ho.keep fun b hb => by
    have hlt := (ho.lt b hb).2
    have hbg : g ≠ b := fun e => by subst e; exact hne hb
    unfold sortWorld
    rw [heap_grow_old _ _ (by simpa using hlt)]
    simp [putRow, mapBlock, Sort.ahead, Array.getElem?_modify, hbg]
  have h1 := key v l ho hne
  have h2 := key v' l' ho' hne'
  obtain ⟨A, c, rfl, _, _⟩ := ho.slice
  obtain ⟨A', c', rfl, _, _⟩ := ho'.slice
  exact (compare_any A A' l.length l'.length c c' l l' _ h1.lst.2.ints h2.lst.2.ints hl hl').mono fun e w' ⟨he, hw⟩ => ⟨he, 0, hw.symm⟩
theorem swo_cmp (W : World) (lo g : Nat) : SWO (ltOf fun (x y : El W lo g) => cmpL x.l y.l) where
  irrefl x := by unfold ltOf; simp [cmpL_self]
  trans x y z h1 h2 := by
    unfold ltOf at *
    simp at h1 h2 ⊢
    obtain ⟨h3, h4⟩ := cmpL_trans _ _ _ (show cmpL x.l y.l ≤ 0 by omega) (show cmpL y.l z.l ≤ 0 by omega)
    rcases Int.lt_or_eq_of_le h3 with h | h
    · exact h
    · have := (h4 h).1
      omega
  ntrans x y z h1 h2 := by
    unfold ltOf at *
    simp at h1 h2 ⊢
    have e1 := cmpL_neg x.l y.l
    have e2 := cmpL_neg y.l z.l
    have e3 := cmpL_neg x.l z.l
    have := (cmpL_trans z.l y.l x.l (by omega) (by omega)).1
    omega
theorem sortFunc_own (lo : Nat) (av : Value) (xs : List (List Nat)) (W : World) (h : All W lo av xs) (hn : xs.length ≤ 100000) (hl : ∀ l ∈ xs, l.length ≤ 100000) :
    Calls Tryd.prog 56 #[av, .func (.func 57) #[] #[]] W fun e W' => e = .returned (.tuple #[]) ∧ (∃ ys, All W' lo av ys ∧ ys.Perm xs ∧ ys.Pairwise (fun a b => cmpL a b ≤ 0)) ∧ W.grownBy W' av.ownBlock := by
  obtain ⟨vs, ho, hr⟩ := h
  rcases Nat.eq_zero_or_pos xs.length with h0 | hpos
  · have hx : xs = [] := List.eq_nil_of_length_eq_zero h0
    subst hx
    obtain ⟨A, c, rfl, _, _⟩ := own_slice ho
    have hf := AnyF.slices_SortFunc_none (P := Tryd.prog) (ρ := Tryd.laysSlF6_f56_ren) { Tryd.laysSlF6_f56 with } A c (.func (.func 57) #[] #[]) W
    change Calls Tryd.prog 56 _ _ _ at hf
    refine hf.mono ?_
    rintro e W' ⟨rfl, rfl⟩
    exact ⟨rfl, ⟨[], ⟨vs, ho, hr⟩, List.Perm.refl _, List.Pairwise.nil⟩, ⟨rfl, rfl, rfl, Nat.le_refl _, fun _ _ _ => rfl⟩⟩
  · have hvl : vs.length = xs.length := by have := ho.1; simpa using this
    rcases ho.2 with ⟨_, h0⟩ | ⟨g, cap, cur, rfl, h1, h2, h3, h4, h5, h6⟩
    · omega
    · rw [Nat.mul_one] at h5 h6
      have hgl := heap_lt h2
      have hel : ∀ i : Fin xs.length, Own W lo (vs[i.1]'(by omega)) xs[i.1] ∧ (vs[i.1]'(by omega)).ownBlock ≠ some g ∧ xs[i.1].length ≤ 100000 := fun i => by
        have hoi := hr i.1 _ _ (List.getElem?_eq_getElem (by omega)) (List.getElem?_eq_getElem i.2)
        refine ⟨hoi, ?_, hl _ (List.getElem_mem _)⟩
        rcases hoi.2 with ⟨e, _⟩ | ⟨g', _, _, e, _, hg', _⟩
        · rw [e]; simp [Value.ownBlock]
        · rw [e]
          intro e'
          have e' : g' = g := by simpa [Value.ownBlock] using e'
          subst e'
          exact heapT_ne h2 hg' (by decide) rfl
      obtain ⟨d, hd⟩ : ∃ d : Array (El W lo g), d = Array.ofFn fun i : Fin xs.length => (⟨vs[i.1]'(by omega), xs[i.1], (hel i).1, (hel i).2.1, (hel i).2.2⟩ : El W lo g) := ⟨_, rfl⟩
      have hds : d.size = xs.length := by rw [hd]; simp
      have hdi : ∀ (i : Nat) (hi : i < xs.length), d[i]! = (⟨vs[i]'(by omega), xs[i], (hel ⟨i, hi⟩).1, (hel ⟨i, hi⟩).2.1, (hel ⟨i, hi⟩).2.2⟩ : El W lo g) := fun i hi => by
        rw [getElem!_pos d i (by omega)]
        simp [hd]
      have hH : Holds (fun x : El W lo g => x.v) W g 0 d := by
        intro j hj
        rw [hds] at hj
        rw [Nat.zero_add]
        refine ⟨?_, by simp [World.frozen?, h2]⟩
        rw [cell_of_row W g j cur 22 (0, 0) h2, hdi j hj]
        have : (cur.toList.take xs.length)[j]? = vs[j]? := by rw [h6]
        rw [List.getElem?_take_of_lt hj, Array.getElem?_toList, List.getElem?_eq_getElem (by omega)] at this
        exact this
      have h1c : OneCell (fun x : El W lo g => x.v) := fun x => by
        obtain ⟨A, c, e, _, _⟩ := x.own.slice
        show x.v.oneCell' = true
        rw [e]
        rfl
      have eg := enters_of Tryd.func57 (by kernel_rfl) rfl
      have hcon := Tryd.slices_SortFunc (fun x : El W lo g => x.v) h1c (fun x y => cmpL x.l y.l) (swo_cmp W lo g) 57 #[] g 0 cap d W eg (compare_sorts W lo g 0 d.size).lays hH hgl (by omega)
      rw [hds] at hcon
      refine hcon.mono ?_
      rintro e W' ⟨rfl, d', n, os, ⟨hp1, _, hp3⟩, hs, rfl⟩
      have hs' : d'.size = xs.length := by rw [hp1, hds]
      have hp : d'.toList.Perm d.toList := by
        have e1 : d'.extract 0 xs.length = d' := by rw [← hs']; simp
        have e2 : d.extract 0 xs.length = d := by rw [← hds]; simp
        rw [e1, e2] at hp3
        exact hp3
      have hdx : d.toList.map (fun x : El W lo g => x.l) = xs := by
        apply List.ext_getElem?
        intro i
        by_cases hi : i < xs.length
        · rw [List.getElem?_map, Array.getElem?_toList, Array.getElem?_eq_getElem (by omega), List.getElem?_eq_getElem hi]
          have := hdi i hi
          rw [getElem!_pos d i (by omega)] at this
          rw [this]
          rfl
        · rw [List.getElem?_eq_none (by simp; omega), List.getElem?_eq_none (by omega)]
      have hgr := grownBy_sortedE (enc := fun x : El W lo g => x.v) (w := W) (g := g) (n := n) (os := os) d'
      have hgb := heap_sortedE (enc := fun x : El W lo g => x.v) (w := W) (g := g) (n := n) (os := os) d' h2
      refine ⟨rfl, ⟨d'.toList.map (fun x : El W lo g => x.l), ⟨d'.toList.map (fun x : El W lo g => x.v), ?_, ?_⟩, ?_, ?_⟩, hgr⟩
      · refine ⟨by simp, .inr ⟨g, cap, _, by simp [hs'], h1, hgb, by simp [hs']; omega, h4, by simp [putCells, h5], ?_⟩⟩
        have := take_putCellsE (enc := fun x : El W lo g => x.v) cur d' (by omega)
        simp only [List.length_map, Array.length_toList, Nat.mul_one]
        exact this
      · intro i v l hv hl'
        rw [List.getElem?_map] at hv hl'
        cases hx : d'.toList[i]? with
        | none => rw [hx] at hv; cases hv
        | some x =>
          rw [hx] at hv hl'
          injection hv with hv
          injection hl' with hl'
          subst hv hl'
          refine x.own.keep fun b hb => hgr.block b (x.own.lt b hb).2 fun e => ?_
          exact x.ne (hb.trans e)
      · rw [← hdx]
        exact hp.map _
      · rw [List.pairwise_map, List.pairwise_iff_getElem]
        intro i j hi hj hij
        have hj2 : j < xs.length := by simpa [hs'] using hj
        have := hs i j (Nat.zero_le _) hij hj2
        rw [getElem!_pos d' j (by omega), getElem!_pos d' i (by omega)] at this
        unfold ltOf at this
        simp at this
        have e := cmpL_neg (d'[j]'(by omega)).l (d'[i]'(by omega)).l
        simp only [Array.getElem_toList]
        omega
end Go.Proofs.YtdebnnigbbjbcaaDoor

namespace Go.Proofs.YtdebnnigbbjbcaaDoor
open Go Go.RowKit

/-- The elements that are vertices. -/
def fromV (n : Nat) (zs : List Int) : List Nat := (zs.filter fun z => decide (0 ≤ z ∧ z < (n : Int))).map Int.toNat
theorem fromV_snoc (n : Nat) (zs : List Int) (z : Int) : fromV n (zs ++ [z]) = if 0 ≤ z ∧ z < (n : Int) then fromV n zs ++ [z.toNat] else fromV n zs := by
  unfold fromV
  rw [List.filter_append, List.map_append]
  by_cases h : 0 ≤ z ∧ z < (n : Int)
  · rw [if_pos h]
    simp [h]
  · rw [if_neg h]
    have : List.filter (fun z : Int => decide (0 ≤ z ∧ z < (n : Int))) [z] = [] := by
      rw [List.filter_cons, if_neg (by simpa using h)]
      rfl
    rw [this]
    simp
theorem fromV_lt (n : Nat) (zs : List Int) : ∀ v ∈ fromV n zs, v < n := by
  intro v hv
  obtain ⟨z, hz, rfl⟩ := List.mem_map.1 hv
  have := (List.mem_filter.1 hz).2
  simp at this
  omega
/-- The list that a search from zs leaves. -/
def reachOut (n : Nat) (nx : List (List Nat)) (zs : List Int) : List Nat := (dfsL nx (n + 1) (fromV n zs) (List.replicate n false, [])).2
def ints (l : List Nat) : List Int := l.map fun n : Nat => (n : Int)
def sortI (zs : List Int) : List Int := zs.mergeSort fun x y => decide (x ≤ y)
theorem unv_rep (n : Nat) : unv (List.replicate n false) = n := by
  unfold unv
  rw [List.filter_replicate]
  simp

set_option maxRecDepth 100000 in
set_option maxHeartbeats 2000000 in
theorem reach_any (n m c k cf : Nat) (A F : Option Addr) (E : List (Nat × Nat)) (zs : List Int) (w : World) (hn : n ≤ 1000) (hm : m ≤ 1000) (hE : Edg w w.heap.size A m E) (hd : ∀ e ∈ E, e.1 < n ∧ e.2 < n) (hF : Ints .i64 w.heap.size w F k zs) (hk : k ≤ 100000) :
    Calls Tryd.prog 19 #[.int .i64 n, .slice A m c, .slice F k cf] w fun e w' => ∃ v, e = .returned v ∧ OwnI w' w.heap.size v (sortI (ints (reachOut n (succs n E) zs))) ∧ Below w.heap.size w w' := by
  have hlz := hF.len
  obtain ⟨w0, hw0⟩ : ∃ W, w.alloc (.cells #[.slice none 0 0] 22) = W := ⟨_, rfl⟩
  have hw00 : Below w.heap.size w w0 := by rw [← hw0]; exact (Below.refl _ _).alloc (Nat.le_refl _) _
  have hsz0 : w0.heap.size = w.heap.size + 1 := by rw [← hw0]; simp
  have hbx : w0.heap[w.heap.size]? = some (.cells #[.slice none 0 0] 22 (0, 0)) := by rw [← hw0]; exact World.alloc_heap_new w _
  have HSU := Lib.hid (successors_any sort_own compact_own n m c A E w0 hn hm ((hE.below hw00).more (by omega)) hd)
  have HW0 := Lib.hid hw0
  have HBX := Lib.hid hbx
  have HS0 := Lib.hid hsz0
  have HLZ := Lib.hid hlz
  clear hE hw0 hbx hsz0 hlz
  go_enter Tryd.func19, Tryd.ntmps19
  go_wp2_with fail
  rw [HW0.out]
  refine HSU.out.mono ?_
  rintro e w1 ⟨g, cs, rfl, hR, hb1⟩
  have hs1 := hb1.size
  have hs0 := HS0.out
  have hb01 := hw00.trans (hb1.mono (by omega))
  obtain ⟨nx, hnx⟩ : ∃ nx, succs n E = nx := ⟨_, rfl⟩
  have hlen : nx.length = n := by rw [← hnx, succs_len]
  have hgd : Good nx := by rw [← hnx]; exact succs_good n E
  have hdf := depthFirst_any 35 g w.heap.size n w0.heap.size w1.heap.size cs nx w1 (by omega) (by rw [← hnx]; exact hR) (Nat.le_refl _) ((hb1.block _ (by omega)).trans HBX.out) (.inl (by omega))
  rw [hlen] at hdf
  have HDF := Lib.hid hdf
  have HNX := Lib.hid hnx
  have HLN := Lib.hid hlen
  have HG := Lib.hid hgd
  clear hdf hnx hlen hgd hR
  go_wp2_with fail
  refine HDF.out.mono ?_
  rintro e w2 ⟨bv, gv, bn, bs, bl, rfl, hEn, hDy, hb2, hgv, _, _, _, _⟩
  have hb02 := hb01.trans (hb2.mono (by omega))
  have hs2 := hb2.size
  obtain ⟨M, hM⟩ : ∃ M, w2.heap.size = M := ⟨_, rfl⟩
  rw [hM] at hEn hDy hs2
  have HEn := Lib.hid hEn
  have HDy := Lib.hid hDy
  have HM := Lib.hid hM
  have eg := enters_of Tryd.func35 (by kernel_rfl) rfl
  have HV := Lib.hid (visit_any 35 eg leave_reach M w0.heap.size w1.heap.size g bv gv bn bs bl w.heap.size n cs nx HG.out (by rw [HLN.out]; exact hn))
  clear hEn hDy hM eg
  go_wp2_with fail
  go_loopw [18] (fun i wr => ∃ j : Nat, j ≤ k ∧ i = .int .i64 j ∧ Dyn wr M gv w.heap.size (dfsL nx (n + 1) (fromV n (zs.take j)) (List.replicate n false, [])) ∧ Env wr M w0.heap.size w1.heap.size g bv gv bn bs bl 35 w.heap.size n cs nx ∧ Chg (May M gv w.heap.size) w2 wr) (fun i _ => k - (intOf i).toNat)
  case atStart => exact ⟨0, Nat.zero_le _, rfl, by rw [List.take_zero]; have := HDy.out; rw [HLN.out] at this; exact this, HEn.out, Chg.refl _ _⟩
  case round =>
    obtain ⟨j, hj, rfl, hDj, hEj, hCj⟩ := hrel
    have hst := dfsL_step nx (n + 1) (fromV n (zs.take j)) (List.replicate n false, [])
    have hst1 := hst.len
    have hst2 := hst.unv_
    have hst3 := hst.all
    obtain ⟨sj, hsj⟩ : ∃ sj, dfsL nx (n + 1) (fromV n (zs.take j)) (List.replicate n false, []) = sj := ⟨_, rfl⟩
    rw [hsj] at hDj hst1 hst2 hst3
    rw [unv_rep] at hst2 hst3
    rw [List.length_replicate] at hst1
    simp only [List.length_nil, Nat.zero_add] at hst3
    have HSJ := Lib.hid hsj
    have HDJ := Lib.hid hDj
    have HEJ := Lib.hid hEj
    have HST := Lib.hid hst1
    have hMj := hDj.size
    have hb2r : Below w.heap.size w wr := hb02.trans (hCj.below (fun b _ h => by
      rcases h with h | h | h <;> omega) (by have := HM.out; omega))
    by_cases hlt : j < k
    · obtain ⟨b, off, rfl, hbl, hcs⟩ := hF.at_ (by omega)
      have hcj := (hb2r.cell (p := ⟨b, off + j, none⟩) hbl).trans (hcs j hlt)
      obtain ⟨z, hz⟩ : ∃ z, zs[j]?.getD 0 = z := ⟨_, rfl⟩
      rw [hz] at hcj
      have hzl : zs[j]? = some z := by
        rw [List.getElem?_eq_getElem (by rw [HLZ.out]; exact hlt)] at hz ⊢
        exact congrArg some hz
      have HZ := Lib.hid hzl
      by_cases hv : 0 ≤ z ∧ z < (n : Int)
      · obtain ⟨v, rfl⟩ := Int.eq_ofNat_of_zero_le hv.1
        have hvn : v < n := by omega
        have hv0 : (0 : Int) ≤ (v : Int) := by omega
        have hv1 : (v : Int) < n := by omega
        have HX := Lib.hid (HV.out (n + 1) v wr sj (by rw [HLN.out]; exact hvn) (by rw [HLN.out, HST.out]) (by omega) (by omega) hEj hDj)
        clear hz hzl hsj hcs hDj hEj hst1 hv hst
        go_wp2_with (first
          | (go_at_call 36; refine (isVertex_yes _ _ _ (by assumption) (by assumption)).mono ?_; rintro e w' ⟨rfl, rfl⟩)
          | (go_at_call 48; refine HX.out.mono ?_; rintro e w3 ⟨rfl, hD3, hC3⟩))
        go_roundw
        case rel =>
          refine ⟨j + 1, by omega, by go_num, ?_, HEJ.out.chg hC3 hMj, hCj.trans hC3 (fun _ _ h => h)⟩
          rw [take_snoc' HZ.out, fromV_snoc, if_pos ⟨hv0, hv1⟩, dfsL_snoc, HSJ.out]
          exact hD3
        case measure => simp [intOf]; omega
      · have HNV := Lib.hid hv
        have hd0 := Lib.hid (decide_eq_false hv)
        have HIV := Lib.hid (isVertex_any n z wr)
        clear hz hzl hsj hcs hDj hEj hst1 hv hst
        go_wp2_with (go_at_call 36; refine HIV.out.mono ?_; rw [hd0.out]; rintro e w' ⟨rfl, rfl⟩)
        go_roundw
        case rel =>
          refine ⟨j + 1, by omega, by go_num, ?_, HEJ.out, hCj⟩
          rw [take_snoc' HZ.out, fromV_snoc, if_neg HNV.out, HSJ.out]
          exact HDJ.out
        case measure => simp [intOf]; omega
    · obtain rfl : k = j := by omega
      have hall : sj = dfsL nx (n + 1) (fromV n zs) (List.replicate n false, []) := by
        rw [← hsj, List.take_of_length_le (by rw [HLZ.out]; exact Nat.le_refl _)]
      have HALL := Lib.hid hall
      obtain ⟨sv, hx1, hx2⟩ := hDj.out
      have hcx := cell_of_row wr w.heap.size 0 _ _ (0, 0) hx1
      simp at hcx
      have HSO := Lib.hid (sort_own M sv _ wr (own_iff.1 hx2) (by rw [List.length_map]; omega))
      have hne : sv.ownBlock ≠ some w.heap.size := fun e => by have := (hx2.lt _ e).1; omega
      have hlts := Lib.hid hx2.lt
      clear hsj hall hDj hEj hst1 hst hx1 hx2
      go_wp2_with fail
      refine HSO.out.mono ?_
      rintro e w3 ⟨rfl, ho3, hg3⟩
      have hcx3 := hg3.cell hcx (Ne.symm hne)
      go_wp2_with fail
      go_ret
      refine ⟨sv, rfl, ?_, hb2r.grown hg3 (by have := hb2r.size; exact this) (fun b e => by have := (hlts.out b e).1; omega)⟩
      unfold reachOut
      rw [HNX.out, ← HALL.out]
      exact own_of_base ho3 (fun b hb => by have := (hlts.out b hb).1; omega)
end Go.Proofs.YtdebnnigbbjbcaaDoor
