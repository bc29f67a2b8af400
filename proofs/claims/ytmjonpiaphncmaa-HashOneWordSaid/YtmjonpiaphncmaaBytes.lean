/-
  hash.Bytes and hash.Pair return the hashes of a byte slice and of two hashes, and write nothing that was there. Conditions: the slice holds bytes; the lengths are such of which we speak.
-/
import Derived.Test.YtmjonpiaphncmaaSum
import Derived.Maps.AppendAt
namespace Go.Proofs.Ytmjonpiaphncmaa
open Go.RowKit Go.Shelf
attribute [local go_sem] Oper.semAt_some

theorem info_int : (Try.prog.info? 3).map (fun i => (i.zero, i.size, i.bytes)) = some (some (.int .i64 0), 1, 8) := by kernel_rfl
theorem Keeps.grown {X : Nat → Prop} {A W W' : World} {row : Option Nat} (h : Keeps X A W) (hg : W.grownBy W' row) (hX : ∀ k, X k → k < W.heap.size ∧ some k ≠ row) : Keeps X A W' :=
  h.trans ⟨hg.size, fun k hk => hg.block k (hX k hk).1 (hX k hk).2⟩

/-- The words so far, as integers in cells. -/
def cellsI (l : List Int) : List Value := l.map fun x => Value.int .i64 (wrap64 x)
theorem cellsI_snoc (l : List Int) (x : Int) : cellsI (l ++ [x]) = cellsI l ++ [Value.int .i64 (wrap64 x)] := by unfold cellsI; rw [List.map_append]; rfl
theorem wrap64_i64 (x : Int) : wrap64 x = i64 x := by rw [i64_eq]; simp only [wrap64]
theorem cellsI_i64 (l : List Int) : cellsI l = (l.map i64).map (Value.int .i64) := by
  unfold cellsI
  rw [List.map_map]
  exact List.map_congr_left fun x _ => by rw [wrap64_i64]; rfl
theorem cellsI_length (l : List Int) : (cellsI l).length = l.length := by unfold cellsI; rw [List.length_map]

/-- A row that the call owns lies beyond what was there. -/
theorem own_ne_low {w : World} {base : Nat} {e : TypeId} {size : Nat} {v : Value} {n : Nat} {xs : List Value} (h : w.ownsRow base e size v n xs) {k : Nat} (hk : k < base) : some k ≠ v.ownBlock := by
  rcases h.2 with ⟨rfl, _⟩ | ⟨g, cap, cur, rfl, hg, _⟩
  · simp [Value.ownBlock]
  · intro e'
    have : k = g := by simpa [Value.ownBlock] using e'
    omega
theorem own_bytes {w : World} {base : Nat} {e : TypeId} {size : Nat} {v : Value} {n : Nat} (zs : List Int) (m : Nat) (hm : zs.length = m) (h : w.ownsRow base e size v n (cellsI (wordsI zs) ++ [Value.int .i64 m])) :
    w.ownsRow base e size v n ((bytesL zs).map (Value.int .i64)) := by
  unfold bytesL
  rw [List.map_append, ← cellsI_i64, hm]
  exact h

set_option maxRecDepth 100000 in
set_option maxHeartbeats 2000000 in
theorem bytes_in (n : Nat) (hn : 6 ≤ n) (s : ByteArray) (A : Option Addr) (m c : Nat) (zs : List Int) (w : World) (hI : Ints .u8 w.heap.size w A m zs) (hmc : m ≤ c) (hbz : ∀ x ∈ zs, B8 x) (hs : Len s.size) (hm : Len m) :
    CallsIn Fence.wide n Try.prog 17 #[.string s, .slice A m c] w fun e w' => e = .returned (.int .u64 (bytesI (sb s) zs)) ∧ Below w.heap.size w w' := by
  have h1 : 1 ≤ n := by omega
  have hml := hm
  unfold Len at hm
  obtain ⟨i0, hi, hz0, hz1, hz2⟩ := info_parts info_int
  refine callsIn_of_wp_marks Try.func17 rfl trivial ?_ rfl
  simp only [Try.ntmps17, List.size_toArray, List.length_cons, List.length_nil, Nat.reduceAdd, Nat.reduceSub, Array.replicate_succ, Array.replicate_zero, List.push_toArray, List.append_toArray, List.nil_append, List.cons_append]
  gi_wp2_with (first
    | (gi_at_make
       refine wpListIn_make_own _ rfl _ _ 22 rfl w.heap.size 3 i0 _ 1 Try.underlying22 hi hz0 hz1 .i64 .i64 _ (m / 8 + 2) rfl rfl (by simp) (by rw [hz2]; omega) (by simp only [maxLen]; omega) (Nat.le_refl _) ?_
       intro w1 hown hgrow)
    | (refine ⟨trivial, ?_⟩; gi_at_call 25; refine (callsIn_wide.2 (wordsOf_any _ _ _ _)).mono ?_; rintro e w' ⟨rfl, rfl⟩))
  have hw1 : Below w.heap.size w w1 := (Below.refl _ w).grown hgrow (Nat.le_refl _) (fun k e => by cases e)
  have bW : Boxed ((w1.alloc (Obj.cells #[Value.slice (some ⟨w.heap.size, 0, none⟩) 0 (m / 8 + 2)] 22)).alloc (Obj.cells #[Value.slice A m c] 30)) w1.heap.size 22 (Value.slice (some ⟨w.heap.size, 0, none⟩) 0 (m / 8 + 2)) := (Boxed.new w1 22 _).alloc _
  have bN := Boxed.new (w1.alloc (Obj.cells #[Value.slice (some ⟨w.heap.size, 0, none⟩) 0 (m / 8 + 2)] 22)) 30 (Value.slice A m c)
  rw [World.size_alloc] at bN
  have hown0 := (hown.alloc (Obj.cells #[Value.slice (some ⟨w.heap.size, 0, none⟩) 0 (m / 8 + 2)] 22)).alloc (Obj.cells #[Value.slice A m c] 30)
  have hB0 : Below w.heap.size w ((w1.alloc (Obj.cells #[Value.slice (some ⟨w.heap.size, 0, none⟩) 0 (m / 8 + 2)] 22)).alloc (Obj.cells #[Value.slice A m c] 30)) :=
    (hw1.alloc hw1.size _).alloc (by have := hw1.size; simp; omega) _
  have hsz1 := hw1.size
  obtain ⟨B, hB⟩ : ∃ B, w1.heap.size = B := ⟨_, rfl⟩
  obtain ⟨W0, hW0⟩ : ∃ W0, ((w1.alloc (Obj.cells #[Value.slice (some ⟨w.heap.size, 0, none⟩) 0 (m / 8 + 2)] 22)).alloc (Obj.cells #[Value.slice A m c] 30)) = W0 := ⟨_, rfl⟩
  have hsz : W0.heap.size = B + 2 := by rw [← hW0]; simp; omega
  rw [hW0] at bW bN hown0 hB0 ⊢
  rw [hB] at bW bN hsz1 ⊢
  have hnB : w.heap.size < B := by
    obtain ⟨g, cap, hv, _, hlt⟩ : ∃ g cap, Value.slice (some ⟨w.heap.size, 0, none⟩) 0 (m / 8 + 2) = .slice (some ⟨g, 0, none⟩) 0 cap ∧ w.heap.size ≤ g ∧ g < w1.heap.size := by
      rcases hown.2 with ⟨e, _⟩ | ⟨g, cap, cur, e, hg, hh, _⟩
      · cases e
      · exact ⟨g, cap, e, hg, (Array.getElem?_eq_some_iff.1 hh).1⟩
    omega
  clear hW0 hB hown hgrow hw1
  have hIw := hI.below hB0
  refine wpIn_rangeFunc_ownG rfl h1 (gf := 28) (lb := #[.pointer (some ⟨B + 1, 0, none⟩)]) rfl trivial (enters_of Try.func28 (by kernel_rfl) rfl)
    (words_stops (n - 1) (by omega) (B + 1) (fun k => k < w.heap.size ∨ k = B + 1) A m c zs (.inr rfl) hmc hml hI.len hbz W0 (by omega) bN.cell
      (fun h => by
        obtain ⟨b, off, e, hb, hj⟩ := hIw.at_ h
        exact ⟨b, off, e, .inl hb, by omega, hj⟩))
    (fun h k => Keeps.trans h k) (fun W l o o' hl h _ _ => Keeps.putObj (m := W0.heap.size) (by rintro k (h | rfl) <;> omega) W l o o' hl h) (Below.refl _ _) (fun _ => rfl)
    (fun pre W => ((∃ v, Boxed W B 22 v ∧ W.ownsRow w.heap.size 3 1 v pre.length (cellsI pre) ∧ True) ∧ Boxed W (B + 1) 30 (Value.slice A m c)) ∧ Below w.heap.size w W)
    (fun _ _ _ => False)
    (OwnFrom.and (OwnFrom.and (Own.from (holdsRow_own w.heap.size B 22 3 1 (fun pre : List Int => pre.length) (fun pre => cellsI pre) (fun _ _ => True)) _) (Own.from (boxed_own _ _ _) _)) (ownFrom_below (Nat.le_refl _) (by omega)))
    (fun _ _ _ _ _ hs _ _ => hs)
    ⟨⟨⟨_, bW, hown0, trivial⟩, bN⟩, hB0⟩
    (fun x => { tmps := #[.string s, .slice A m c, undef, undef, .int .u64 0, .pointer (some ⟨B, 0, none⟩), .int .u64 x, .slice A m c, .int .i64 m, .int .i64 (m / 8), .int .i64 (m / 8 + 2), .slice (some ⟨w.heap.size, 0, none⟩) 0 (m / 8 + 2), .slice A m c, .func (.func 28) #[] #[.pointer (some ⟨B + 1, 0, none⟩)], .int .u64 x, undef, undef, undef, undef, undef, undef, undef, undef, undef, undef, undef, undef, undef], defers := [] }) ?assign ?body ?done ?stop
  case assign =>
    intro l x W K hK
    gi_wp2
    exact hK
  case body =>
    rintro l pre x W ⟨⟨⟨v, hv, hrow, _⟩, hN⟩, hBW⟩ hlen
    have hpl : pre.length < 1099511627776 := by unfold nwords at hlen; omega
    have hB0z := hBW.size
    have hBlt := hv.lt
    have hvc := hv.cell
    clear bW bN hown0 hB0 hIw hI hlen
    gi_wp2_with (gi_at_builtin
                 refine wpListIn_append_own _ rfl _ _ 22 rfl w.heap.size 3 i0 _ 1 8 Try.underlying22 hi hz0 hz1 hz2 rfl (by decide) _ _ _ rfl (hrow.alloc _) ⟨W.heap.size, 0, none⟩ 1 1 [.int .i64 (wrap64 x)] rfl rfl (cell_one_new _ _ _) (by simp [Value.oneCell']) (by simp only [maxLen]; omega) (by omega) (by simp; omega) ?_
                 intro v' w1 hown' hgrow _
                 obtain ⟨g', cap', rfl⟩ := ownsRow_succ hown'
                 obtain ⟨hv1, hv2, hr2, hk2, hb2⟩ := hv.appended (by decide) hrow hB0z hsz1 hown' hgrow
                 have hc1 := hv1.cell
                 have hf1 := hv1.frozen
                 have hg0 : (W.alloc (Obj.cells #[Value.int IntKind.i64 (wrap64 x)] 3)).grownBy w1 v.ownBlock := hgrow)
    have hNl := hN.lt
    have hne : some (B + 1) ≠ v.ownBlock := hN.not_row (by decide) hrow
    refine ⟨hk2.from _, ?_, ⟨⟨⟨_, hv2, by rw [List.length_append, cellsI_snoc]; exact hr2, trivial⟩, (((hN.alloc _).kept hg0 hne).other (by omega) _)⟩, hBW.trans hb2⟩⟩
    refine (((Keeps.refl _ W).grown (World.grownBy_alloc W _ none) (fun k hk => ⟨by rcases hk with hk | rfl <;> omega, by simp⟩)).grown hg0 (fun k hk => ⟨by rcases hk with hk | rfl <;> simp <;> omega, ?_⟩)).setCell (by omega) _
    rcases hk with hk | rfl
    · exact own_ne_low hrow hk
    · exact hne
  case done =>
    rintro D ys W hD rfl ⟨⟨⟨v, hv, hrow, _⟩, hN⟩, hBW⟩ hK
    have hwl : (wordsI zs).length ≤ 1099511627775 := by unfold wordsI; rw [wordsTo_length, hI.len]; unfold nwords; omega
    have hB0z := hBW.size
    have hvc := hv.cell
    have HL := Lib.hid hI.len
    have HK := Lib.hid hK
    have hDw : w.heap.size ≤ D := by omega
    clear bW bN hown0 hB0 hIw hI hK
    gi_wp2_with (first
      | (gi_at_builtin
         refine wpListIn_append_own _ rfl _ _ 22 rfl w.heap.size 3 i0 _ 1 8 Try.underlying22 hi hz0 hz1 hz2 rfl (by decide) _ _ _ rfl (hrow.alloc _) ⟨W.heap.size, 0, none⟩ 1 1 [.int .i64 m] rfl rfl (cell_one_new _ _ _) (by simp [Value.oneCell']) (by simp only [maxLen]; omega) (by omega) (by simp; omega) ?_
         intro v' w1 hown' hgrow _
         obtain ⟨g', cap', rfl⟩ := ownsRow_succ hown'
         obtain ⟨hv1, hv2, hr2, hk2, hb2⟩ := hv.appended (by decide) hrow hB0z hsz1 hown' hgrow
         have hc1 := hv1.cell
         have hf1 := hv1.frozen
         have hc2 := hv2.cell
         have hrX := own_bytes zs m HL.out hr2)
      | (refine ⟨trivial, ?_⟩
         gi_at_call 13
         refine (callsIn_wide.2 (sum_any s _ _ _ (bytesL zs) _ (Ints.of_own rfl hrX) hs (by unfold Len; omega))).mono ?_
         rintro e w' ⟨rfl, hbS⟩))
    have hK2 := hk2.same D _ HK.out rfl
    have hK3 := (hbS.block D (Array.getElem?_eq_some_iff.1 hK2).1).trans hK2
    refine ⟨by simp, .inl ⟨_, _, rfl, run_takeDeferred hK3, ?_⟩⟩
    refine ⟨_, results_tmp rfl _ _ _, rfl, ((hBW.trans hb2).trans (hbS.mono (hBW.trans hb2).size)).trans (belowK_b (w := w) (Nat.le_refl _) _ D _ _ hDw hK3 rfl rfl)⟩
  case stop =>
    rintro D c pre W _ _ h _
    exact h.elim

/-- **hash.Bytes.** -/
theorem bytes_any (s : ByteArray) (A : Option Addr) (m c : Nat) (zs : List Int) (w : World) (hI : Ints .u8 w.heap.size w A m zs) (hmc : m ≤ c) (hbz : ∀ x ∈ zs, B8 x) (hs : Len s.size) (hm : Len m) :
    Calls Try.prog 17 #[.string s, .slice A m c] w fun e w' => e = .returned (.int .u64 (bytesI (sb s) zs)) ∧ Below w.heap.size w w' :=
  (callsIn_wide (n := 6)).1 (bytes_in 6 (by omega) s A m c zs w hI hmc hbz hs hm)
end Go.Proofs.Ytmjonpiaphncmaa
