/-
  The contract of the reference model's Pairs. Condition: at most 9 elements.
  The contract of the reference model's New: the matrix of the closure, or the error. Conditions: at most 9 elements; the pairs' ends are elements.
-/
import Derived.Test.YtlgdcbhdmffnoaaDoorK12
import Derived.Test.YtlgdcbhdmffnoaaDoorK2
import Derived.Deep.RegionLaw
import Derived.Deep.AppendLies

namespace Go.Proofs.YtlgdcbhdmffnoaaDoor
open Go Go.RowKit Go.Proofs

def prStep (n : Nat) (z : Int) : List (Nat × Nat) :=
  let q := (around z 1000000).toNat
  let a := q % n
  let b := q / n % n
  if q / (n * n) % 9 > 0 then (if a = b then [] else if b * 3 % 7 < a * 3 % 7 then [(b, a)] else [(a, b)]) else [(a, b)]
def prsL (n : Nat) (zs : List Int) : List (Nat × Nat) := (zs.take 12).flatMap (prStep n)
set_option maxRecDepth 100000 in
set_option maxHeartbeats 8000000 in
theorem pairs_any (n : Nat) (hn : n ≤ 9) (A : Option Addr) (m c : Nat) (zs : List Int) (w : World) (hI : Ints .i64 w.heap.size w A m zs) (hz : ∀ z ∈ zs, I64 z) :
    Calls Tryd.prog 14 #[.int .i64 (n : Int), .slice A m c] w fun e w' => ∃ v, e = .returned v ∧ OwnP w' w.heap.size v (if n = 0 then [] else prsL n zs) ∧ Below w.heap.size w w' := by
  have hzv := zero_pr_run
  obtain ⟨i0, hi0, hz0, hz1, hz2⟩ := info_parts info_pr
  rcases Nat.eq_zero_or_pos n with h0 | h0
  · subst h0
    go_enter Tryd.func14, Tryd.ntmps14
    go_wp2_with fail
    go_ret
    exact ⟨_, rfl, ⟨rfl, .inl ⟨rfl, rfl⟩⟩, Below.refl _ _⟩
  · have hif : (if n = 0 then ([] : List (Nat × Nat)) else prsL n zs) = prsL n zs := if_neg (by omega)
    rw [hif]
    have hml := hI.len
    have HI := Lib.hid hI
    have HZ := Lib.hid hz
    clear hI hz hif
    go_enter Tryd.func14, Tryd.ntmps14
    go_wp2_with fail
    go_loopw [5, 6] (fun s i V => ∃ (j : Nat) (ov : Value), j ≤ m ∧ j ≤ 12 ∧ i = .int .i64 (j : Int) ∧ s = ov ∧ Hid (OwnP V w.heap.size ov ((zs.take j).flatMap (prStep n))) ∧ Hid (((zs.take j).flatMap (prStep n)).length ≤ j) ∧ Hid (Below w.heap.size w V)) (fun _ i _ => 12 - (intOf i).toNat)
    case atStart => exact ⟨0, _, Nat.zero_le _, by omega, rfl, rfl, ⟨rfl, .inl ⟨rfl, rfl⟩⟩, (show ([] : List (Nat × Nat)).length ≤ 0 from Nat.le_refl _), Below.refl _ _⟩
    case round =>
      obtain ⟨j, ov, hjm, hj12, rfl, rfl, ho, hol, hB⟩ := hrel
      obtain ⟨ov, hov⟩ : ∃ O, O = u5 := ⟨_, rfl⟩
      subst hov
      by_cases hlt : j < m ∧ j < 12
      · obtain ⟨hltm, hlt12⟩ := hlt
        obtain ⟨b, off, rfl, hbl, hcs⟩ := HI.out.at_ (by omega)
        have hcz : wr.cell? ⟨b, off + j, none⟩ = some (.int .i64 (zs[j]?.getD 0)) := (hB.out.cell (p := ⟨b, off + j, none⟩) hbl).trans (hcs j hltm)
        have hzm := HZ.out _ (getD_mem (l := zs) (j := j) (by omega))
        have htk := ints_take (zs := zs) (j := j) (by omega)
        obtain ⟨z, hze⟩ : ∃ z, zs[j]?.getD 0 = z := ⟨_, rfl⟩
        rw [hze] at hcz hzm htk
        have hAR := around_any z 1000000 hzm (by omega) (by omega) wr
        obtain ⟨h1, h2⟩ := around_in z 1000000 (by omega)
        obtain ⟨q, hq⟩ := Int.eq_ofNat_of_zero_le h1
        have hst : prStep n z = (let a := q % n; let b := q / n % n; if q / (n * n) % 9 > 0 then (if a = b then [] else if b * 3 % 7 < a * 3 % 7 then [(b, a)] else [(a, b)]) else [(a, b)]) := by unfold prStep; rw [hq]; rfl
        rw [hq] at hAR h2
        have HAR := Lib.hid hAR
        have HST := Lib.hid hst
        have HTK := Lib.hid htk
        have hnz : ((n : Int) == 0) = false := by simp; omega
        have hq2 : q < 1000000 := by omega
        clear hcs hzm htk hze hAR h1 h2 hq hst
        obtain ⟨oA, oc, hov⟩ := ownP_form ho.out
        subst hov
        have hwz := hB.out.size
        obtain ⟨E, hE⟩ : ∃ E, (zs.take j).flatMap (prStep n) = E := ⟨_, rfl⟩
        have hEl := hol.out
        rw [hE] at ho hEl ⊢
        have HOA := Lib.hid (show ∀ x y : Nat, (wr.alloc (.cells #[.int .i64 (x : Int), .int .i64 (y : Int)] 23)).ownsRow w.heap.size 23 2 (.slice oA E.length oc) E.length (pc E) from fun x y => World.ownsRow.alloc ho.out _)
        have HOW := Lib.hid ho.out
        have hda : q / n < 1000000 := Nat.lt_of_le_of_lt (Nat.div_le_self _ _) hq2
        have han : q % n < n := Nat.mod_lt _ h0
        have hbn : q / n % n < n := Nat.mod_lt _ h0
        have hnn : n * n ≤ 81 := Nat.le_trans (Nat.mul_le_mul hn hn) (by omega)
        have hnp : 0 < n * n := Nat.mul_pos h0 h0
        have hta : q / (n * n) < 1000000 := Nat.lt_of_le_of_lt (Nat.div_le_self _ _) hq2
        have e1 : (q : Int) % (n : Int) = ((q % n : Nat) : Int) := by simp
        have e2 : (q : Int) / (n : Int) = ((q / n : Nat) : Int) := by simp
        have e3 : ((q / n : Nat) : Int) % (n : Int) = ((q / n % n : Nat) : Int) := by simp
        have e4 : (n : Int) * (n : Int) = ((n * n : Nat) : Int) := by simp
        have e5 : (q : Int) / ((n * n : Nat) : Int) = ((q / (n * n) : Nat) : Int) := by simp
        have e6 : ((n * n : Nat) : Int) = 0 ↔ False := by constructor; intro h; omega; exact False.elim
        obtain ⟨a, ha⟩ : ∃ a, q % n = a := ⟨_, rfl⟩
        obtain ⟨b', hb'⟩ : ∃ b', q / n % n = b' := ⟨_, rfl⟩
        obtain ⟨d, hd⟩ : ∃ d, q / n = d := ⟨_, rfl⟩
        obtain ⟨nn, hnn'⟩ : ∃ nn, n * n = nn := ⟨_, rfl⟩
        obtain ⟨t, ht⟩ : ∃ t, q / (n * n) = t := ⟨_, rfl⟩
        simp only [ha, hd, hnn'] at HST e1 e2 e3 e4 e5 e6 han hbn hda hnn hnp hta
        rw [hd] at hb'
        rw [hnn'] at ht
        simp only [hb'] at HST e3 hbn
        rw [ht] at e5 hta
        try simp only [ht] at HST
        have hnnz : ((nn : Int) == 0) = false := by simp; omega
        clear ha hb' hd hnn' ht e6 ho hol
        by_cases hr : t % 9 = 0
        · have hr1 : ¬ (0 : Int) < (t : Int) % 9 := by omega
          have HTK2 := Lib.hid (show (zs.take (j + 1)).flatMap (prStep n) = E ++ [(a, b')] by rw [HTK.out, List.flatMap_append, hE, List.flatMap_singleton, HST.out]; simp [hr])
          have HL2 := Lib.hid (show ((zs.take (j + 1)).flatMap (prStep n)).length ≤ j + 1 by rw [HTK2.out]; first | omega | (rw [List.length_append, List.length_singleton]; omega))
          clear HST
          go_wp2_with (first
            | (go_at_call 13; refine HAR.out.mono ?_; rintro e w' ⟨rfl, rfl⟩)
            | (at_builtin
               refine wpList_append_lies _ rfl (.tmp 57) (.tmp 61) 25 rfl w.heap.size 23 i0 _ 2 16 Tryd.underlying25 hi0 hz0 hz1 hz2 rfl (by decide) (.slice oA E.length oc) E.length _ rfl (HOA.out a b') ⟨wr.heap.size, 0, none⟩ 1 1 [nv a, nv b'] rfl rfl (fun j u hu => World.news_of_block (World.alloc_heap_new wr (.cells #[.int .i64 (a : Int), .int .i64 (b' : Int)] 23)) j u hu) (by simp [nv, Value.oneCell']) (by decide) (by simp only [maxLen]; omega) (by omega) (by simp; omega) _ rfl ?_
               intro g7 c7 w7 hown7 hgrow7 hat7 hlt7
               have hb7 := (hB.out.alloc hwz (.cells #[.int .i64 (a : Int), .int .i64 (b' : Int)] 23)).grown hgrow7 (by simp; omega) (fun b e => (World.ownsRow.lt (HOA.out 0 0) b e).1)
               have ho7 : OwnP w7 w.heap.size (.slice (some ⟨g7, 0, none⟩) (E.length + 1) c7) (E ++ [(a, b')]) := by
                 unfold OwnP
                 rw [List.length_append, List.length_singleton, pc_snoc]
                 exact hown7
               have HO7 := Lib.hid ho7
               have HB7 := Lib.hid hb7
               clear hown7 hgrow7 hat7 hb7 ho7))
          go_roundw
          case rel => exact ⟨j + 1, _, by omega, by omega, by go_num, rfl, by rw [HTK2.out]; exact HO7.out, HL2.out, HB7.out⟩
          case measure => simp [intOf]; omega
        · have hr1 : (0 : Int) < (t : Int) % 9 := by omega
          have hr2 : t % 9 > 0 := by omega
          by_cases hab : a = b'
          · have habI : ((a : Int) == (b' : Int)) = true := by simp [hab]
            have HTK2 := Lib.hid (show (zs.take (j + 1)).flatMap (prStep n) = E by rw [HTK.out, List.flatMap_append, hE, List.flatMap_singleton, HST.out]; simp [hr2, hab])
            have HL2 := Lib.hid (show ((zs.take (j + 1)).flatMap (prStep n)).length ≤ j + 1 by rw [HTK2.out]; first | omega | (rw [List.length_append, List.length_singleton]; omega))
            clear HST hab hE
            go_wp2_with (go_at_call 13; refine HAR.out.mono ?_; rintro e w' ⟨rfl, rfl⟩)
            go_roundw
            case rel => exact ⟨j + 1, _, by omega, by omega, by go_num, rfl, by rw [HTK2.out]; exact HOW.out, HL2.out, hB.out⟩
            case measure => simp [intOf]; omega
          · have habI : ((a : Int) == (b' : Int)) = false := by simp; omega
            by_cases hlt3 : b' * 3 % 7 < a * 3 % 7
            · have hltI : (b' : Int) * 3 % 7 < (a : Int) * 3 % 7 := by exact_mod_cast hlt3
              have HTK2 := Lib.hid (show (zs.take (j + 1)).flatMap (prStep n) = E ++ [(b', a)] by rw [HTK.out, List.flatMap_append, hE, List.flatMap_singleton, HST.out]; simp [hr2, hab, hlt3])
              have HL2 := Lib.hid (show ((zs.take (j + 1)).flatMap (prStep n)).length ≤ j + 1 by rw [HTK2.out]; first | omega | (rw [List.length_append, List.length_singleton]; omega))
              clear HST hab hE
              go_wp2_with (first
                | (go_at_call 13; refine HAR.out.mono ?_; rintro e w' ⟨rfl, rfl⟩)
                | (at_builtin
                   refine wpList_append_lies _ rfl (.tmp 57) (.tmp 61) 25 rfl w.heap.size 23 i0 _ 2 16 Tryd.underlying25 hi0 hz0 hz1 hz2 rfl (by decide) (.slice oA E.length oc) E.length _ rfl (HOA.out b' a) ⟨wr.heap.size, 0, none⟩ 1 1 [nv b', nv a] rfl rfl (fun j u hu => World.news_of_block (World.alloc_heap_new wr (.cells #[.int .i64 (b' : Int), .int .i64 (a : Int)] 23)) j u hu) (by simp [nv, Value.oneCell']) (by decide) (by simp only [maxLen]; omega) (by omega) (by simp; omega) _ rfl ?_
                   intro g7 c7 w7 hown7 hgrow7 hat7 hlt7
                   have hb7 := (hB.out.alloc hwz (.cells #[.int .i64 (b' : Int), .int .i64 (a : Int)] 23)).grown hgrow7 (by simp; omega) (fun b e => (World.ownsRow.lt (HOA.out 0 0) b e).1)
                   have ho7 : OwnP w7 w.heap.size (.slice (some ⟨g7, 0, none⟩) (E.length + 1) c7) (E ++ [(b', a)]) := by
                     unfold OwnP
                     rw [List.length_append, List.length_singleton, pc_snoc]
                     exact hown7
                   have HO7 := Lib.hid ho7
                   have HB7 := Lib.hid hb7
                   clear hown7 hgrow7 hat7 hb7 ho7))
              go_roundw
              case rel => exact ⟨j + 1, _, by omega, by omega, by go_num, rfl, by rw [HTK2.out]; exact HO7.out, HL2.out, HB7.out⟩
              case measure => simp [intOf]; omega
            · have hltI : ¬ (b' : Int) * 3 % 7 < (a : Int) * 3 % 7 := by exact_mod_cast hlt3
              have HTK2 := Lib.hid (show (zs.take (j + 1)).flatMap (prStep n) = E ++ [(a, b')] by rw [HTK.out, List.flatMap_append, hE, List.flatMap_singleton, HST.out]; simp [hr2, hab, hlt3])
              have HL2 := Lib.hid (show ((zs.take (j + 1)).flatMap (prStep n)).length ≤ j + 1 by rw [HTK2.out]; first | omega | (rw [List.length_append, List.length_singleton]; omega))
              clear HST hab hE
              go_wp2_with (first
                | (go_at_call 13; refine HAR.out.mono ?_; rintro e w' ⟨rfl, rfl⟩)
                | (at_builtin
                   refine wpList_append_lies _ rfl (.tmp 57) (.tmp 61) 25 rfl w.heap.size 23 i0 _ 2 16 Tryd.underlying25 hi0 hz0 hz1 hz2 rfl (by decide) (.slice oA E.length oc) E.length _ rfl (HOA.out a b') ⟨wr.heap.size, 0, none⟩ 1 1 [nv a, nv b'] rfl rfl (fun j u hu => World.news_of_block (World.alloc_heap_new wr (.cells #[.int .i64 (a : Int), .int .i64 (b' : Int)] 23)) j u hu) (by simp [nv, Value.oneCell']) (by decide) (by simp only [maxLen]; omega) (by omega) (by simp; omega) _ rfl ?_
                   intro g7 c7 w7 hown7 hgrow7 hat7 hlt7
                   have hb7 := (hB.out.alloc hwz (.cells #[.int .i64 (a : Int), .int .i64 (b' : Int)] 23)).grown hgrow7 (by simp; omega) (fun b e => (World.ownsRow.lt (HOA.out 0 0) b e).1)
                   have ho7 : OwnP w7 w.heap.size (.slice (some ⟨g7, 0, none⟩) (E.length + 1) c7) (E ++ [(a, b')]) := by
                     unfold OwnP
                     rw [List.length_append, List.length_singleton, pc_snoc]
                     exact hown7
                   have HO7 := Lib.hid ho7
                   have HB7 := Lib.hid hb7
                   clear hown7 hgrow7 hat7 hb7 ho7))
              go_roundw
              case rel => exact ⟨j + 1, _, by omega, by omega, by go_num, rfl, by rw [HTK2.out]; exact HO7.out, HL2.out, HB7.out⟩
              case measure => simp [intOf]; omega
      · have hfin : j = m ∨ j = 12 := by omega
        have HOW := Lib.hid (show OwnP wr w.heap.size ov (prsL n zs) by
          have h := ho.out
          unfold prsL
          rcases hfin with e | e
          · have e2 : zs.take 12 = zs.take j := by rw [List.take_of_length_le (by omega), List.take_of_length_le (by omega)]
            rw [e2]
            exact h
          · rw [e] at h
            exact h)
        obtain ⟨oA, oc, hov⟩ := ownP_form HOW.out
        subst hov
        clear ho hol
        rcases Nat.lt_or_ge j m with h1 | h1
        · have h2 : ¬ (j : Int) < 12 := by omega
          go_wp2_with fail
          go_ret
          exact ⟨_, rfl, HOW.out, hB.out⟩
        · have h2 : ¬ (j : Int) < (m : Int) := by omega
          go_wp2_with fail
          go_ret
          exact ⟨_, rfl, HOW.out, hB.out⟩
end Go.Proofs.YtlgdcbhdmffnoaaDoor

namespace Go.Proofs.YtlgdcbhdmffnoaaDoor
open Go Go.RowKit Go.Proofs

def bl (n : Nat) (f : Nat → Bool) : Array Value := ((List.range n).map fun y => Value.bool (f y)).toArray
theorem bl_at {n y : Nat} (f : Nat → Bool) (h : y < n) : (bl n f)[y]? = some (.bool (f y)) := by simp [bl, h]
/-- v holds the rows of a matrix. -/
structure Mx (W : World) (lo : Nat) (v : Value) (k n : Nat) (gs : List Nat) (M : Nat → Nat → Bool) : Prop where
  own : W.ownsRow lo 76 1 v k (gs.map fun g => Value.slice (some ⟨g, 0, none⟩) n n)
  row : ∀ i g : Nat, gs[i]? = some g → W.heap[g]? = some (.cells (bl n (M i)) 4 (0, 0))
  low : ∀ g ∈ gs, lo ≤ g
  nodup : gs.Nodup
section
variable {W W' : World} {lo k n : Nat} {v : Value} {gs : List Nat} {M M' : Nat → Nat → Bool}
theorem Mx.len (h : Mx W lo v k n gs M) : gs.length = k := by have := h.own.1; simpa using this
theorem Mx.below (h : Mx W lo v k n gs M) (hb : Below W.heap.size W W') : Mx W' lo v k n gs M :=
  ⟨own_of_block h.own fun b hvb => hb.block b (World.ownsRow.lt h.own b hvb).2, fun i g hg => (hb.block g (heap_lt (h.row i g hg))).trans (h.row i g hg), h.low, h.nodup⟩
theorem Mx.form (h : Mx W lo v k n gs M) (hk : 0 < k) : ∃ gm c, v = .slice (some ⟨gm, 0, none⟩) k c ∧ lo ≤ gm ∧ gm < W.heap.size := by
  rcases h.own.2 with ⟨_, e⟩ | ⟨g, cap, cur, e, h1, h2, _⟩
  · omega
  · exact ⟨g, cap, e, h1, heap_lt h2⟩
theorem Mx.cell {gm c : Nat} (h : Mx W lo (.slice (some ⟨gm, 0, none⟩) k c) k n gs M) {i : Nat} (hi : i < k) : ∃ g, gs[i]? = some g ∧ W.cell? ⟨gm, i, none⟩ = some (.slice (some ⟨g, 0, none⟩) n n) := by
  have hl := h.len
  refine ⟨gs[i]'(by omega), List.getElem?_eq_getElem (by omega), ?_⟩
  have hc := h.own.cells (g := gm) rfl i (.slice (some ⟨gs[i]'(by omega), 0, none⟩) n n) (by rw [List.getElem?_map, List.getElem?_eq_getElem (by omega)]; rfl)
  rw [Addr.add_lit, Nat.zero_add] at hc
  exact hc
theorem Mx.bit (h : Mx W lo v k n gs M) {i g y : Nat} (hg : gs[i]? = some g) (hy : y < n) : W.cell? ⟨g, y, none⟩ = some (.bool (M i y)) := by
  rw [cell_of_row W g y _ _ (0, 0) (h.row i g hg)]
  exact bl_at _ hy
theorem Mx.free (h : Mx W lo v k n gs M) {i g : Nat} (hg : gs[i]? = some g) (y : Nat) : W.frozen? ⟨g, y, none⟩ = false := by simp [World.frozen?, h.row i g hg]
theorem Mx.congr (h : Mx W lo v k n gs M) (hM : ∀ x y, x < k → y < n → M x y = M' x y) : Mx W lo v k n gs M' := by
  refine ⟨h.own, fun i g hg => ?_, h.low, h.nodup⟩
  rw [h.row i g hg]
  have hi : i < k := by have := (List.getElem?_eq_some_iff.1 hg).1; rw [h.len] at this; exact this
  congr 2
  unfold bl
  congr 1
  exact List.map_congr_left fun y hy => by rw [hM i y hi (List.mem_range.1 hy)]
theorem Mx.set (h : Mx W lo v k n gs M) {x y g : Nat} (hg : gs[x]? = some g) (b : Bool) : Mx (W.setCell ⟨g, y, none⟩ (.bool b)) lo v k n gs (fun i j => if i = x ∧ j = y then b else M i j) := by
  have hr := h.row x g hg
  refine ⟨own_of_block h.own fun b hvb => Below.heap_setCell W ⟨g, y, none⟩ _ b ?_, fun i g' hg' => ?_, h.low, h.nodup⟩
  · rintro rfl
    rcases h.own.2 with ⟨e, _⟩ | ⟨g2, cap, cur, e, _, h2, _⟩
    · rw [e] at hvb; cases hvb
    · rw [e] at hvb
      have e2 : some g2 = some _ := hvb
      injection e2 with e2
      subst e2
      exact heapT_ne hr h2 (by decide) rfl
  · by_cases e : i = x
    · subst e
      rw [hg] at hg'
      injection hg' with hg'
      subst hg'
      simp only [World.setCell, Array.getElem?_modify]
      simp only [↓reduceIte, hr, Option.map_some, Option.some.injEq, Obj.cells.injEq, and_true]
      apply Array.ext_getElem?
      intro j
      show (Array.setIfInBounds _ y _)[j]? = _
      rw [Array.getElem?_setIfInBounds]
      by_cases e : y = j
      · subst e
        rw [if_pos rfl]
        by_cases hy : y < n
        · rw [if_pos (by simp [bl]; exact hy), bl_at _ hy]
          simp
        · rw [if_neg (by simp [bl]; omega), Array.getElem?_eq_none (by simp [bl]; omega)]
      · rw [if_neg e]
        by_cases hy : j < n
        · rw [bl_at _ hy, bl_at _ hy, if_neg (fun h => e h.2.symm)]
        · rw [Array.getElem?_eq_none (by simp [bl]; omega), Array.getElem?_eq_none (by simp [bl]; omega)]
    · have hne : g' ≠ g := by
        rintro rfl
        obtain ⟨h1, e1⟩ := List.getElem?_eq_some_iff.1 hg
        obtain ⟨h2, e2⟩ := List.getElem?_eq_some_iff.1 hg'
        have hp := List.pairwise_iff_getElem.1 h.nodup
        rcases Nat.lt_trichotomy i x with h3 | h3 | h3
        · exact hp i x h2 h1 h3 (e2.trans e1.symm)
        · exact e h3
        · exact hp x i h1 h2 h3 (e1.trans e2.symm)
      rw [Below.heap_setCell W ⟨g, y, none⟩ _ g' hne, h.row i g' hg']
      congr 2
      unfold bl
      congr 1
      exact List.map_congr_left fun j _ => by dsimp only; rw [if_neg (fun h => e h.1)]
end
theorem zero_O : (Tryd.prog.info? 33).map (fun i => (i.zero, i.size)) = some (some (.agg #[.int .i64 0, .slice none 0 0]), 2) := by kernel_rfl
theorem zero_O_run : ∀ w, (zeroValue 33).run Tryd.prog w = .ok (.agg #[.int .i64 0, .slice none 0 0]) w := (zero_of_info zero_O).1
theorem info_row : (Tryd.prog.info? 76).map (fun i => (i.zero, i.size, i.bytes)) = some (some (.slice none 0 0), 1, 24) := by kernel_rfl
theorem info_bool : (Tryd.prog.info? 4).map (fun i => (i.zero, i.size, i.bytes)) = some (some (.bool false), 1, 1) := by kernel_rfl
theorem make_bools (n : Nat) (hn : n ≤ 100000) : ∀ W : World, (Instr.makeSlice 76 (.int .i64 (n : Int)) (.int .i64 (n : Int))).run Tryd.prog W = .ok (.slice (some ⟨W.heap.size, 0, none⟩) n n) (W.alloc (.cells (Array.replicate n (.bool false)) 4)) := by
  obtain ⟨i, hi, hz, h1, h2⟩ := info_parts info_bool
  intro W
  have h := run_make_rowN 76 4 i _ Tryd.underlying76 hi hz .i64 .i64 n n (Nat.le_refl _) (by rw [h2]; omega) (by omega) W
  rw [h1, Nat.mul_one, made_one _ _ rfl] at h
  exact h
def m0 (E : List (Nat × Nat)) : Nat → Nat → Bool := fun x y => decide ((x, y) ∈ E)
/-- A block holds the reference's order. -/
def OB (W : World) (b n : Nat) (v : Value) : Prop := W.heap[b]? = some (.cells #[.int .i64 (n : Int), v] 33 (0, 0))
theorem OB.store {W : World} {b n n' : Nat} {v v' : Value} (h : OB W b n v) : OB ((W.setCell ⟨b, 0, none⟩ (.int .i64 (n' : Int))).setCell ⟨b, 1, none⟩ v') b n' v' := by
  unfold OB at *
  simp only [World.setCell, Array.getElem?_modify]
  simp [h]
theorem Mx.other {W : World} {lo k n b n' i : Nat} {v v' u : Value} {gs : List Nat} {M : Nat → Nat → Bool} (h : Mx W lo v k n gs M) (hb : OB W b n' v') : Mx (W.setCell ⟨b, i, none⟩ u) lo v k n gs M := by
  refine ⟨own_of_block h.own fun x hx => Below.heap_setCell W ⟨b, i, none⟩ _ x ?_, fun j g hg => (Below.heap_setCell W ⟨b, i, none⟩ _ g (heapT_ne (h.row j g hg) hb (by decide))).trans (h.row j g hg), h.low, h.nodup⟩
  rintro rfl
  rcases h.own.2 with ⟨e, _⟩ | ⟨g2, cap, cur, e, _, h2, _⟩
  · rw [e] at hx; cases hx
  · rw [e] at hx
    have e2 : some g2 = some _ := hx
    injection e2 with e2
    subst e2
    exact heapT_ne hb h2 (by decide) rfl
theorem OB.set0 {W : World} {b n n' : Nat} {v : Value} (h : OB W b n v) : OB (W.setCell ⟨b, 0, none⟩ (.int .i64 (n' : Int))) b n' v := by
  unfold OB at *
  simp only [World.setCell, Array.getElem?_modify]
  simp [h]
theorem ret_O {fn : Func} {p q : Tmp} (hf : fn.results = #[.cell p 33, .tmp q]) {V : World} {b n : Nat} {v code : Value} (tmps : Array Value) (hp : tmps.getD p undef = .pointer (some ⟨b, 0, none⟩)) (hq : tmps.getD q undef = code) (h : OB V b n v) : (results fn tmps).run Tryd.prog V = .ok (.tuple #[.agg #[.int .i64 (n : Int), v], code]) V := by
  have c0 : V.cell? ⟨b, 0, none⟩ = some (.int .i64 (n : Int)) := cell_of_row V b 0 _ _ (0, 0) h
  have c1 : V.cell? ⟨b, 1, none⟩ = some v := cell_of_row V b 1 _ _ (0, 0) h
  have ia := Tryd.isAgg33
  have so := Tryd.sizeOf33
  simp only [results, hf]
  have hp' : tmps[p]?.getD undef = .pointer (some ⟨b, 0, none⟩) := by simpa using hp
  have hq' : tmps[q]?.getD undef = code := by simpa using hq
  simp [Sem.run_bind, Result.andThen, asAddr, hp', hq', go_sem, c0, c1, ia, so]
/-- What the walk of New keeps. -/
structure RnJ (w : World) (b4 b7 n k : Nat) (gs : List Nat) (M : Nat → Nat → Bool) (V : World) : Prop where
  res : OB V b4 0 (.slice none 0 0)
  obj : ∃ v, OB V b7 n v ∧ Mx V w.heap.size v k n gs M
  bel : Below w.heap.size w V
  low : w.heap.size ≤ b4
  low7 : w.heap.size ≤ b7
  ne47 : b4 ≠ b7
theorem RnJ.ne {w V : World} {b4 b7 n k : Nat} {gs : List Nat} {M : Nat → Nat → Bool} (h : RnJ w b4 b7 n k gs M V) {i g : Nat} (hg : gs[i]? = some g) : g ≠ b4 ∧ g ≠ b7 := by
  obtain ⟨v, h1, h2⟩ := h.obj
  exact ⟨heapT_ne (h2.row i g hg) h.res (by decide), heapT_ne (h2.row i g hg) h1 (by decide)⟩
theorem RnJ.set {w V : World} {b4 b7 n k : Nat} {gs : List Nat} {M : Nat → Nat → Bool} (h : RnJ w b4 b7 n k gs M V) {x y g : Nat} (hg : gs[x]? = some g) (b : Bool) : RnJ w b4 b7 n k gs (fun i j => if i = x ∧ j = y then b else M i j) (V.setCell ⟨g, y, none⟩ (.bool b)) := by
  obtain ⟨v, h1, h2⟩ := h.obj
  obtain ⟨n4, n7⟩ := h.ne hg
  exact ⟨(Below.heap_setCell V ⟨g, y, none⟩ _ b4 (Ne.symm n4)).trans h.res, ⟨v, (Below.heap_setCell V ⟨g, y, none⟩ _ b7 (Ne.symm n7)).trans h1, h2.set hg b⟩, h.bel.setCell (p := ⟨g, y, none⟩) (h2.low g (List.mem_of_getElem? hg)) _, h.low, h.low7, h.ne47⟩
theorem RnJ.drew {w V : World} {b4 b7 n k : Nat} {gs : List Nat} {M : Nat → Nat → Bool} (h : RnJ w b4 b7 n k gs M V) : RnJ w b4 b7 n k gs M V.drew := by
  obtain ⟨v, h1, h2⟩ := h.obj
  exact ⟨h.res, ⟨v, h1, h2.below ((Below.refl _ _).drew)⟩, h.bel.drew, h.low, h.low7, h.ne47⟩
theorem RnJ.congr {w V : World} {b4 b7 n k : Nat} {gs : List Nat} {M M' : Nat → Nat → Bool} (h : RnJ w b4 b7 n k gs M V) (hM : ∀ x y, x < k → y < n → M x y = M' x y) : RnJ w b4 b7 n k gs M' V := by
  obtain ⟨v, h1, h2⟩ := h.obj
  exact ⟨h.res, ⟨v, h1, h2.congr hM⟩, h.bel, h.low, h.low7, h.ne47⟩
/-- A row is made and appended. -/
theorem rn_row {w X w9 : World} {b4 b7 n a gg cap : Nat} {gs : List Nat} {v : Value} {C : Obj} (h : RnJ w b4 b7 n a gs (fun _ _ => false) X) (hob : OB X b7 n v)
    (hown : w9.ownsRow w.heap.size 76 1 (.slice (some ⟨gg, 0, none⟩) (a + 1) cap) (a + 1) ((gs.map fun g => Value.slice (some ⟨g, 0, none⟩) n n) ++ [.slice (some ⟨X.heap.size, 0, none⟩) n n]))
    (hg : (((X.alloc (.cells (Array.replicate n (.bool false)) 4)).alloc C).drew).grownBy w9 v.ownBlock) :
    w9.cell? ⟨b7, 1, none⟩ = some v ∧ w9.frozen? ⟨b7, 1, none⟩ = false ∧ Hid (RnJ w b4 b7 n (a + 1) (gs ++ [X.heap.size]) (fun _ _ => false) (w9.setCell ⟨b7, 1, none⟩ (.slice (some ⟨gg, 0, none⟩) (a + 1) cap))) := by
  obtain ⟨v', h1, h2⟩ := h.obj
  have hv : v' = v := by
    unfold OB at h1 hob
    rw [h1] at hob
    injection hob with hob
    injection hob with hob
    have := congrArg (·[1]?) hob
    simpa using this
  subst hv
  have hXs := h.bel.size
  have hkind : ∀ b, v'.ownBlock = some b → ∃ C, X.heap[b]? = some (.cells C 76 (0, 0)) := fun b hb => by
    rcases h2.own.2 with ⟨e, _⟩ | ⟨g, cap, cur, e, _, h2, _⟩
    · rw [e] at hb; cases hb
    · rw [e] at hb
      have e2 : some g = some b := hb
      injection e2 with e2
      exact ⟨cur, e2 ▸ h2⟩
  have keep : ∀ b, b < X.heap.size → v'.ownBlock ≠ some b → w9.heap[b]? = X.heap[b]? := fun b hb hne => by
    rw [hg.block b (by show b < ((X.alloc _).alloc C).heap.size; simp; omega) (Ne.symm hne)]
    show ((X.alloc _).alloc C).heap[b]? = _
    rw [Below.heap_alloc _ C b (by simp; omega), Below.heap_alloc X _ b hb]
  have kc : ∀ (b : Nat) (C : Array Value) (t : TypeId), X.heap[b]? = some (.cells C t (0, 0)) → t ≠ 76 → w9.heap[b]? = some (.cells C t (0, 0)) := fun b C t hb ht => (keep b (heap_lt hb) (fun e => by
    obtain ⟨C', h⟩ := hkind b e
    exact heapT_ne hb h ht rfl)).trans hb
  have hnew : w9.heap[X.heap.size]? = some (.cells (bl n (fun _ => false)) 4 (0, 0)) := by
    rw [hg.block X.heap.size (by show X.heap.size < ((X.alloc _).alloc C).heap.size; simp; omega) (fun e => by have := (World.ownsRow.lt h2.own X.heap.size e.symm).2; omega)]
    show ((X.alloc _).alloc C).heap[X.heap.size]? = _
    rw [Below.heap_alloc _ C X.heap.size (by simp), World.alloc_heap_new, rep_range]
    rfl
  have o7 := kc b7 _ _ h1 (by decide)
  have o4 := kc b4 _ _ h.res (by decide)
  have c9 : w9.cell? ⟨b7, 1, none⟩ = some v' := cell_of_row w9 b7 1 _ _ (0, 0) o7
  refine ⟨c9, by simp [World.frozen?, o7], ⟨(Below.heap_setCell w9 ⟨b7, 1, none⟩ _ b4 h.ne47).trans o4, ⟨.slice (some ⟨gg, 0, none⟩) (a + 1) cap, ?_, ⟨?_, fun i g hgi => ?_, fun g hgm => ?_, ?_⟩⟩, ?_, h.low, h.low7, h.ne47⟩⟩
  · unfold OB
    simp only [World.setCell, Array.getElem?_modify]
    simp [o7]
  · rw [List.map_append]
    refine own_of_block hown fun b hb => Below.heap_setCell w9 ⟨b7, 1, none⟩ _ b ?_
    rintro rfl
    rcases hown.2 with ⟨e, _⟩ | ⟨g, cap, cur, e, _, h3, _⟩
    · rw [e] at hb; cases hb
    · rw [e] at hb
      have e2 : some g = some _ := hb
      injection e2 with e2
      subst e2
      exact heapT_ne o7 h3 (by decide) rfl
  · have hr : w9.heap[g]? = some (.cells (bl n (fun _ => false)) 4 (0, 0)) := by
      rcases Nat.lt_or_ge i gs.length with hi | hi
      · rw [List.getElem?_append_left hi] at hgi
        exact kc g _ _ (h2.row i g hgi) (by decide)
      · rw [List.getElem?_append_right hi] at hgi
        have : i - gs.length = 0 := by
          rcases Nat.eq_zero_or_pos (i - gs.length) with h | h
          · exact h
          · rw [List.getElem?_eq_none (by simp; omega)] at hgi; cases hgi
        rw [this] at hgi
        injection hgi with hgi
        rw [← hgi]
        exact hnew
    rw [Below.heap_setCell w9 ⟨b7, 1, none⟩ _ g (heapT_ne hr o7 (by decide))]
    exact hr
  · rcases List.mem_append.1 hgm with hgm | hgm
    · exact h2.low g hgm
    · rw [List.mem_singleton] at hgm
      omega
  · refine PO.snoc_nodup h2.nodup fun hm => ?_
    obtain ⟨i, hi, e⟩ := List.mem_iff_getElem.1 hm
    have := heap_lt (h2.row i _ (List.getElem?_eq_getElem hi))
    omega
  · have hb : Below w.heap.size w (((X.alloc (.cells (Array.replicate n (.bool false)) 4)).alloc C).drew) := ((h.bel.alloc hXs _).alloc (by simp; omega) _).drew
    exact (hb.grown hg (by show w.heap.size ≤ ((X.alloc _).alloc C).heap.size; simp; omega) (fun b e => (World.ownsRow.lt h2.own b e).1)).setCell (p := ⟨b7, 1, none⟩) h.low7 _
set_option maxRecDepth 100000 in
set_option maxHeartbeats 16000000 in
theorem refNew_any (n m c : Nat) (A : Option Addr) (E : List (Nat × Nat)) (w : World) (hn : n ≤ 9) (hm : m ≤ 1000) (hE : Edg w w.heap.size A m E) (hd : ∀ p ∈ E, p.1 < n ∧ p.2 < n) :
    Calls Tryd.prog 16 #[.int .i64 (n : Int), .slice A m c] w fun e w' => Below w.heap.size w w' ∧
      ((e = .returned (.tuple #[.agg #[.int .i64 0, .slice none 0 0], .int .i64 9]) ∧ ∃ a, a < n ∧ PO.wAll (m0 E) n a a = true) ∨
       ((∀ a, a < n → PO.wAll (m0 E) n a a = false) ∧ ∃ v gs, e = .returned (.tuple #[.agg #[.int .i64 (n : Int), v], .int .i64 0]) ∧ Mx w' w.heap.size v n n gs (PO.wAll (m0 E) n))) := by
  have hzv := zero_O_run
  have hmk := make_bools n (by omega)
  obtain ⟨i0, hi0, hz0, hz1, hz2⟩ := info_parts info_row
  have hEl := hE.1
  obtain ⟨w1, hw1⟩ : ∃ W, w.alloc (.cells #[.int .i64 0, .slice none 0 0] 33) = W := ⟨_, rfl⟩
  have hb1 : Below w.heap.size w w1 := by rw [← hw1]; exact (Below.refl _ _).alloc (Nat.le_refl _) _
  have ho1 : OB w1 w.heap.size 0 (.slice none 0 0) := by rw [← hw1]; exact World.alloc_heap_new w _
  have hs1 : w1.heap.size = w.heap.size + 1 := by rw [← hw1]; simp
  have HE := Lib.hid hE
  have HD := Lib.hid hd
  have HW1 := Lib.hid hw1
  have HB1 := Lib.hid hb1
  have HO1 := Lib.hid ho1
  clear hE hd hw1 hb1 ho1
  go_enter Tryd.func16, Tryd.ntmps16
  go_wp2_with fail
  rw [HW1.out]
  go_loopw [6] (fun i V => ∃ k : Nat, k ≤ m ∧ i = .int .i64 (k : Int) ∧ V = w1) (fun i _ => m - (intOf i).toNat)
  case atStart => exact ⟨0, Nat.zero_le _, rfl, rfl⟩
  case round =>
    obtain ⟨k, hk, rfl, rfl⟩ := hrel
    by_cases hlt : k < m
    · obtain ⟨b, off, x, y, rfl, hbl, hxk, c1, c2⟩ := (HE.out.below HB1.out).at_ hlt
      obtain ⟨hx, hy⟩ := HD.out _ (List.mem_of_getElem? hxk)
      unfold nv at c1 c2
      have HX := Lib.hid hxk
      clear hxk
      go_wp2_with fail
      go_roundw
      case rel => exact ⟨k + 1, by omega, by go_num, trivial⟩
      case measure => simp [intOf]; omega
    · obtain rfl : m = k := by omega
      obtain ⟨w1, hww⟩ : ∃ W, W = wr := ⟨_, rfl⟩
      subst hww
      have hJ0 : RnJ w w.heap.size (w.heap.size + 1) n 0 [] (fun _ _ => false) (w1.alloc (.cells #[.int .i64 (n : Int), .slice none 0 0] 33)) := by
        refine ⟨(Below.heap_alloc w1 _ _ (by omega)).trans HO1.out, ⟨.slice none 0 0, ?_, World.ownsRow_nil _ _ _ _, (fun i g hg => by simp at hg), (fun g hg => by cases hg), List.nodup_nil⟩, HB1.out.alloc (by omega) _, Nat.le_refl _, by omega, by omega⟩
        have h := World.alloc_heap_new w1 (.cells #[.int .i64 (n : Int), .slice none 0 0] 33)
        rw [hs1] at h
        exact h
      have HJ0 := Lib.hid hJ0
      clear hJ0
      go_wp2_with fail
      go_loopw [8] (fun i V => ∃ (a : Nat) (gs : List Nat), a ≤ n ∧ i = .int .i64 (a : Int) ∧ Hid (RnJ w w.heap.size (w.heap.size + 1) n a gs (fun _ _ => false) V)) (fun i _ => n - (intOf i).toNat)
      case atStart => exact ⟨0, [], Nat.zero_le _, rfl, HJ0.out⟩
      case round =>
        obtain ⟨a, gs, ha, rfl, hJ⟩ := hrel
        by_cases hlt2 : a < n
        · obtain ⟨v, hob, hmx⟩ := hJ.out.obj
          obtain ⟨vA, vc, rfl, _, _⟩ := own_slice hmx.own
          have hbl7 := heap_lt hob
          have c7 : wr.cell? ⟨w.heap.size + 1, 1, none⟩ = some (.slice vA a vc) := cell_of_row wr (w.heap.size + 1) 1 _ _ (0, 0) hob
          have c7a : ∀ B : Obj, (wr.alloc B).cell? ⟨w.heap.size + 1, 1, none⟩ = some (.slice vA a vc) := fun B => (World.cell?_of_block (w := wr) (Below.heap_alloc wr B _ hbl7)).trans c7
          have c7b : ∀ B C : Obj, ((wr.alloc B).alloc C).cell? ⟨w.heap.size + 1, 1, none⟩ = some (.slice vA a vc) := fun B C => (World.cell?_of_block (w := wr.alloc B) (Below.heap_alloc _ C _ (by simp; omega))).trans (c7a B)
          have c7x := c7a (.cells (Array.replicate n (.bool false)) 4)
          have c7y := c7b (.cells (Array.replicate n (.bool false)) 4) (.cells #[.slice (some ⟨wr.heap.size, 0, none⟩) n n] 76)
          have HOA := Lib.hid (show ∀ B C : Obj, (((wr.alloc B).alloc C).drew).ownsRow w.heap.size 76 1 (.slice vA a vc) a (gs.map fun g => Value.slice (some ⟨g, 0, none⟩) n n) from fun B C => own_of_block hmx.own fun b hb => by
            have := (World.ownsRow.lt hmx.own b hb).2
            show ((wr.alloc B).alloc C).heap[b]? = _
            rw [Below.heap_alloc _ C b (by simp; omega), Below.heap_alloc wr B b this])
          have HOB := Lib.hid hob
          have hsz := hJ.out.bel.size
          clear hob hmx HJ0
          go_wp2_with fail
          go_region_law (refine step_append_lies _ rfl (.tmp 67) (.tmp 70) 31 rfl w.heap.size 76 i0 _ 1 24 Tryd.underlying31 hi0 hz0 hz1 hz2 rfl (by decide) (.slice vA a vc) a _ (by simp [Act.eval]) (HOA.out _ _) ⟨wr.heap.size + 1, 0, none⟩ 1 1 [.slice (some ⟨wr.heap.size, 0, none⟩) n n] (by simp [Act.eval]) rfl (fun j u hu => by have h := cell_one_new (wr.alloc (.cells (Array.replicate n (.bool false)) 4)) (.slice (some ⟨wr.heap.size, 0, none⟩) n n) 76 j u hu; rw [World.size_alloc] at h; exact h) (by simp [Value.oneCell']) (by decide) (by simp only [maxLen]; omega) (by omega) (by simp; omega) _ rfl ?_; intro gg cap w9 hown9 hgrow9 hat9 hlt9; obtain ⟨c9, f9, HR9⟩ := rn_row hJ.out HOB.out hown9 hgrow9)
          all_goals
            go_wp2_with fail
            go_roundw
            case rel => exact ⟨a + 1, gs ++ [wr.heap.size], by omega, by go_num, HR9.out⟩
            case measure => simp [intOf]; omega
        · obtain rfl : a = n := by omega
          have HJ1 := Lib.hid hJ.out
          clear hJ HJ0
          go_wp2_with fail
          go_loopw [9] (fun i V => ∃ k : Nat, k ≤ m ∧ i = .int .i64 (k : Int) ∧ Hid (RnJ w w.heap.size (w.heap.size + 1) a a gs (m0 (E.take k)) V)) (fun i _ => m - (intOf i).toNat)
          case atStart => exact ⟨0, Nat.zero_le _, rfl, HJ1.out.congr fun x y _ _ => by simp [m0]⟩
          case round =>
            obtain ⟨k, hk, rfl, hJ⟩ := hrel
            by_cases hlt3 : k < m
            · obtain ⟨b, off, x, y, rfl, hbl, hxk, c1, c2⟩ := (HE.out.below hJ.out.bel).at_ hlt3
              obtain ⟨hx, hy⟩ := HD.out _ (List.mem_of_getElem? hxk)
              unfold nv at c1 c2
              obtain ⟨v, hob, hmx⟩ := hJ.out.obj
              obtain ⟨gm, cm, rfl, _, _⟩ := hmx.form (by omega)
              have c7 : wr.cell? ⟨w.heap.size + 1, 1, none⟩ = some (.slice (some ⟨gm, 0, none⟩) a cm) := cell_of_row wr (w.heap.size + 1) 1 _ _ (0, 0) hob
              obtain ⟨g, hg, cg⟩ := hmx.cell (i := x) hx
              have cb := hmx.bit hg hy
              have fb := hmx.free hg y
              have HS := Lib.hid ((hJ.out.set (y := y) hg true).drew)
              have HM := Lib.hid (show ∀ i j : Nat, (if i = x ∧ j = y then true else m0 (E.take k) i j) = m0 (E.take (k + 1)) i j from fun i j => by
                unfold m0
                rw [take_snoc hxk]
                by_cases h : i = x ∧ j = y
                · rw [if_pos h, h.1, h.2]; simp
                · rw [if_neg h]
                  have : ¬ (i, j) = (x, y) := fun e => h (by injection e with e1 e2; exact ⟨e1, e2⟩)
                  simp [this])
              clear hxk hob hmx HJ1
              go_wp2_with fail
              go_region
              all_goals
                go_wp2_with fail
                go_roundw
                case rel => exact ⟨k + 1, by omega, by go_num, HS.out.congr fun i j _ _ => HM.out i j⟩
                case measure => simp [intOf]; omega
            · obtain rfl : m = k := by omega
              have HJ2 := Lib.hid (show RnJ w w.heap.size (w.heap.size + 1) a a gs (PO.wAll (m0 E) 0) wr from hJ.out.congr fun x y _ _ => by rw [List.take_of_length_le (by omega)]; rfl)
              clear hJ HJ1
              go_wp2_with fail
              go_loopw [10] (fun i V => ∃ c : Nat, c ≤ a ∧ i = .int .i64 (c : Int) ∧ Hid (RnJ w w.heap.size (w.heap.size + 1) a a gs (PO.wAll (m0 E) c) V)) (fun i _ => a - (intOf i).toNat)
              case atStart => exact ⟨0, Nat.zero_le _, rfl, HJ2.out⟩
              case round =>
                obtain ⟨c0, hc0, rfl, hJ⟩ := hrel
                by_cases hlt4 : c0 < a
                · obtain ⟨M, hM⟩ : ∃ M, PO.wAll (m0 E) c0 = M := ⟨_, rfl⟩
                  have HNX := Lib.hid (show PO.wAll (m0 E) (c0 + 1) = PO.wStep c0 M by rw [← hM]; rfl)
                  rw [hM] at hJ
                  have HJ3 := Lib.hid (show RnJ w w.heap.size (w.heap.size + 1) a a gs (PO.wMid c0 0 0 M) wr by rw [PO.wMid_start]; exact hJ.out)
                  clear hJ HJ2 hM
                  go_wp2_with fail
                  go_loopw [11] (fun i V => ∃ x : Nat, x ≤ a ∧ i = .int .i64 (x : Int) ∧ Hid (RnJ w w.heap.size (w.heap.size + 1) a a gs (PO.wMid c0 x 0 M) V)) (fun i _ => a - (intOf i).toNat)
                  case atStart => exact ⟨0, Nat.zero_le _, rfl, HJ3.out⟩
                  case round =>
                    obtain ⟨x, hx, rfl, hJ⟩ := hrel
                    by_cases hlt5 : x < a
                    · have HJ4 := Lib.hid hJ.out
                      clear hJ HJ3
                      go_wp2_with fail
                      go_loopw [12] (fun i V => ∃ y : Nat, y ≤ a ∧ i = .int .i64 (y : Int) ∧ Hid (RnJ w w.heap.size (w.heap.size + 1) a a gs (PO.wMid c0 x y M) V)) (fun i _ => a - (intOf i).toNat)
                      case atStart => exact ⟨0, Nat.zero_le _, rfl, HJ4.out⟩
                      case round =>
                        obtain ⟨y, hy, rfl, hJ⟩ := hrel
                        by_cases hlt6 : y < a
                        · obtain ⟨v, hob, hmx⟩ := hJ.out.obj
                          obtain ⟨gm, cm, rfl, _, _⟩ := hmx.form (by omega)
                          have c7 : wr.cell? ⟨w.heap.size + 1, 1, none⟩ = some (.slice (some ⟨gm, 0, none⟩) a cm) := cell_of_row wr (w.heap.size + 1) 1 _ _ (0, 0) hob
                          obtain ⟨gx, hgx, cgx⟩ := hmx.cell (i := x) hlt5
                          obtain ⟨gc, hgc, cgc⟩ := hmx.cell (i := c0) hlt4
                          have cb1 := hmx.bit hgx hlt4
                          have cb2 := hmx.bit hgc hlt6
                          have cb3 := hmx.bit hgx hlt6
                          have fb3 := hmx.free hgx y
                          rw [PO.wMid_col] at cb1
                          rw [PO.wMid_row] at cb2
                          have HN2 := Lib.hid (PO.wMid_next c0 x y M)
                          have HAT := Lib.hid (PO.wMid_at c0 x y M)
                          have HST := Lib.hid (hJ.out.set (y := y) hgx true)
                          obtain ⟨b1, hb1⟩ : ∃ b, M x c0 = b := ⟨_, rfl⟩
                          obtain ⟨b2, hb2⟩ : ∃ b, M c0 y = b := ⟨_, rfl⟩
                          rw [hb1] at cb1
                          rw [hb2] at cb2
                          have HB := Lib.hid (And.intro hb1 hb2)
                          clear hob hmx HJ4 hb1 hb2
                          have HSK : (b1 && b2) = false → RnJ w w.heap.size (w.heap.size + 1) a a gs (PO.wMid c0 x (y + 1) M) wr := fun hb => hJ.out.congr fun i j _ _ => by
                            rw [HN2.out, HB.out.1, HB.out.2, hb, Bool.or_false]
                            by_cases h : i = x ∧ j = y
                            · rw [if_pos h, h.1, h.2, HAT.out]
                            · rw [if_neg h]
                          have HSK := Lib.hid HSK
                          cases b1 with
                          | false =>
                            go_wp2_with fail
                            go_roundw
                            case rel => exact ⟨y + 1, by omega, by go_num, HSK.out rfl⟩
                            case measure => simp [intOf]; omega
                          | true =>
                            cases b2 with
                            | false =>
                              go_wp2_with fail
                              go_roundw
                              case rel => exact ⟨y + 1, by omega, by go_num, HSK.out rfl⟩
                              case measure => simp [intOf]; omega
                            | true =>
                              have HFN := Lib.hid (show RnJ w w.heap.size (w.heap.size + 1) a a gs (PO.wMid c0 x (y + 1) M) (wr.setCell ⟨gx, y, none⟩ (.bool true)) from HST.out.congr fun i j _ _ => by
                                rw [HN2.out, HB.out.1, HB.out.2]
                                by_cases h : i = x ∧ j = y
                                · rw [if_pos h, if_pos h]; simp
                                · rw [if_neg h, if_neg h])
                              go_wp2_with fail
                              go_roundw
                              case rel => exact ⟨y + 1, by omega, by go_num, HFN.out⟩
                              case measure => simp [intOf]; omega
                        · obtain rfl : y = a := by omega
                          have HJ5 := Lib.hid (show RnJ w w.heap.size (w.heap.size + 1) y y gs (PO.wMid c0 (x + 1) 0 M) wr from hJ.out.congr fun i j _ hj => PO.wMid_line hj)
                          clear hJ HJ4
                          go_wp2_with fail
                          go_roundw
                          case rel => exact ⟨x + 1, by omega, by go_num, HJ5.out⟩
                          case measure => simp [intOf]; omega
                    · obtain rfl : x = a := by omega
                      have HJ5 := Lib.hid (show RnJ w w.heap.size (w.heap.size + 1) x x gs (PO.wAll (m0 E) (c0 + 1)) wr by
                        rw [HNX.out]
                        exact hJ.out.congr fun i j hi _ => PO.wMid_end hi)
                      clear hJ HJ3
                      go_wp2_with fail
                      go_roundw
                      case rel => exact ⟨c0 + 1, by omega, by go_num, HJ5.out⟩
                      case measure => simp [intOf]; omega
                · obtain rfl : c0 = a := by omega
                  have HJ3 := Lib.hid hJ.out
                  clear hJ HJ2
                  go_wp2_with fail
                  go_loopw [13] (fun i V => ∃ x : Nat, x ≤ c0 ∧ i = .int .i64 (x : Int) ∧ Hid (RnJ w w.heap.size (w.heap.size + 1) c0 c0 gs (PO.wAll (m0 E) c0) V) ∧ Hid (∀ z, z < x → PO.wAll (m0 E) c0 z z = false)) (fun i _ => c0 - (intOf i).toNat)
                  case atStart => exact ⟨0, Nat.zero_le _, rfl, HJ3.out, (show ∀ z, z < 0 → PO.wAll (m0 E) c0 z z = false from fun z h => absurd h (by omega))⟩
                  case round =>
                    obtain ⟨x, hx, rfl, hJ, hno⟩ := hrel
                    have HR := Lib.hid hJ.out.res
                    have r0 : wr.cell? ⟨w.heap.size, 0, none⟩ = some (.int .i64 ((0 : Nat) : Int)) := cell_of_row wr w.heap.size 0 _ _ (0, 0) hJ.out.res
                    have r1 : wr.cell? ⟨w.heap.size, 1, none⟩ = some (.slice none 0 0) := cell_of_row wr w.heap.size 1 _ _ (0, 0) hJ.out.res
                    have rf0 : wr.frozen? ⟨w.heap.size, 0, none⟩ = false := by have := hJ.out.res; unfold OB at this; simp [World.frozen?, this]
                    have rf1 : wr.frozen? ⟨w.heap.size, 1, none⟩ = false := by have := hJ.out.res; unfold OB at this; simp [World.frozen?, this]
                    clear HJ3
                    by_cases hlt4 : x < c0
                    · obtain ⟨v, hob, hmx⟩ := hJ.out.obj
                      obtain ⟨gm, cm, rfl, _, _⟩ := hmx.form (by omega)
                      have c7 : wr.cell? ⟨w.heap.size + 1, 1, none⟩ = some (.slice (some ⟨gm, 0, none⟩) c0 cm) := cell_of_row wr (w.heap.size + 1) 1 _ _ (0, 0) hob
                      obtain ⟨gx, hgx, cgx⟩ := hmx.cell (i := x) hlt4
                      have cb1 := hmx.bit hgx hlt4
                      obtain ⟨b1, hb1⟩ : ∃ b, PO.wAll (m0 E) c0 x x = b := ⟨_, rfl⟩
                      rw [hb1] at cb1
                      have HB := Lib.hid hb1
                      clear hob hmx hb1
                      cases b1 with
                      | false =>
                        go_wp2_with fail
                        go_roundw
                        case rel => exact ⟨x + 1, by omega, by go_num, hJ.out, (show ∀ z, z < x + 1 → PO.wAll (m0 E) c0 z z = false from fun z hz => by
                          rcases Nat.lt_or_ge z x with h | h
                          · exact hno.out z h
                          · rw [show z = x by omega]; exact HB.out)⟩
                        case measure => simp [intOf]; omega
                      | true =>
                        have HW := Lib.hid (show OB ((wr.setCell ⟨w.heap.size, 0, none⟩ (.int .i64 ((0 : Nat) : Int))).setCell ⟨w.heap.size, 1, none⟩ (.slice none 0 0)) w.heap.size 0 (.slice none 0 0) from HR.out.store)
                        have HBB := Lib.hid ((hJ.out.bel.setCell (p := ⟨w.heap.size, 0, none⟩) (Nat.le_refl _) (.int .i64 ((0 : Nat) : Int))).setCell (p := ⟨w.heap.size, 1, none⟩) (Nat.le_refl _) (.slice none 0 0))
                        have e0 : ((0 : Nat) : Int) = 0 := rfl
                        rw [e0] at HW HBB
                        clear e0
                        go_wp2_with fail
                        refine bodyPost_ret (ret_O rfl _ rfl rfl HW.out) rfl ?_
                        exact ⟨HBB.out, .inl ⟨rfl, x, hlt4, HB.out⟩⟩
                    · obtain rfl : x = c0 := by omega
                      obtain ⟨v, hob, hmx⟩ := hJ.out.obj
                      obtain ⟨vA, vc, rfl, _, _⟩ := own_slice hmx.own
                      have s0 : wr.cell? ⟨w.heap.size + 1, 0, none⟩ = some (.int .i64 (x : Int)) := cell_of_row wr (w.heap.size + 1) 0 _ _ (0, 0) hob
                      have s1 : wr.cell? ⟨w.heap.size + 1, 1, none⟩ = some (.slice vA x vc) := cell_of_row wr (w.heap.size + 1) 1 _ _ (0, 0) hob
                      have HW := Lib.hid (show OB ((wr.setCell ⟨w.heap.size, 0, none⟩ (.int .i64 (x : Int))).setCell ⟨w.heap.size, 1, none⟩ (.slice vA x vc)) w.heap.size x (.slice vA x vc) from HR.out.store)
                      have HMX := Lib.hid (show Mx ((wr.setCell ⟨w.heap.size, 0, none⟩ (.int .i64 (x : Int))).setCell ⟨w.heap.size, 1, none⟩ (.slice vA x vc)) w.heap.size (.slice vA x vc) x x gs (PO.wAll (m0 E) x) from (hmx.other HR.out).other HR.out.set0)
                      have HBB := Lib.hid ((hJ.out.bel.setCell (p := ⟨w.heap.size, 0, none⟩) (Nat.le_refl _) (.int .i64 (x : Int))).setCell (p := ⟨w.heap.size, 1, none⟩) (Nat.le_refl _) (.slice vA x vc))
                      clear hob hmx hJ
                      go_wp2_with fail
                      refine bodyPost_ret (ret_O rfl _ rfl rfl HW.out) rfl ?_
                      exact ⟨HBB.out, .inr ⟨hno.out, _, gs, rfl, HMX.out⟩⟩
end Go.Proofs.YtlgdcbhdmffnoaaDoor
