/-
  The joined texts: dotted numbers, words. Conditions: the listed tables and variables stand (TN); numbers are from 0 to 2^31 - 1.
-/
import Derived.Test.YtggallpnbbidfaaGreatDoorNmE
import Derived.Test.YtggallpnbbidfaaGreatDoorNmRi
import Derived.Test.YtggallpnbbidfaaGreatDoorShelfA
namespace Go.Proofs.YtggallpnbbidfaaGreatDoor
open Go Go.RowKit Go.Proofs
attribute [local go_sem] Oper.semAt_some

/-- The variable in block g holds an error or nil. -/
def VarE (g : Nat) (W : World) : Prop := g < W.heap.size ∧ ∃ ev, W.cell? ⟨g, 0, none⟩ = some ev ∧ (ev = .nilIface ∨ ∃ te pe, ev = .iface te pe)
theorem VarE.below {g : Nat} {W V : World} (h : VarE g W) (hb : Below W.heap.size W V) : VarE g V := by
  obtain ⟨h1, ev, h2, h3⟩ := h
  exact ⟨Nat.lt_of_lt_of_le h1 hb.size, ev, (hb.cell (p := ⟨g, 0, none⟩) h1).trans h2, h3⟩
theorem pow_lt {W : World} (h : Lib.TabIs Tryz.prog W "internal/strconv.uint64pow10" .u64 Lib.pow10Tab) : 1 < W.heap.size := by
  have hg : Tryz.prog.globalNamed "internal/strconv.uint64pow10" = some 1 := by kernel_rfl
  have h : World.var? _ _ _ = _ := h
  unfold World.var? at h
  rw [hg] at h
  simp only [Option.bind_some] at h
  cases hh : W.heap[1]? with
  | none => rw [hh] at h; cases h
  | some o => exact (Array.getElem?_eq_some_iff.1 hh).1
theorem pow_keep {W V : World} (h : Lib.TabIs Tryz.prog W "internal/strconv.uint64pow10" .u64 Lib.pow10Tab) (hk : V.heap[1]? = W.heap[1]?) : Lib.TabIs Tryz.prog V "internal/strconv.uint64pow10" .u64 Lib.pow10Tab := by
  have hg : Tryz.prog.globalNamed "internal/strconv.uint64pow10" = some 1 := by kernel_rfl
  have h : World.var? _ _ _ = _ := h
  show World.var? _ _ _ = _
  unfold World.var? at h ⊢
  rw [hg] at h ⊢
  simp only [Option.bind_some] at h ⊢
  rw [hk]
  exact h
/-- What the walks take of the listed variables. -/
structure TN (W : World) : Prop where
  max : ∃ m : Int, W.cell? ⟨0, 0, none⟩ = some (.int .i64 m)
  pow : Lib.TabIs Tryz.prog W "internal/strconv.uint64pow10" .u64 Lib.pow10Tab
  syn : VarE 2 W
  rng : VarE 3 W
theorem TN.below {W V : World} (h : TN W) (hb : Below W.heap.size W V) : TN V := by
  obtain ⟨⟨m, hm⟩, h2, h3, h4⟩ := h
  refine ⟨⟨m, ?_⟩, pow_keep h2 (hb.block _ (pow_lt h2)), h3.below hb, h4.below hb⟩
  have hl : 0 < W.heap.size := by
    rcases Nat.lt_or_ge 0 W.heap.size with h | h
    · exact h
    · simp [World.cell?, Array.getElem?_eq_none h] at hm
  exact (hb.cell (p := ⟨0, 0, none⟩) hl).trans hm
theorem TN.drewN {W : World} (h : TN W) (q : Nat) : TN (W.drewN q) := h.below ⟨rfl, rfl, rfl, Nat.le_refl _, fun _ _ => rfl⟩
theorem grow_below (w : World) (os : Array Obj) : Below w.heap.size w (Go.Sort.grow w os) := by
  refine ⟨rfl, rfl, rfl, by simp, fun k hk => ?_⟩
  show (w.heap ++ os)[k]? = _
  rw [Array.getElem?_append, if_pos hk]
theorem itoa_any {n : Int} (h : NM.Nn n) (W : World) (hT : TN W) : Calls Tryz.prog 57 #[.int .i64 n] W fun e w' => e = .returned (.string (NM.bs (Lib.itoa n))) ∧ Below W.heap.size W w' := by
  obtain ⟨h0, h1⟩ := h
  unfold NM.big at h1
  refine (Tryz.strconv_Itoa n (by omega) (by omega) W hT.pow).mono ?_
  rintro e w' ⟨rfl, k, os, rfl⟩
  exact ⟨rfl, (drewN_below W k).trans (grow_below (W.drewN k) os)⟩

/-- Strings in memory. -/
def strs (l : List NM.Bs) : List Value := l.map fun t => Value.string (NM.bs t)
theorem strs_len (l : List NM.Bs) : (strs l).length = l.length := by simp [strs]
theorem join_strs {V : World} {g n c : Nat} {l : List NM.Bs} {sep : UInt8} (hl : l.length = n) (hc : ∀ (j : Nat) u, (strs l)[j]? = some u → V.cell? ⟨g, j, none⟩ = some u) (hg : g < V.heap.size) (hn : n ≤ 1000) (hcap : n ≤ c) (hlen : (Lib.join l [sep]).length ≤ 1000000) :
    Calls Tryz.prog 56 #[.slice (some ⟨g, 0, none⟩) n c, .string ⟨#[sep]⟩] V fun e w' => e = .returned (.string (NM.bs (Lib.join l [sep]))) ∧ Below V.heap.size V w' := by
  have e1 : (l.map NM.bs).map (·.data.toList) = l := by
    rw [List.map_map]
    conv => rhs; rw [← List.map_id l]
    apply List.map_congr_left
    intro x _
    simp [NM.bs]
  have h := Tryz.strings_Join g 0 c (l.map NM.bs) ⟨#[sep]⟩ V (fun j x hx => by
    rw [Nat.zero_add]
    apply hc
    rw [List.getElem?_map] at hx
    unfold strs
    rw [List.getElem?_map]
    cases hh : l[j]? with
    | none => rw [hh] at hx; cases hx
    | some y => rw [hh] at hx; obtain rfl := Option.some.inj hx; rfl) hg (by simp; omega) (by simp; omega) (by rw [e1]; show (Lib.join l [sep]).length ≤ _; omega)
  rw [e1, List.length_map, hl] at h
  exact h
theorem own_of_blockS {W V : World} {base : Nat} {e : TypeId} {v : Value} {n : Nat} {xs : List Value} (h : W.ownsRow base e 1 v n xs) (hb : ∀ b, v.ownBlock = some b → V.heap[b]? = W.heap[b]?) : V.ownsRow base e 1 v n xs := by
  refine ⟨h.1, ?_⟩
  rcases h.2 with h0 | ⟨g, cap, cur, rfl, h1, h2, h3⟩
  · exact .inl h0
  · exact .inr ⟨g, cap, cur, rfl, h1, (hb g rfl).trans h2, h3⟩
theorem info_string : (Tryz.prog.info? 9).map (fun i => (i.zero, i.size, i.bytes)) = some (some (.string ⟨#[]⟩), 1, 16) := by kernel_rfl
theorem row_below {base : Nat} {W V : World} {e : TypeId} {v : Value} {n : Nat} {xs : List Value} (h : W.ownsRow base e 1 v n xs) (hb : Below W.heap.size W V) : V.ownsRow base e 1 v n xs :=
  own_of_blockS h fun b hvb => hb.block b (World.ownsRow.lt h b hvb).2
set_option maxRecDepth 100000 in
set_option maxHeartbeats 4000000 in
theorem dotted_any {g n : Nat} {t : TypeId} (l : List Int) (w : World) (hg : w.heap[g]? = some (.cells (l.map (Value.int .i64)).toArray t (0, 0))) (hl : l.length = n) (h1 : 1 ≤ n) (hn : n ≤ 100) (hall : ∀ x ∈ l, NM.Nn x) (hT : TN w) :
    Calls Tryz.prog 32 #[.slice (some ⟨g, 0, none⟩) n n] w fun e w' => e = .returned (.string (NM.bs (NM.dots l))) ∧ Below w.heap.size w w' := by
  obtain ⟨i0, hi0, hz0, hz1, hz2⟩ := info_parts info_string
  have HZ := Lib.hid (And.intro hi0 (And.intro hz0 (And.intro hz1 hz2)))
  have HG := Lib.hid hg
  have HL := Lib.hid hl
  have HA := Lib.hid hall
  have HT := Lib.hid hT
  clear hi0 hz0 hz1 hz2 hg hl hall hT
  go_enter Tryz.func32, Tryz.ntmps32
  go_wp2_with fail
  go_loopw [3, 8] (fun s i V => ∃ (k : Nat) (A : Option Addr) (c : Nat), k ≤ n ∧ i = .int .i64 (k : Int) ∧ s = .slice A k c ∧ Hid (V.ownsRow w.heap.size 9 1 (.slice A k c) k (strs ((l.take k).map Lib.itoa))) ∧ Below w.heap.size w V) (fun _ i _ => n - (intOf i).toNat)
  case atStart => exact ⟨0, none, 0, by omega, rfl, rfl, World.ownsRow_nil _ _ _ _, Below.refl _ _⟩
  case round =>
    obtain ⟨k, A, c, hk, rfl, rfl, hown, hB⟩ := hrel
    by_cases hlt : k < n
    · obtain ⟨x, hx⟩ : ∃ x, l[k]? = some x := ⟨_, List.getElem?_eq_getElem (by rw [HL.out]; exact hlt)⟩
      have hxn := HA.out x (List.mem_of_getElem? hx)
      have hc0 : wr.cell? ⟨g, k, none⟩ = some (.int .i64 x) := by
        have h := cell_of_row w g k _ _ (0, 0) HG.out
        rw [List.getElem?_toArray, List.getElem?_map, hx] at h
        exact (hB.cell (p := ⟨g, k, none⟩) (heap_lt HG.out)).trans h
      have hts : (l.take (k + 1)).map Lib.itoa = (l.take k).map Lib.itoa ++ [Lib.itoa x] := by rw [List.take_add_one, hx]; simp
      have HTS := Lib.hid hts
      have HI := Lib.hid (itoa_any hxn wr (HT.out.below hB))
      clear hx hxn hts
      go_wp2_with (first
        | (go_at_call 57; refine HI.out.mono ?_; rintro e w1 ⟨rfl, hb⟩; have HB1 := Lib.hid hb; have HO1 := Lib.hid (row_below hown.out hb); clear hb HI hown)
        | (at_builtin; refine wpList_append_own _ rfl _ _ 49 rfl w.heap.size 9 i0 _ 1 16 Tryz.underlying49 HZ.out.1 HZ.out.2.1 HZ.out.2.2.1 HZ.out.2.2.2 rfl (by decide) (.slice A k c) k (strs ((l.take k).map Lib.itoa)) (by simp [Act.eval]) (HO1.out.alloc _) ⟨w1.heap.size, 0, none⟩ 1 1 [.string (NM.bs (Lib.itoa x))] (by simp [Act.eval]) rfl (cell_one_new _ _ _) (fun u hu => by simp at hu; subst hu; rfl) (by simp only [maxLen]; omega) (by omega) (by have := hB.size; have := HB1.out.size; simp; omega) ?_; intro v2 w2 hown2 hgrow2 _; obtain ⟨A2, c2, rfl, _, _⟩ := own_slice hown2; have HO2 := Lib.hid hown2; have HG2 := Lib.hid hgrow2; clear hown2 hgrow2))
      go_roundw
      case rel =>
        refine ⟨k + 1, A2, c2, by omega, by go_num, rfl, ?_, ?_⟩
        · show World.ownsRow _ _ _ _ _ _ _
          rw [HTS.out]
          have := HO2.out
          unfold strs at this ⊢
          rw [List.map_append]
          exact this
        · have b1 := hB.trans (HB1.out.mono hB.size)
          have b2 := b1.alloc b1.size (.cells #[.string (NM.bs (Lib.itoa x))] 9)
          refine ⟨HG2.out.os.trans b2.os, HG2.out.tape.trans b2.tape, HG2.out.output.trans b2.output, Nat.le_trans b2.size HG2.out.size, fun b hb => ?_⟩
          refine (HG2.out.block b (Nat.lt_of_lt_of_le hb b2.size) (fun e => ?_)).trans (b2.block b hb)
          have := (World.ownsRow.lt HO1.out b e.symm).1
          omega
      case measure => simp [intOf]; omega
    · obtain rfl : k = n := by omega
      obtain ⟨rb, cap, hv, _, hlt2⟩ := World.ownsRow.form hown.out (by omega)
      injection hv with e1 _ e3
      subst e1
      subst e3
      have htl : l.take k = l := List.take_of_length_le (by rw [HL.out]; exact Nat.le_refl _)
      have ho := hown.out
      rw [htl] at ho
      have hcap : k ≤ c := by obtain ⟨_, _, e, h, _⟩ := own_slice ho; injection e with _ _ e; omega
      have hdl := NM.dots_len l HA.out
      rw [HL.out] at hdl
      have HJ := Lib.hid (join_strs (V := wr) (c := c) (l := l.map Lib.itoa) (sep := 46) (by rw [List.length_map, HL.out]) (fun j u hu => by
        have := World.ownsRow.cells ho (g := rb) rfl j u hu
        rwa [Addr.add_lit, Nat.zero_add] at this) hlt2 (by omega) hcap (by show (NM.dots l).length ≤ _; omega))
      clear hdl ho hown htl
      go_wp2_with (go_at_call 56; refine HJ.out.mono ?_; rintro e w1 ⟨rfl, hb⟩; have HB1 := Lib.hid hb; clear hb)
      go_ret
      exact ⟨rfl, hB.trans (HB1.out.mono hB.size)⟩
set_option maxHeartbeats 1000000 in
theorem words_any {g n : Nat} {t : TypeId} (l : List NM.Bs) (w : World) (hg : w.heap[g]? = some (.cells (strs l).toArray t (0, 0))) (hl : l.length = n) (hn : n ≤ 100) (hlen : (NM.words l).length ≤ 1000000) :
    Calls Tryz.prog 31 #[.slice (some ⟨g, 0, none⟩) n n] w fun e w' => e = .returned (.string (NM.bs (NM.words l))) ∧ Below w.heap.size w w' := by
  have HJ := Lib.hid (join_strs (V := w) (c := n) (l := l) (sep := 32) hl (fun j u hu => by
    have h := cell_of_row w g j _ _ (0, 0) hg
    rw [List.getElem?_toArray] at h
    exact h.trans hu) (heap_lt hg) (by omega) (Nat.le_refl _) hlen)
  clear hg hl hlen
  go_enter Tryz.func31, Tryz.ntmps31
  go_wp2_with (go_at_call 56; refine HJ.out.mono ?_; rintro e w1 ⟨rfl, hb⟩; have HB1 := Lib.hid hb; clear hb)
  go_ret
  exact ⟨rfl, HB1.out⟩
end Go.Proofs.YtggallpnbbidfaaGreatDoor
