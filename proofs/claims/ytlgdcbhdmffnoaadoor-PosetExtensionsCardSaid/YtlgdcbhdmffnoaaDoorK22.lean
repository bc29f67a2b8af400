/-
  The contract of the reference's All: the linear orders that begin with a list, one after another. Conditions: at most 8 elements; the matrix is a closed order's.
  The contract of the reference's All: the linear orders that begin with a list, one after another. Conditions: at most 8 elements; the matrix is a closed order's.
-/
import Derived.Test.YtlgdcbhdmffnoaaDoorK19
import Derived.Deep.AppendLies
import Derived.Deep.RegionHeld3
import Derived.Deep.DrawnRows

namespace Go.Proofs.YtlgdcbhdmffnoaaDoor
open Go Go.RowKit Go.Proofs
attribute [local go_sem ↓] Go.wp_at_zero Go.wp_at_succ

/-! ### Mathematics -/
/-- The extensions by elements before a. -/
def alT (R : List Nat) (f : Nat) (d : List Nat) (a : Nat) : List (List Nat) := ((List.range a).filter (canGo (PO.rows R) d)).flatMap fun x => PO.allE R f (d ++ [x])
theorem alT_succ (R : List Nat) (f : Nat) (d : List Nat) (a : Nat) : alT R f d (a + 1) = alT R f d a ++ (if canGo (PO.rows R) d a then PO.allE R f (d ++ [a]) else []) := by
  unfold alT
  rw [List.range_succ, List.filter_append, List.flatMap_append]
  congr 1
  cases h : canGo (PO.rows R) d a <;> simp [h]
theorem alT_all (R : List Nat) (f : Nat) (d : List Nat) : alT R f d R.length = PO.allE R (f + 1) d := rfl
theorem flat_le {α β : Type} (g : α → List β) (n : Nat) : ∀ l : List α, (∀ x ∈ l, (g x).length ≤ n) → (l.flatMap g).length ≤ l.length * n
  | [], _ => by simp
  | x :: t, h => by
    rw [List.flatMap_cons, List.length_append, List.length_cons, Nat.succ_mul]
    have h1 := h x (by simp)
    have h2 := flat_le g n t (fun y hy => h y (List.mem_cons_of_mem _ hy))
    omega
theorem allE_le {R : List Nat} (hR : R.length ≤ 8) : ∀ f d, (PO.allE R f d).length ≤ 8 ^ f
  | 0, d => by simp [PO.allE]
  | f + 1, d => by
    have h1 := flat_le (fun a => PO.allE R f (d ++ [a])) (8 ^ f) (PO.nexts R d) (fun a _ => allE_le hR f (d ++ [a]))
    have h2 : (PO.nexts R d).length ≤ 8 := by
      unfold PO.nexts
      have := List.length_filter_le (canGo (PO.rows R) d) (List.range R.length)
      rw [List.length_range] at this
      omega
    have h3 : (PO.nexts R d).length * 8 ^ f ≤ 8 * 8 ^ f := Nat.mul_le_mul_right _ h2
    have h4 : 8 ^ (f + 1) = 8 * 8 ^ f := by rw [Nat.pow_succ, Nat.mul_comm]
    have h5 : PO.allE R (f + 1) d = (PO.nexts R d).flatMap fun a => PO.allE R f (d ++ [a]) := rfl
    rw [h5]
    omega
theorem alT_le {R : List Nat} (hR : R.length ≤ 8) {f : Nat} (d : List Nat) {a : Nat} (hf : f ≤ 7) (ha : a ≤ 8) : (alT R f d a).length ≤ 16777216 := by
  have h1 := flat_le (fun x => PO.allE R f (d ++ [x])) (8 ^ f) ((List.range a).filter (canGo (PO.rows R) d)) (fun x _ => allE_le hR f (d ++ [x]))
  have h2 := List.length_filter_le (canGo (PO.rows R) d) (List.range a)
  rw [List.length_range] at h2
  have h3 : ((List.range a).filter (canGo (PO.rows R) d)).length * 8 ^ f ≤ 8 * 8 ^ 7 := Nat.mul_le_mul (by omega) (Nat.pow_le_pow_right (by omega) hf)
  unfold alT
  omega

/-! ### Memory -/
/-- v is a slice of the call's own that holds slices, the i-th of which is a row of the naturals Ls[i]. -/
def LL (W : World) (lo : Nat) (v : Value) (Ls : List (List Nat)) : Prop := ∃ vs : List Value, W.ownsRow lo 22 1 v Ls.length vs ∧ ∀ (i : Nat) (V : Value) (L : List Nat), vs[i]? = some V → Ls[i]? = some L → Own W 0 V L
section
variable {W W' : World} {lo lo' : Nat} {v : Value} {Ls : List (List Nat)}
theorem LL.nil (W : World) (lo : Nat) : LL W lo (.slice none 0 0) [] := ⟨[], ⟨rfl, .inl ⟨rfl, rfl⟩⟩, fun i V L h => by simp at h⟩
theorem LL.below (h : LL W lo v Ls) (hb : Below W.heap.size W W') : LL W' lo v Ls := by
  obtain ⟨vs, h1, h2⟩ := h
  exact ⟨vs, own_of_block h1 fun b hv => hb.block b (World.ownsRow.lt h1 b hv).2, fun i V L hV hL => (h2 i V L hV hL).keep fun b hb2 => hb.block b ((h2 i V L hV hL).lt b hb2).2⟩
theorem LL.low (h : LL W lo v Ls) (hl : lo' ≤ lo) : LL W lo' v Ls := by
  obtain ⟨vs, h1, h2⟩ := h
  refine ⟨vs, ⟨h1.1, ?_⟩, h2⟩
  rcases h1.2 with h0 | ⟨g, cap, cur, e, h3, h4⟩
  · exact .inl h0
  · exact .inr ⟨g, cap, cur, e, Nat.le_trans hl h3, h4⟩
theorem LL.form (h : LL W lo v Ls) : ∃ A c, v = .slice A Ls.length c := by
  obtain ⟨vs, h1, _⟩ := h
  obtain ⟨A, c, e, _, _⟩ := own_slice h1
  exact ⟨A, c, e⟩
/-- A row of integers is apart from the slice that holds slices. -/
theorem own_apart {W : World} {lo n : Nat} {v V : Value} {vs : List Value} {L : List Nat} {b0 : Nat} (h : W.ownsRow lo 22 1 v n vs) (hO : Own W b0 V L) {b : Nat} (hb : V.ownBlock = some b) : v.ownBlock ≠ some b := by
  intro e
  rcases h.2 with ⟨rfl, _⟩ | ⟨g, cap, cur, rfl, _, h2, _⟩
  · simp [Value.ownBlock] at e
  · rcases hO.2 with ⟨rfl, _⟩ | ⟨g', cap', cur', rfl, _, h2', _⟩
    · simp [Value.ownBlock] at hb
    · have e1 : g = b := by simpa [Value.ownBlock] using e
      have e2 : g' = b := by simpa [Value.ownBlock] using hb
      subst e1 e2
      exact heapT_ne h2 h2' (by decide) rfl
/-- More slices behind. -/
theorem LL.app {B : Value} {n : Nat} {Ms : List (List Nat)} {us vs : List Value} (h1 : W.ownsRow lo 22 1 v Ls.length vs) (h2 : ∀ (i : Nat) (V : Value) (L : List Nat), vs[i]? = some V → Ls[i]? = some L → Own W 0 V L) (h3 : ∀ (i : Nat) (V : Value) (L : List Nat), us[i]? = some V → Ms[i]? = some L → Own W 0 V L)
    (hn : n = Ls.length + Ms.length) (hown : W'.ownsRow lo 22 1 B n (vs ++ us)) (hg : W.grownBy W' v.ownBlock) : LL W' lo B (Ls ++ Ms) := by
  have hvl : vs.length = Ls.length := by have := h1.1; simpa using this
  refine ⟨vs ++ us, by rw [List.length_append, ← hn]; exact hown, fun i V L hV hL => ?_⟩
  have hO : Own W 0 V L := by
    rcases Nat.lt_or_ge i Ls.length with hi | hi
    · rw [List.getElem?_append_left (by omega)] at hV
      rw [List.getElem?_append_left hi] at hL
      exact h2 i V L hV hL
    · rw [List.getElem?_append_right (by omega)] at hV
      rw [List.getElem?_append_right hi] at hL
      rw [hvl] at hV
      exact h3 _ V L hV hL
  exact hO.keep fun b hb => hg.block b (hO.lt b hb).2 (fun e => own_apart h1 hO hb e.symm)
end
theorem info_rowi : (Tryd.prog.info? 22).map (fun i => (i.zero, i.size, i.bytes)) = some (some (.slice none 0 0), 1, 24) := by kernel_rfl
end Go.Proofs.YtlgdcbhdmffnoaaDoor

namespace Go.Proofs.YtlgdcbhdmffnoaaDoor
open Go Go.RowKit Go.Proofs
attribute [local go_sem ↓] Go.wp_at_zero Go.wp_at_succ

theorem own_nil0 (W : World) (lo : Nat) : Own W lo (.slice none 0 0) [] := ⟨rfl, .inl ⟨rfl, rfl⟩⟩
theorem Own.zero {W : World} {lo : Nat} {v : Value} {L : List Nat} (h : Own W lo v L) : Own W 0 v L := h.base_ fun _ _ => Nat.zero_le _
theorem OI.own {W : World} {lo n c : Nat} {A : Option Addr} {L : List Nat} (h : OI W lo A n c (L.map fun n : Nat => (n : Int))) : Own W lo (.slice A n c) L := by
  have hl := h.len
  rw [List.length_map] at hl
  unfold Own
  rw [map_nv, hl]
  exact h
theorem own_snoc {W : World} {lo j c q : Nat} {A : Option Addr} {L : List Nat} (h : W.ownsRow lo 3 1 (.slice A (j + 1) c) (j + 1) ((L.map fun n : Nat => (n : Int)).map (Value.int .i64) ++ [.int .i64 (q : Int)])) : Own W lo (.slice A (j + 1) c) (L ++ [q]) := by
  refine OI.own ?_
  unfold OI
  rw [List.map_append, List.map_append]
  exact h
theorem slices_one {W : World} {us : List Value} {Ms : List (List Nat)} (hl : us.length = Ms.length) (h : ∀ (i : Nat) (V : Value) (L : List Nat), us[i]? = some V → Ms[i]? = some L → Own W 0 V L) : ∀ u ∈ us, u.oneCell' = true := by
  intro u hu
  obtain ⟨i, hi, rfl⟩ := List.mem_iff_getElem.1 hu
  obtain ⟨A, c, e, _, _⟩ := (h i _ _ (List.getElem?_eq_getElem hi) (List.getElem?_eq_getElem (by omega))).slice
  rw [e]
  rfl
set_option maxRecDepth 100000 in
set_option maxHeartbeats 4000000 in
theorem refAll_any {lo k : Nat} {A : Option Addr} {c : Nat} {gs : List Nat} {M : Nat → Nat → Bool} (hk : k ≤ 8) {R : List Nat} (hRl : R.length = k) (hM : ∀ a b, PO.lt R a b = M a b) (hcl : PO.Cl R) :
    ∀ (f : Nat) (d : List Nat) (w : World) (B : Option Addr) (m z : Nat), d.length + f = k → PO.Dn R d → Mx w lo (.slice A k c) k k gs M → Own w 0 (.slice B m z) d →
    Calls Tryd.prog 34 #[.agg #[.int .i64 (k : Int), .slice A k c], .slice B m z] w fun e w' => ∃ A' c', e = .returned (.slice A' (PO.allE R f d).length c') ∧ LL w' w.heap.size (.slice A' (PO.allE R f d).length c') (PO.allE R f d) ∧ Below w.heap.size w w' := by
  intro f
  induction f with
  | zero =>
    intro d w B m z hdf hD hmx hO
    obtain ⟨w1, hw1⟩ : ∃ V, w.alloc (.cells #[.int .i64 (k : Int), .slice A k c] 33) = V := ⟨_, rfl⟩
    have hb1 : Below w.heap.size w w1 := by rw [← hw1]; exact (Below.refl _ _).alloc (Nat.le_refl _) _
    have ho1 : OB w1 w.heap.size k (.slice A k c) := by rw [← hw1]; exact World.alloc_heap_new w _
    have hs1 : w1.heap.size = w.heap.size + 1 := by rw [← hw1]; simp
    have HS1 := Lib.hid hs1
    clear hs1
    obtain ⟨e0, e1, _, _⟩ := ho1.facts
    have hmd := hO.lst.1
    have hmk : ((m : Int) == (k : Int)) = true := by rw [hmd]; simp; omega
    have HW1 := Lib.hid hw1
    have HB1 := Lib.hid hb1
    have HO := Lib.hid (hO.keep fun b hb => hb1.block b (hO.lt b hb).2)
    clear hw1 hb1 ho1 hO hmx hdf hmd
    go_enter Tryd.func34, Tryd.ntmps34
    go_wp2_with fail
    go_ret
    rw [HW1.out, ← HS1.out]
    have hn := (Below.refl w1.heap.size w1).alloc (Nat.le_refl _) (.cells #[.slice B m z] 22)
    have hs := HB1.out.size
    refine ⟨some ⟨w1.heap.size, 0, none⟩, 1, rfl, ⟨[.slice B m z], ⟨rfl, .inr ⟨w1.heap.size, 1, _, rfl, hs, World.alloc_heap_new w1 _, Nat.le_refl _, by simp [maxLen], rfl, rfl⟩⟩, fun i V L hV hL => ?_⟩, HB1.out.trans (hn.mono hs)⟩
    cases i with
    | zero =>
      injection hV with hV
      injection hL with hL
      subst hV hL
      exact HO.out.keep fun b hb => hn.block b (HO.out.lt b hb).2
    | succ i => simp at hV
  | succ f ih =>
    intro d w B m z hdf hD hmx hO
    obtain ⟨i0, hi0, hz0, hz1, hz2⟩ := info_parts info_int
    obtain ⟨i1, hi1, hy0, hy1, hy2⟩ := info_parts info_rowi
    obtain ⟨w1, hw1⟩ : ∃ V, w.alloc (.cells #[.int .i64 (k : Int), .slice A k c] 33) = V := ⟨_, rfl⟩
    have hb1 : Below w.heap.size w w1 := by rw [← hw1]; exact (Below.refl _ _).alloc (Nat.le_refl _) _
    have ho1 : OB w1 w.heap.size k (.slice A k c) := by rw [← hw1]; exact World.alloc_heap_new w _
    have hs1 : w1.heap.size = w.heap.size + 1 := by rw [← hw1]; simp
    obtain ⟨e0, e1, _, _⟩ := ho1.facts
    have hmd := hO.lst.1
    have hmk : ((m : Int) == (k : Int)) = false := beq_eq_false_iff_ne.2 (by omega)
    have hmk8 : m ≤ 7 := by omega
    have HW1 := Lib.hid hw1
    have HB1 := Lib.hid hb1
    have HO1 := Lib.hid ho1
    have HO := Lib.hid (hO.keep fun b hb => hb1.block b (hO.lt b hb).2)
    have HMX := Lib.hid (hmx.below hb1)
    have HFG := Lib.hid (fun a => frM_go hcl.small hRl hM d a)
    have HIH := Lib.hid ih
    have HD := Lib.hid hD
    have HMD := Lib.hid hmd
    have HCL := Lib.hid hcl
    have hf7 : f ≤ 7 := by omega
    have HRL := Lib.hid hRl
    clear hw1 hb1 ho1 hO hmx hmd ih hM hcl hD hRl
    go_enter Tryd.func34, Tryd.ntmps34
    go_wp2_with fail
    rw [HW1.out]
    clear e0 e1
    go_loopw [5, 6] (fun ov i V => ∃ (a : Nat) (Bo : Option Addr) (co n : Nat), a ≤ k ∧ i = .int .i64 (a : Int) ∧ ov = .slice Bo n co ∧ (alT R f d a).length = n ∧ Hid (LL V w1.heap.size (.slice Bo n co) (alT R f d a)) ∧ Hid (Below w1.heap.size w1 V)) (fun _ i _ => k - (intOf i).toNat)
    case atStart => exact ⟨0, none, 0, 0, by omega, rfl, rfl, rfl, LL.nil _ _, Below.refl _ _⟩
    case round =>
      obtain ⟨a, Bo, co, n, ha, rfl, hov, hln, hLL, hB⟩ := hrel
      obtain ⟨ov, hovv⟩ : ∃ O, O = u5 := ⟨_, rfl⟩
      subst hovv
      subst hov
      have hOB : OB wr w.heap.size k (.slice A k c) := (hB.out.block _ (by omega)).trans HO1.out
      obtain ⟨c0, c1, _, _⟩ := hOB.facts
      by_cases hak : a < k
      · have hOr := HO.out.keep fun b hb => hB.out.block b (HO.out.lt b hb).2
        have HOR := Lib.hid hOr
        have HHA := Lib.hid (refHas_any B m z _ (a : Int) wr (own_ints hOr).2 (by omega))
        rw [has_nat] at HHA
        obtain ⟨gm, cm, hv, hgm, _⟩ := HMX.out.form (by omega)
        injection hv with hA _ hcm
        have hM2 := HMX.out.below hB.out
        have HMXR := Lib.hid hM2
        have HA := Lib.hid hA
        rw [hA] at hM2 c1
        have HM2 := Lib.hid hM2
        have HFS := Lib.hid (frM_succ M d a)
        have HGO := Lib.hid (HFG.out a)
        have hf0 : frM M d a 0 = !decide (a ∈ d) := by unfold frM; simp
        rw [← Bool.not_not (decide (a ∈ d)), ← hf0] at HHA
        have HF0 := Lib.hid hf0
        have HLN := Lib.hid hln
        clear hA hcm hM2 hf0 hOr hln hOB
        go_wp2_with (go_at_call 38; refine HHA.out.mono ?_; clear HHA; rintro e w' ⟨rfl, rfl⟩)
        obtain ⟨wi, hwi⟩ : ∃ W, W = w' := ⟨_, rfl⟩
        subst hwi
        go_loopw [7, 8] (fun bv i V => ∃ t : Nat, t ≤ k ∧ i = .int .i64 (t : Int) ∧ bv = .bool (frM M d a t) ∧ V = wi) (fun _ i _ => k - (intOf i).toNat)
        case atStart => exact ⟨0, by omega, rfl, by simp, rfl⟩
        case round =>
          obtain ⟨t, ht, rfl, hbv, rfl⟩ := hrel
          obtain ⟨bv, hbvv⟩ : ∃ O, O = u7 := ⟨_, rfl⟩
          subst hbvv
          subst hbv
          by_cases htk : t < k
          · obtain ⟨g, hg, hcg⟩ := HM2.out.cell (i := t) htk
            have hbit := HM2.out.bit hg hak
            have HHT := Lib.hid (refHas_any B m z _ (t : Int) wr (own_ints HOR.out).2 (by omega))
            rw [has_nat] at HHT
            have hfs := HFS.out t
            obtain ⟨bm, hbm⟩ : ∃ b, M t a = b := ⟨_, rfl⟩
            obtain ⟨bl, hbl⟩ : ∃ b, decide (t ∈ d) = b := ⟨_, rfl⟩
            rw [hbm] at hbit hfs
            rw [hbl] at HHT hfs
            clear hbm hbl hg
            cases bm with
            | false =>
              have HF := Lib.hid (show frM M d a (t + 1) = frM M d a t by rw [hfs]; simp)
              clear hfs HHT
              go_wp2_with fail
              go_roundw
              case rel => exact ⟨t + 1, by omega, by go_num, by rw [HF.out], trivial⟩
              case measure => simp [intOf]; omega
            | true =>
              cases bl with
              | true =>
                have HF := Lib.hid (show frM M d a (t + 1) = frM M d a t by rw [hfs]; simp)
                clear hfs
                go_wp2_with (go_at_call 38; refine HHT.out.mono ?_; clear HHT; rintro e w' ⟨rfl, rfl⟩)
                go_roundw
                case rel => exact ⟨t + 1, by omega, by go_num, by rw [HF.out], trivial⟩
                case measure => simp [intOf]; omega
              | false =>
                have HF := Lib.hid (show frM M d a (t + 1) = false by rw [hfs]; simp)
                clear hfs
                go_wp2_with (go_at_call 38; refine HHT.out.mono ?_; clear HHT; rintro e w' ⟨rfl, rfl⟩)
                go_roundw
                case rel => exact ⟨t + 1, by omega, by go_num, by rw [HF.out], trivial⟩
                case measure => simp [intOf]; omega
          · obtain rfl : t = k := by omega
            rw [HGO.out]
            have hsu := alT_succ R f d a
            obtain ⟨bg, hbg⟩ : ∃ b, canGo (PO.rows R) d a = b := ⟨_, rfl⟩
            rw [hbg] at hsu ⊢
            cases bg with
            | false =>
              have HSU := Lib.hid (show alT R f d (a + 1) = alT R f d a by rw [hsu]; simp)
              clear hbg hsu
              go_wp2_with fail
              go_roundw
              case rel => exact ⟨a + 1, _, _, n, by omega, by go_num, rfl, by rw [HSU.out]; exact HLN.out, by rw [HSU.out]; exact hLL.out, hB.out⟩
              case measure => simp [intOf]; omega
            | true =>
              have HSU := Lib.hid (show alT R f d (a + 1) = alT R f d a ++ PO.allE R f (d ++ [a]) by rw [hsu]; simp)
              have HDN := Lib.hid (HD.out.snoc HCL.out.small (by rw [HRL.out]; exact hak) hbg)
              have HSL := Lib.hid (OI.of HOR.out).2.slc
              have hLr := hLL.out
              have hBs := hB.out.size
              have HMXW := Lib.hid HMXR.out
              clear hbg hsu HGO HFS HF0
              have hda : (d ++ [a]).length + f = t := by rw [List.length_append, List.length_singleton]; omega
              obtain ⟨E, hE⟩ : ∃ E, PO.allE R f (d ++ [a]) = E := ⟨_, rfl⟩
              have HE := Lib.hid hE
              have hE1 : 0 < E.length := by
                rw [← hE, PO.allE_len]
                exact PO.cnt_pos HCL.out f (d ++ [a]) HDN.out (by rw [HRL.out]; exact hda)
              have hbd := alT_le (R := R) (by rw [HRL.out]; exact hk) d hf7 (show a + 1 ≤ 8 by omega)
              rw [HSU.out, List.length_append, HLN.out, hE] at hbd
              have HIA := Lib.hid (fun (V : World) (hV : Below wr.heap.size wr V) (B' : Option Addr) (c' : Nat) (hO' : Own V 0 (.slice B' (m + 1) c') (d ++ [a])) => HIH.out (d ++ [a]) V B' (m + 1) c' hda HDN.out (HMXW.out.below hV) hO')
              rw [hE] at HIA HSU
              simp only [HA.out] at HIA
              have HC0 := Lib.hid c0
              have HC1 := Lib.hid c1
              have HDA := Lib.hid hda
              clear hE hda
              go_wp2_with (
                 at_builtin
                 refine wpList_append_slc rfl (.tmp 49) (.tmp 50) 22 rfl wr.heap.size 3 i0 _ 8 Tryd.underlying22 hi0 hz0 hz1 hz2 rfl (.slice none 0 0) 0 [] rfl ⟨rfl, .inl ⟨rfl, rfl⟩⟩ .i64 _ _ _ _ rfl HSL.out (by simp only [maxLen]; omega) (by omega) (Nat.le_refl _) ?_
                 intro A8 c8 w8 hown8 hgrow8
                 rw [Nat.zero_add, List.nil_append] at hown8
                 rw [Nat.zero_add]
                 have hb8 := (Below.refl wr.heap.size wr).grown hgrow8 (Nat.le_refl _) (fun b e => by cases e)
                 have hown8' : OI w8 wr.heap.size A8 m c8 (d.map fun n : Nat => (n : Int)) := hown8
                 have HO8 := Lib.hid hown8'
                 have HB8 := Lib.hid hb8
                 clear hown8 hown8' hgrow8 hb8)
              have hs8 := HB8.out.size
              have hc0 := (HB8.out.cell (p := ⟨w.heap.size, 0, none⟩) (show w.heap.size < wr.heap.size by omega)).trans c0
              have hc1 := (HB8.out.cell (p := ⟨w.heap.size, 1, none⟩) (show w.heap.size < wr.heap.size by omega)).trans c1
              have HOA := Lib.hid (show OI ((w8.alloc (.cells #[.int .i64 (a : Int)] 3)).drew) wr.heap.size A8 m c8 (d.map fun n : Nat => (n : Int)) from HO8.out.below ((Below.refl _ _).alloc (Nat.le_refl _) _).drew)
              have HOB := Lib.hid (show OI ((w8.drew).alloc (.cells #[.int .i64 (a : Int)] 3)) wr.heap.size A8 m c8 (d.map fun n : Nat => (n : Int)) from HO8.out.below ((Below.refl _ w8).drew.alloc (Nat.le_refl _) _))
              have hwl : w.heap.size < w8.heap.size := by omega
              have hca : ∀ (o : Obj), (w8.alloc o).cell? ⟨w.heap.size, 0, none⟩ = some (.int .i64 (t : Int)) ∧ (w8.alloc o).cell? ⟨w.heap.size, 1, none⟩ = some (.slice (some ⟨gm, 0, none⟩) t c) := fun o => ⟨(World.cell?_of_block (Below.heap_alloc w8 o _ hwl)).trans hc0, (World.cell?_of_block (Below.heap_alloc w8 o _ hwl)).trans hc1⟩
              have HCA := Lib.hid hca
              clear c0 c1 hca HOR hgm
              go_region_held3 (fun W => W.cell? ⟨w.heap.size, 0, none⟩ = some (.int .i64 (t : Int)) ∧ W.cell? ⟨w.heap.size, 1, none⟩ = some (.slice (some ⟨gm, 0, none⟩) t c))
                (first | exact ⟨hc0, hc1⟩ | exact HCA.out _ | exact hc9 | exact hc10)
                (first
                  | (refine step_append_lies _ rfl (.tmp 53) (.tmp 55) 22 rfl wr.heap.size 3 i0 _ 1 8 Tryd.underlying22 hi0 hz0 hz1 hz2 rfl (by decide) (.slice A8 m c8) m _ (by simp [Act.eval]) (by first | exact HOA.out | exact HOB.out) ⟨w8.heap.size, 0, none⟩ 1 1 [.int .i64 (a : Int)] (by simp [Act.eval]) rfl (by first | exact World.news_of_block (w := (w8.alloc (.cells #[.int .i64 (a : Int)] 3)).drew) (World.alloc_heap_new w8 _) | exact World.news_of_block (w := (w8.drew).alloc (.cells #[.int .i64 (a : Int)] 3)) (World.alloc_heap_new w8.drew _)) (by simp [Value.oneCell']) (by decide) (by simp only [maxLen]; omega) (by omega) (by simp; omega) _ rfl ?_
                     intro g9 c9 w9 hown9 hgrow9 hat9 hlt9
                     have HO9 := Lib.hid (own_snoc hown9).zero
                     have hb9 : Below wr.heap.size wr w9 := ((HB8.out.alloc hs8 _).drew).grown hgrow9 (by show wr.heap.size ≤ (w8.alloc _).heap.size; simp; omega) (fun b e => (World.ownsRow.lt HOA.out b e).1)
                     have HB9 := Lib.hid hb9
                     have hc9 := And.intro ((hb9.cell (p := ⟨w.heap.size, 0, none⟩) (show w.heap.size < wr.heap.size by omega)).trans HC0.out) ((hb9.cell (p := ⟨w.heap.size, 1, none⟩) (show w.heap.size < wr.heap.size by omega)).trans HC1.out)
                     clear hown9 hgrow9 hat9 hlt9 hb9)
                  | (go_at_call 34; ((with_reducible refine (HIA.out _ HB9.out _ _ HO9.out).mono ?_)); rintro e w10 ⟨A10, c10, rfl, hll, hb10⟩
                     have HL10 := Lib.hid hll
                     have hb10' := HB9.out.trans (hb10.mono HB9.out.size)
                     have HB10 := Lib.hid hb10'
                     have HS9 := Lib.hid HB9.out.size
                     have hc10 := And.intro ((hb10'.cell (p := ⟨w.heap.size, 0, none⟩) (show w.heap.size < wr.heap.size by omega)).trans HC0.out) ((hb10'.cell (p := ⟨w.heap.size, 1, none⟩) (show w.heap.size < wr.heap.size by omega)).trans HC1.out)
                     clear hll hb10 hb10'))
              obtain ⟨vs, g1, g2⟩ := hLr.below HB10.out
              obtain ⟨us, g3, g4⟩ := HL10.out
              have hul : us.length = E.length := by have := g3.1; simpa using this
              have hone := slices_one hul g4
              obtain ⟨g10, _, hA10, _, _⟩ := g3.form hE1
              injection hA10 with hA10
              subst hA10
              have hnews := World.ownsRow.cells g3 rfl
              rw [HLN.out] at g1
              have hsz := HB10.out.size
              have HG1 := Lib.hid g1
              have HG2 := Lib.hid g2
              have HG4 := Lib.hid g4
              have HNW := Lib.hid hnews
              have HON := Lib.hid hone
              have HUL := Lib.hid hul
              clear g1 g2 g3 g4 hul hone hnews hc10 hc9 hc0 hc1 HCA HIA HOA HOB HO8 HO9
              go_wp2_with (
                 at_builtin
                 refine wpList_append_lies _ rfl (.tmp 58) (.tmp 59) 56 rfl w1.heap.size 22 i1 _ 1 24 Tryd.underlying56 hi1 hy0 hy1 hy2 rfl (by decide) (.slice Bo n co) n vs rfl HG1.out ⟨g10, 0, none⟩ E.length c10 us rfl (by rw [HUL.out, Nat.mul_one]) HNW.out HON.out (by omega) (by simp only [maxLen]; omega) (by omega) (by omega) _ rfl ?_
                 intro g11 c11 w11 hown11 hgrow11 hat11 hlt11
                 have HLF := Lib.hid (LL.app (Ls := alT R f d a) (by rw [HLN.out]; exact HG1.out) HG2.out HG4.out (by rw [HLN.out]) hown11 hgrow11)
                 have HBF := Lib.hid ((hB.out.trans (HB10.out.mono hBs)).grown hgrow11 (by omega) (fun b e => (World.ownsRow.lt HG1.out b e).1))
                 clear hown11 hgrow11 hat11 hlt11)
              go_roundw
              case rel => exact ⟨a + 1, some ⟨g11, 0, none⟩, c11, n + E.length, by omega, by go_num, rfl, by rw [HSU.out, List.length_append, HLN.out], by rw [HSU.out]; exact HLF.out, HBF.out⟩
              case measure => simp [intOf]; omega
      · obtain rfl : a = k := by omega
        have HE := Lib.hid (show alT R f d a = PO.allE R (f + 1) d by rw [← HRL.out]; exact alT_all R f d)
        have HLN := Lib.hid hln
        clear hln hOB
        go_wp2_with fail
        go_ret
        rw [← HE.out, HLN.out]
        exact ⟨Bo, co, rfl, hLL.out.low HB1.out.size, HB1.out.trans (hB.out.mono HB1.out.size)⟩
end Go.Proofs.YtlgdcbhdmffnoaaDoor
