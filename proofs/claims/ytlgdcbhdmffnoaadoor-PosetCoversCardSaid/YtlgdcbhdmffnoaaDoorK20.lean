/-
  The contract of the reference's Covers: the covering pairs. Conditions: at most 8 elements; the matrix is the order's.
  A store into a block of pairs or of integers leaves the order and its reference. No function of the program.
-/
import Derived.Test.YtlgdcbhdmffnoaaDoorK19
import Derived.Test.YtlgdcbhdmffnoaaDoorK11
import Derived.Deep.AppendLies

namespace Go.Proofs.YtlgdcbhdmffnoaaDoor
open Go Go.RowKit Go.Proofs

def coB (R : List Nat) (a b : Nat) : List (Nat × Nat) := ((List.range b).filter (PO.covB R a)).map fun b => (a, b)
def coA (R : List Nat) (k a : Nat) : List (Nat × Nat) := (List.range a).flatMap fun a => coB R a k
theorem coB_succ (R : List Nat) (a b : Nat) : coB R a (b + 1) = coB R a b ++ (if PO.covB R a b then [(a, b)] else []) := by
  unfold coB
  rw [range_filter, List.map_append]
  cases PO.covB R a b <;> rfl
theorem coA_succ (R : List Nat) (k a : Nat) : coA R k (a + 1) = coA R k a ++ coB R a k := by
  unfold coA
  rw [List.range_succ, List.flatMap_append, List.flatMap_singleton]
def cvT (M : Nat → Nat → Bool) (a b t : Nat) : Bool := M a b && !((List.range t).any fun c => M a c && M c b)
theorem cvT_succ (M : Nat → Nat → Bool) (a b t : Nat) : cvT M a b (t + 1) = (cvT M a b t && !(M a t && M t b)) := by
  unfold cvT
  rw [List.range_succ, List.any_append]
  simp [Bool.and_assoc]
theorem cvT_cov {R : List Nat} {M : Nat → Nat → Bool} {k : Nat} (hl : R.length = k) (hM : ∀ a b, PO.lt R a b = M a b) (a b : Nat) : cvT M a b k = PO.covB R a b := by
  unfold cvT PO.covB
  rw [hl, hM]
  congr 2
  refine congrArg _ ?_
  funext c
  rw [hM, hM]
set_option maxRecDepth 100000 in
set_option maxHeartbeats 4000000 in
theorem refCovers_any (w : World) (lo k : Nat) (A : Option Addr) (c : Nat) (gs : List Nat) (M : Nat → Nat → Bool) (hmx : Mx w lo (.slice A k c) k k gs M) (hk : k ≤ 8) (R : List Nat) (hRl : R.length = k) (hM : ∀ a b, PO.lt R a b = M a b) :
    Calls Tryd.prog 27 #[.agg #[.int .i64 (k : Int), .slice A k c]] w fun e w' => ∃ v, e = .returned v ∧ OwnP w' w.heap.size v (PO.covs R) ∧ Below w.heap.size w w' := by
  obtain ⟨i0, hi0, hz0, hz1, hz2⟩ := info_parts info_pr
  have hzv := zero_pr_run
  obtain ⟨w1, hw1⟩ : ∃ V, w.alloc (.cells #[.int .i64 (k : Int), .slice A k c] 33) = V := ⟨_, rfl⟩
  have hb1 : Below w.heap.size w w1 := by rw [← hw1]; exact (Below.refl _ _).alloc (Nat.le_refl _) _
  have ho1 : OB w1 w.heap.size k (.slice A k c) := by rw [← hw1]; exact World.alloc_heap_new w _
  have hs1 : w1.heap.size = w.heap.size + 1 := by rw [← hw1]; simp
  have HMX := Lib.hid (hmx.below hb1)
  have HO := Lib.hid ho1
  have HW1 := Lib.hid hw1
  have HB1 := Lib.hid hb1
  have HCV := Lib.hid (fun a b => cvT_cov hRl hM a b)
  have HRL := Lib.hid hRl
  clear hmx hw1 hb1 ho1 hM hRl
  go_enter Tryd.func27, Tryd.ntmps27
  go_wp2_with fail
  rw [HW1.out]
  go_loopw [3, 4] (fun ov i V => ∃ a : Nat, a ≤ k ∧ i = .int .i64 (a : Int) ∧ (coA R k a).length ≤ a * 8 ∧ Hid (OwnP V w1.heap.size ov (coA R k a)) ∧ Hid (Below w1.heap.size w1 V)) (fun _ i _ => k - (intOf i).toNat)
  case atStart => exact ⟨0, Nat.zero_le _, rfl, by simp [coA], ⟨rfl, .inl ⟨rfl, rfl⟩⟩, Below.refl _ _⟩
  case round =>
    obtain ⟨a, ha, rfl, hla, hO, hB⟩ := hrel
    obtain ⟨ov, hov⟩ : ∃ O, O = u3 := ⟨_, rfl⟩
    subst hov
    have hOB : OB wr w.heap.size k (.slice A k c) := (hB.out.block _ (by omega)).trans HO.out
    obtain ⟨c0, c1, _, _⟩ := hOB.facts
    by_cases hak : a < k
    · clear hOB
      go_wp2_with fail
      go_loopw [3, 5] (fun ov i V => ∃ b : Nat, b ≤ k ∧ i = .int .i64 (b : Int) ∧ (coA R k a ++ coB R a b).length ≤ a * 8 + b ∧ Hid (OwnP V w1.heap.size ov (coA R k a ++ coB R a b)) ∧ Hid (Below w1.heap.size w1 V)) (fun _ i _ => k - (intOf i).toNat)
      case atStart => exact ⟨0, Nat.zero_le _, rfl, by simp [coB]; omega, by simp [coB]; exact hO.out, hB.out⟩
      case round =>
        clear hO hB
        obtain ⟨b, hb, rfl, hlb, hO, hB⟩ := hrel
        obtain ⟨ov, hov⟩ : ∃ O, O = u3 := ⟨_, rfl⟩
        subst hov
        obtain ⟨oA, oc, hov⟩ := ownP_form hO.out
        subst hov
        obtain ⟨E, hE⟩ : ∃ E, coA R k a ++ coB R a b = E := ⟨_, rfl⟩
        rw [hE] at hO hlb ⊢
        have HE0 := Lib.hid hE
        clear hE
        have hOB : OB wr w.heap.size k (.slice A k c) := (hB.out.block _ (by omega)).trans HO.out
        obtain ⟨d0, d1, _, _⟩ := hOB.facts
        have HCS := Lib.hid (coB_succ R a b)
        by_cases hbk : b < k
        · obtain ⟨gm, cm, hv, _, _⟩ := HMX.out.form (by omega)
          injection hv with hA _ hcm
          have hM2 := HMX.out.below hB.out
          rw [hA] at hM2 d1
          have HM2 := Lib.hid hM2
          obtain ⟨g, hg, hcg⟩ := hM2.cell (i := a) hak
          have hbit := hM2.bit hg hbk
          have hcv0 : cvT M a b 0 = M a b := by unfold cvT; simp
          rw [← hcv0] at hbit
          have HCT := Lib.hid (cvT_succ M a b)
          have HCC := Lib.hid (HCV.out a b)
          have HCBT := Lib.hid (fun t (ht : t < k) => hM2.bit hg ht)
          clear hA hcm hM2 hcv0 hOB
          obtain ⟨wi, hwi⟩ : ∃ W, W = wr := ⟨_, rfl⟩
          subst hwi
          go_wp2_with fail
          go_loopw [6, 7] (fun bv i V => ∃ t : Nat, t ≤ k ∧ i = .int .i64 (t : Int) ∧ bv = .bool (cvT M a b t) ∧ V = wi) (fun _ i _ => k - (intOf i).toNat)
          case atStart => exact ⟨0, Nat.zero_le _, rfl, rfl, rfl⟩
          case round =>
            obtain ⟨t, ht, rfl, hbv, rfl⟩ := hrel
            obtain ⟨bv, hbvv⟩ : ∃ O, O = u6 := ⟨_, rfl⟩
            subst hbvv
            subst hbv
            clear hbit
            by_cases htk : t < k
            · obtain ⟨g2, hg2, hcg2⟩ := HM2.out.cell (i := t) htk
              have hbit1 := HCBT.out t htk
              have hbit2 := HM2.out.bit hg2 hbk
              have hct := HCT.out t
              obtain ⟨b1, hb1⟩ : ∃ b, M a t = b := ⟨_, rfl⟩
              obtain ⟨b2, hb2⟩ : ∃ b', M t b = b' := ⟨_, rfl⟩
              rw [hb1, hb2] at hct
              rw [hb1] at hbit1
              rw [hb2] at hbit2
              clear hb1 hb2 hg2 hg
              cases b1 <;> cases b2
              all_goals
                have HF := Lib.hid hct
                clear hct
                go_wp2_with fail
                go_roundw
                case rel => exact ⟨t + 1, by omega, by go_num, by rw [HF.out]; simp, trivial⟩
                case measure => simp [intOf]; omega
            · obtain rfl : t = k := by omega
              rw [HCC.out]
              have hcs := HCS.out
              have hsr := hB.out.size
              have hE := HE0.out
              have HOW := Lib.hid hO.out
              obtain ⟨bg, hbg⟩ : ∃ b', PO.covB R a b = b' := ⟨_, rfl⟩
              rw [hbg] at hcs ⊢
              cases bg with
              | false =>
                have HE2 := Lib.hid (show coA R t a ++ coB R a (b + 1) = E by rw [hcs, if_neg (by decide), List.append_nil, hE])
                clear hbg hcs hE hO
                go_wp2_with fail
                go_roundw
                case rel => exact ⟨b + 1, by omega, by go_num, by rw [HE2.out]; omega, by rw [HE2.out]; exact HOW.out, hB.out⟩
                case measure => simp [intOf]; omega
              | true =>
                have HE2 := Lib.hid (show coA R t a ++ coB R a (b + 1) = E ++ [(a, b)] by rw [hcs, if_pos rfl, ← List.append_assoc, hE])
                have HOA := Lib.hid (show (wr.alloc (.cells #[.int .i64 (a : Int), .int .i64 (b : Int)] 23)).ownsRow w1.heap.size 23 2 (.slice oA E.length oc) E.length (pc E) from World.ownsRow.alloc HOW.out _)
                clear hbg hcs hO hE
                go_wp2_with (
                   at_builtin
                   refine wpList_append_lies _ rfl (.tmp 53) (.tmp 57) 25 rfl w1.heap.size 23 i0 _ 2 16 Tryd.underlying25 hi0 hz0 hz1 hz2 rfl (by decide) (.slice oA E.length oc) E.length _ rfl HOA.out ⟨wr.heap.size, 0, none⟩ 1 1 [nv a, nv b] rfl rfl (fun j u hu => World.news_of_block (World.alloc_heap_new wr (.cells #[.int .i64 (a : Int), .int .i64 (b : Int)] 23)) j u hu) (by simp [nv, Value.oneCell']) (by decide) (by simp only [maxLen]; omega) (by omega) (by simp; omega) _ rfl ?_
                   intro g7 c7 w7 hown7 hgrow7 hat7 hlt7
                   have hb7 := (hB.out.alloc hsr (.cells #[.int .i64 (a : Int), .int .i64 (b : Int)] 23)).grown hgrow7 (by simp; omega) (fun b e => (World.ownsRow.lt HOA.out b e).1)
                   have ho7 : OwnP w7 w1.heap.size (.slice (some ⟨g7, 0, none⟩) (E.length + 1) c7) (E ++ [(a, b)]) := by
                     unfold OwnP
                     rw [List.length_append, List.length_singleton, pc_snoc]
                     exact hown7
                   have HO7 := Lib.hid ho7
                   have HB7 := Lib.hid hb7
                   clear hown7 hgrow7 hat7 hlt7 hb7 ho7)
                go_roundw
                case rel => exact ⟨b + 1, by omega, by go_num, by rw [HE2.out, List.length_append, List.length_singleton]; omega, by rw [HE2.out]; exact HO7.out, HB7.out⟩
                case measure => simp [intOf]; omega
        · obtain rfl : b = k := by omega
          have HCA := Lib.hid (show coA R b (a + 1) = E by rw [coA_succ]; exact HE0.out)
          clear hOB
          go_wp2_with fail
          go_roundw
          case rel => exact ⟨a + 1, by omega, by go_num, by rw [HCA.out]; omega, by rw [HCA.out]; exact hO.out, hB.out⟩
          case measure => simp [intOf]; omega
    · obtain rfl : a = k := by omega
      have HE := Lib.hid (show coA R a a = PO.covs R by unfold coA PO.covs coB; rw [HRL.out])
      clear hOB
      go_wp2_with fail
      go_ret
      exact ⟨_, rfl, ownP_low (by rw [← HE.out]; exact hO.out) (by omega), HB1.out.trans (hB.out.mono HB1.out.size)⟩
end Go.Proofs.YtlgdcbhdmffnoaaDoor

namespace Go.Proofs.YtlgdcbhdmffnoaaDoor
open Go Go.RowKit Go.Proofs

/-- Block g holds at least n cells of type t. -/
def Cb (W : World) (t : TypeId) (g n : Nat) : Prop := ∃ C : Array Value, W.heap[g]? = some (.cells C t (0, 0)) ∧ n ≤ C.size
section
variable {W W' : World} {t : TypeId} {g n : Nat}
theorem Cb.lt (h : Cb W t g n) : g < W.heap.size := by obtain ⟨C, h1, _⟩ := h; exact heap_lt h1
theorem Cb.cell (h : Cb W t g n) {i : Nat} (hi : i < n) : ∃ u, W.cell? ⟨g, i, none⟩ = some u := by
  obtain ⟨C, h1, h2⟩ := h
  exact ⟨C[i]'(by omega), by rw [cell_of_row W g i _ _ (0, 0) h1]; exact Array.getElem?_eq_getElem (by omega)⟩
theorem Cb.free (h : Cb W t g n) (i : Nat) : W.frozen? ⟨g, i, none⟩ = false := by obtain ⟨C, h1, _⟩ := h; simp [World.frozen?, h1]
theorem Cb.set (h : Cb W t g n) (i : Nat) (u : Value) : Cb (W.setCell ⟨g, i, none⟩ u) t g n := by
  obtain ⟨C, h1, h2⟩ := h
  refine ⟨C.setIfInBounds i u, ?_, by rw [Array.size_setIfInBounds]; exact h2⟩
  simp only [World.setCell, Array.getElem?_modify]
  simp [h1]
theorem Cb.keep (h : Cb W t g n) (hb : Below W.heap.size W W') : Cb W' t g n := by obtain ⟨C, h1, h2⟩ := h; exact ⟨C, (hb.block g (heap_lt h1)).trans h1, h2⟩
theorem Cb.of_own {lo m c s : Nat} {xs : List Value} (h : W.ownsRow lo t s (.slice (some ⟨g, 0, none⟩) m c) m xs) : Cb W t g (m * s) := by
  rcases h.2 with ⟨e, _⟩ | ⟨g', cap, cur, e, _, h2, h3, h4, h5, h6⟩
  · cases e
  · injection e with e1 e2 e3
    injection e1 with e1
    injection e1 with e1 e4
    subst e1
    subst e3
    exact ⟨cur, h2, by have : m * s ≤ c * s := Nat.mul_le_mul_right _ h3; omega⟩
theorem ne_of_cb {b : Nat} {C : Array Value} {t' : TypeId} {f : Nat × Nat} (h : Cb W t g n) (h' : W.heap[b]? = some (.cells C t' f)) (ht : t' ≠ t) : b ≠ g := by
  obtain ⟨D, h1, _⟩ := h
  exact heapT_ne h' h1 ht
end
section
variable {w V : World} {t : TypeId} {g n i hi lo p b k : Nat} {v u : Value} {R gs : List Nat} {M : Nat → Nat → Bool}
theorem Od.setCb (h : Od V hi p R) (hc : Cb V t g n) (h1 : 68 ≠ t) (h2 : 70 ≠ t) (h3 : 78 ≠ t) : Od (V.setCell ⟨g, i, none⟩ u) hi p R := by
  obtain ⟨h0, ga, ws, hp, ha⟩ := h
  exact ⟨h0, ga, ws, (Below.heap_setCell V ⟨g, i, none⟩ _ p (ne_of_cb hc hp h1)).trans hp, ha.len, (Below.heap_setCell V ⟨g, i, none⟩ _ ga (ne_of_cb hc ha.blk h2)).trans ha.blk, ha.gin,
    fun j x m hx hm => (ha.row j x m hx hm).keep (Below.heap_setCell V ⟨g, i, none⟩ _ x (ne_of_cb hc (ha.row j x m hx hm).2.2 h3)), ha.inn⟩
theorem Mx.setCb (h : Mx V lo v k k gs M) (hc : Cb V t g n) (h1 : 76 ≠ t) (h2 : 4 ≠ t) : Mx (V.setCell ⟨g, i, none⟩ u) lo v k k gs M := by
  refine ⟨own_of_block h.own fun x hx => Below.heap_setCell V ⟨g, i, none⟩ _ x ?_, fun j x hx => (Below.heap_setCell V ⟨g, i, none⟩ _ x (ne_of_cb hc (h.row j x hx) h2)).trans (h.row j x hx), h.low, h.nodup⟩
  rcases h.own.2 with ⟨e, _⟩ | ⟨g2, cap, cur, e, _, h2, _⟩
  · rw [e] at hx; cases hx
  · rw [e] at hx
    have e2 : some g2 = some x := hx
    injection e2 with e2
    subst e2
    exact ne_of_cb hc h2 h1
theorem OB.setCb (h : OB V b k v) (hc : Cb V t g n) (h1 : 33 ≠ t) : OB (V.setCell ⟨g, i, none⟩ u) b k v := (Below.heap_setCell V ⟨g, i, none⟩ _ b (ne_of_cb hc h h1)).trans h
/-- A store into a block of pairs or of integers, above what the law got. -/
theorem Gd.setCb (h : Gd w V p b k v R gs M) (hc : Cb V t g n) (hg : w.heap.size ≤ g) (ht : t = 3 ∨ t = 23) (i : Nat) (u : Value) : Gd w (V.setCell ⟨g, i, none⟩ u) p b k v R gs M := by
  have hs : (V.setCell ⟨g, i, none⟩ u).heap.size = V.heap.size := by simp [World.setCell]
  refine ⟨?_, ?_, ?_, h.bel.setCell (p := ⟨g, i, none⟩) hg u, h.low⟩
  · rw [hs]
    rcases ht with rfl | rfl
    · exact h.od.setCb hc (by decide) (by decide) (by decide)
    · exact h.od.setCb hc (by decide) (by decide) (by decide)
  · rcases ht with rfl | rfl
    · exact h.ob.setCb hc (by decide)
    · exact h.ob.setCb hc (by decide)
  · rcases ht with rfl | rfl
    · exact h.mx.setCb hc (by decide) (by decide)
    · exact h.mx.setCb hc (by decide) (by decide)
end
end Go.Proofs.YtlgdcbhdmffnoaaDoor
