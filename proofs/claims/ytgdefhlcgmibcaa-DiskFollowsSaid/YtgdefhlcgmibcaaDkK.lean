/-
  The reference's Ops. Condition: the numbers are ints.
-/
import Derived.Test.YtgdefhlcgmibcaaDkJ
namespace Go.Proofs.Ytgdefhlcgmibcaa
open Go Go.RowKit Go.Proofs
attribute [local go_sem] Oper.semAt_some

/-- An own row of operations grows: what operations there were, and a list of truths, stay. -/
theorem ops_grown {V V' : World} {base lo lo2 n kc J : Nat} {x : Value} {vs us : List Value} {os : List DK.Op} {K : Option Addr} {bs : List Bool} (ho : V.ownsRow base 33 4 x n us) (hg : V.grownBy V' x.ownBlock) (h1 : OpsV lo V os vs) (h2 : Bls lo2 V K J kc bs) : OpsV lo V' os vs ∧ Bls lo2 V' K J kc bs := by
  have key : ∀ {lo J kc : Nat} {K : Option Addr} {bs : List Bool}, Bls lo V K J kc bs → Bls lo V' K J kc bs := fun h => Rw.keepTo h (fun g C hc _ => hg.block g (blk_lt hc) (fun e => by
    rcases ho.2 with ⟨rfl, _⟩ | ⟨g', cap, cur, rfl, _, h3, _⟩
    · cases e
    · injection e with e
      subst e
      rw [hc] at h3
      injection h3 with h3
      injection h3 with _ h3
      exact absurd h3 (by decide))) (Nat.le_refl _)
  refine ⟨?_, key h2⟩
  clear h2
  induction os generalizing vs with
  | nil => exact h1
  | cons o os ih =>
    obtain ⟨K', kc', vs', e, h3, h4⟩ := h1
    exact ⟨K', kc', vs', e, key h3, ih h4⟩
theorem own_other {V V' : World} {t : TypeId} {sz base G n : Nat} {x : Value} {vs : List Value} (h : V.ownsRow base t sz x n vs) (ho : ∀ b, b ≠ G → V'.heap[b]? = V.heap[b]?) (hG : G < base) : V'.ownsRow base t sz x n vs := by
  refine ⟨h.1, ?_⟩
  rcases h.2 with h0 | ⟨g, cap, cur, e, h1, h2, h3⟩
  · exact .inl h0
  · exact .inr ⟨g, cap, cur, e, h1, (ho g (by omega)).trans h2, h3⟩
set_option maxHeartbeats 8000000 in
set_option maxRecDepth 100000 in
theorem ops_any {A : Option Addr} {n c : Nat} {zs : List Int} (w : World) (hz : Ints .i64 w.heap.size w A n zs) (h64 : ∀ x ∈ zs, I64 x) :
    Calls Try.prog 14 #[.slice A n c] w fun e w' => (∃ B r, e = .returned (.slice B (DK.ops zs).length r) ∧ OpsAt w.heap.size w' B (DK.ops zs).length r (DK.ops zs)) ∧ Below w.heap.size w w' := by
  obtain ⟨i0, hi, hz0, hz1, hz2⟩ := dk_info dk_op
  obtain ⟨i1, hi1, hy0, hy1, hy2⟩ := dk_info dk_bool
  have HZ := Lib.hid hz
  have HN := Lib.hid (And.intro hz.len h64)
  have HI := Lib.hid (And.intro hi (And.intro hz0 (And.intro hz1 hz2)))
  have HJ := Lib.hid (And.intro hi1 (And.intro hy0 (And.intro hy1 hy2)))
  clear hz hi hz0 hz1 hz2 hi1 hy0 hy1 hy2 h64
  go_enter Try.func14, Try.ntmps14
  go_wp2_with fail
  go_loopw [3, 4] (fun o i V => ∃ (k : Nat) (vs : List Value), k ≤ n ∧ k ≤ 20 ∧ i = .int .i64 (k : Int) ∧ (∃ B r, o = .slice B k r) ∧ Hid (V.ownsRow w.heap.size 33 4 o k vs) ∧ Hid (OpsV w.heap.size V ((zs.take k).map fun x => DK.opOf (around x 1000000)) vs) ∧ Hid (Below w.heap.size w V)) (fun _ i _ => 20 - (intOf i).toNat)
  case atStart => exact ⟨0, [], by omega, by omega, rfl, ⟨none, 0, rfl⟩, ⟨rfl, .inl ⟨rfl, rfl⟩⟩, rfl, Below.refl _ _⟩
  case round =>
    obtain ⟨k, vs, hk, hk20, rfl, ⟨B, r, rfl⟩, HO, HV, HB⟩ := hrel
    have HE := Lib.hid (show k = n ∨ k = 20 → (zs.take k).map (fun x => DK.opOf (around x 1000000)) = DK.ops zs ∧ k = (DK.ops zs).length from fun h => by
      have hl := HN.out.1
      have e : zs.take k = zs.take 20 := by
        rcases h with rfl | rfl
        · rw [List.take_of_length_le (by omega), List.take_of_length_le (by omega)]
        · rfl
      refine ⟨by rw [e]; rfl, ?_⟩
      unfold DK.ops
      rw [List.length_map, ← e, List.length_take]
      omega)
    by_cases hin : k < n
    · have dk : decide (k < n) = true := decide_eq_true hin
      by_cases hin2 : k < 20
      · have dk2 : decide (k < 20) = true := decide_eq_true hin2
        obtain ⟨b, off, rfl, hb, hc⟩ := HZ.out.at_ (by omega)
        have hck := (HB.out.cell (p := ⟨b, off + k, none⟩) hb).trans (hc k hin)
        obtain ⟨z, hzk⟩ : ∃ z, zs[k]? = some z := ⟨_, List.getElem?_eq_getElem (by rw [HN.out.1]; exact hin)⟩
        rw [hzk] at hck
        have hck : wr.cell? ⟨b, off + k, none⟩ = some (.int .i64 z) := hck
        have HA := Lib.hid (fun V => around_any z 1000000 (HN.out.2 z (List.mem_of_getElem? hzk)) (by omega) (by omega) V)
        obtain ⟨N, hN⟩ : ∃ N : Nat, around z 1000000 = (N : Int) := ⟨_, (Int.toNat_of_nonneg (around_in z 1000000 (by omega)).1).symm⟩
        have hN2 : N < 1000000 := by have := (around_in z 1000000 (by omega)).2; omega
        have HT := Lib.hid (show (zs.take (k + 1)).map (fun x => DK.opOf (around x 1000000)) = (zs.take k).map (fun x => DK.opOf (around x 1000000)) ++ [DK.opOf (N : Int)] by rw [List.take_add_one, hzk, List.map_append, ← hN]; rfl)
        rw [hN] at HA
        clear hc hb hzk hN HE
        go_upto_region 6 with (go_at_call 11; refine (HA.out _).mono ?_; rintro e w2 ⟨rfl, rfl⟩)
        go_upto_region 7 with fail
        obtain ⟨a, ha⟩ : ∃ a, (N : Int) / 16 % 7 - 1 = a := ⟨_, rfl⟩
        obtain ⟨d, hd⟩ : ∃ d, (N : Int) / 112 % 9 - 4 = d := ⟨_, rfl⟩
        rw [ha, hd]
        obtain ⟨Z, hZ⟩ : ∃ Z, wr.alloc (.cells #[.int .i64 0, .int .i64 a, .int .i64 d, .slice none 0 0] 33) = Z := ⟨_, rfl⟩
        have HBZ := Lib.hid (show Below wr.heap.size wr Z from hZ ▸ dk_box wr _)
        have HKZ := Lib.hid (show Z.heap[wr.heap.size]? = some (.cells #[.int .i64 0, .int .i64 a, .int .i64 d, .slice none 0 0] 33 (0, 0)) by rw [← hZ]; exact dk_new_at rfl)
        rw [hZ]
        have HAD := Lib.hid (And.intro ha hd)
        clear hZ ha hd hck
        by_cases h0 : N % 16 = 0
        · have q0 : ((N : Int) % 16 == 0) = true := by simp; omega
          have q1 : ((N : Int) % 16 == 1) = false := by simp; omega
          have q2 : ((N : Int) % 16 == 2) = false := by simp; omega
          have q3 : ((N : Int) % 16 == 3) = false := by simp; omega
          have HOP := Lib.hid (show DK.opOf (N : Int) = ⟨1, a, d, []⟩ by unfold DK.opOf; rw [if_pos (by omega), HAD.out.1, HAD.out.2])
          clear HAD
          go_upto_region 18 with (refine RgX.wpList_store_seg rfl 3 _ _ rfl wr.heap.size 0 (.int .i64 1) rfl rfl 33 _ HKZ.out dk_sz_int (by show 0 + 1 ≤ 4; omega) (by simp [Value.cells, Value.oneCell']) #[.int .i64 1, .int .i64 a, .int .i64 d, .slice none 0 0] rfl ?_; intro Z2 kZ2 hoZ2 hzZ2 hbZ2)
          obtain ⟨Zf, hZf⟩ : ∃ Zf, Zf = Z2 := ⟨_, rfl⟩
          subst hZf
          have HKf := Lib.hid kZ2
          have HBf := Lib.hid (HBZ.out.trans hbZ2)
          clear kZ2 hoZ2 hzZ2 hbZ2
          have HBL := Lib.hid (show Bls w.heap.size Zf none 0 0 [] from Rw.nil _ _ _ _)
          obtain ⟨x0, x1, x2, x3⟩ := dk_four HKf.out
          obtain ⟨Y, hY⟩ : ∃ Y, Zf.alloc (.cells #[.int .i64 1, .int .i64 a, .int .i64 d, .slice none 0 0] 33) = Y := ⟨_, rfl⟩
          have hbY : Below Zf.heap.size Zf Y := hY ▸ dk_box Zf _
          have hy := dk_four (show Y.heap[Zf.heap.size]? = some (.cells #[.int .i64 1, .int .i64 a, .int .i64 d, .slice none 0 0] 33 (0, 0)) by rw [← hY]; exact dk_new_at rfl)
          have hsrc : RgX.Src Y (some ⟨Zf.heap.size, 0, none⟩) 1 1 [.int .i64 1, .int .i64 a, .int .i64 d, .slice none 0 0] := .inr ⟨_, rfl, fun j u hu => by
            match j, hu with
            | 0, hu => injection hu with hu; subst hu; exact hy.1
            | 1, hu => injection hu with hu; subst hu; exact hy.2.1
            | 2, hu => injection hu with hu; subst hu; exact hy.2.2.1
            | 3, hu => injection hu with hu; subst hu; exact hy.2.2.2⟩
          have hbw := (HBf.out.trans (hbY.mono HBf.out.size))
          have HY := Lib.hid (And.intro (dk_own_keep HO.out hbw) (And.intro hsrc (And.intro (HB.out.trans (hbw.mono HB.out.size)) (And.intro (HB.out.trans (hbw.mono HB.out.size)).size (And.intro hbw hbY)))))
          have H1 := Lib.hid (show ∀ u ∈ [Value.int .i64 1, .int .i64 a, .int .i64 d, .slice none 0 0], u.oneCell' = true by intro u hu; simp at hu; rcases hu with rfl | rfl | rfl | rfl <;> rfl)
          have HM := Lib.hid (And.intro (show k + 1 ≤ maxLen by simp only [maxLen]; omega) (show (k + 1) * 48 ≤ 140737488355328 by omega))
          clear hbY hy hsrc hbw
          go_wp2_with (at_builtin; refine RgX.wpList_append_any rfl _ _ 28 rfl w.heap.size 33 i0 _ 4 48 Try.underlying28 HI.out.1 HI.out.2.1 HI.out.2.2.1 HI.out.2.2.2 rfl (by decide) _ k vs rfl HY.out.1 (some ⟨Zf.heap.size, 0, none⟩) 1 1 [Value.int .i64 1, .int .i64 a, .int .i64 d, .slice none 0 0] rfl rfl HY.out.2.1 H1.out HM.out.1 HM.out.2 HY.out.2.2.2.1 ?_; intro B9 r9 Z9 ho9 hg9)
          go_roundw
          case rel =>
            have hbb := dk_grown HY.out.1 HY.out.2.2.1 hg9 HY.out.2.2.2.1
            obtain ⟨q1, q2⟩ := ops_grown HY.out.1 hg9 (HV.out.keep HY.out.2.2.2.2.1) (HBL.out.keep HY.out.2.2.2.2.2)
            exact ⟨k + 1, vs ++ [Value.int .i64 1, .int .i64 a, .int .i64 d, .slice none 0 0], by omega, by omega, by go_num, ⟨B9, r9, rfl⟩, ho9, show OpsV _ _ _ _ by rw [HT.out, HOP.out]; exact OpsV.snoc (o := ⟨1, a, d, []⟩) q2 q1, hbb⟩
          case measure => simp [intOf]; omega
        · have q0 : ((N : Int) % 16 == 0) = false := by simp; omega
          by_cases h12 : N % 16 = 1 ∨ N % 16 = 2
          · rcases h12 with h1 | h1
            · have q1 : ((N : Int) % 16 == 1) = true := by simp; omega
              have q2 : ((N : Int) % 16 == 2) = false := by simp; omega
              have q3 : ((N : Int) % 16 == 3) = false := by simp; omega
              have HOP := Lib.hid (show DK.opOf (N : Int) = ⟨2, a, d, DK.bitsOf (N : Int) (N / 16 % 6)⟩ by unfold DK.opOf; rw [if_neg (by omega), if_pos (by omega), HAD.out.1, HAD.out.2, show ((N : Int) / 16 % 6).toNat = N / 16 % 6 by omega])
              clear HAD
              go_wp2_with (refine RgX.wpList_store_seg rfl 3 _ _ rfl wr.heap.size 0 (.int .i64 2) rfl rfl 33 _ HKZ.out dk_sz_int (by show 0 + 1 ≤ 4; omega) (by simp [Value.cells, Value.oneCell']) #[.int .i64 2, .int .i64 a, .int .i64 d, .slice none 0 0] rfl ?_; intro Z2 kZ2 hoZ2 hzZ2 hbZ2)
              have HKL := Lib.hid kZ2
              have HBL0 := Lib.hid (HBZ.out.trans hbZ2)
              clear kZ2 hoZ2 hzZ2 hbZ2
              have hJ : N / 16 % 6 < 6 := Nat.mod_lt _ (by omega)
              obtain ⟨wo, hwo⟩ : ∃ W, W = wr := ⟨_, rfl⟩
              subst hwo
              go_loopw [7] (fun i V => ∃ (j kc : Nat) (K : Option Addr), j ≤ N / 16 % 6 ∧ i = .int .i64 (j : Int) ∧ Hid (V.heap[wo.heap.size]? = some (.cells #[.int .i64 2, .int .i64 a, .int .i64 d, .slice K j kc] 33 (0, 0))) ∧ Hid (V.ownsRow (wo.heap.size + 1) 4 1 (.slice K j kc) j (DK.blsC (DK.bitsOf (N : Int) j))) ∧ Hid (Below wo.heap.size wo V)) (fun i _ => 6 - (intOf i).toNat)
              case atStart => exact ⟨0, 0, none, by omega, rfl, HKL.out, ⟨rfl, .inl ⟨rfl, rfl⟩⟩, HBL0.out⟩
              case round =>
                obtain ⟨j, kc, K, hj, rfl, HKj, HOj, HVj⟩ := hrel
                by_cases hjn : j < N / 16 % 6
                · have dj : decide (j < N / 16 % 6) = true := decide_eq_true hjn
                  have dj2 : decide ((j : Int) < (N : Int) / 16 % 6) = true := decide_eq_true (by omega)
                  obtain ⟨y0, y1, y2, y3⟩ := dk_four HKj.out
                  obtain ⟨Y, hY⟩ : ∃ Y, wr.alloc (.cells #[.bool (((N : Int) / 1000 / 2 ^ j).tmod 2 == 1)] 4) = Y := ⟨_, rfl⟩
                  have hbY : Below wr.heap.size wr Y := hY ▸ dk_box wr _
                  have kY : Y.heap[wr.heap.size]? = some (.cells #[.bool (((N : Int) / 1000 / 2 ^ j).tmod 2 == 1)] 4 (0, 0)) := by rw [← hY]; exact dk_new_at rfl
                  have hsrc : RgX.Src Y (some ⟨wr.heap.size, 0, none⟩) 1 1 [.bool (((N : Int) / 1000 / 2 ^ j).tmod 2 == 1)] := .inr ⟨_, rfl, fun j u hu => by
                    match j, hu with
                    | 0, hu => injection hu with hu; subst hu; exact cell_of_row Y wr.heap.size 0 _ _ (0, 0) kY⟩
                  have hlt := blk_lt HKj.out
                  have HY := Lib.hid (And.intro (dk_own_keep HOj.out hbY) (And.intro hsrc (And.intro (HVj.out.trans (hbY.mono HVj.out.size)) (And.intro (show wo.heap.size + 1 ≤ Y.heap.size by have := hbY.size; omega) ((hbY.block _ hlt).trans HKj.out)))))
                  have HM := Lib.hid (And.intro (show j + 1 ≤ maxLen by simp only [maxLen]; omega) (show (j + 1) * 1 ≤ 140737488355328 by omega))
                  have H1 := Lib.hid (show ∀ u ∈ [Value.bool (((N : Int) / 1000 / 2 ^ j).tmod 2 == 1)], u.oneCell' = true by intro u hu; simp at hu; rw [hu]; rfl)
                  clear hbY kY hsrc
                  go_wp2_with (first | (at_builtin; refine RgX.wpList_append_any rfl _ _ 31 rfl (wo.heap.size + 1) 4 i1 _ 1 1 Try.underlying31 HJ.out.1 HJ.out.2.1 HJ.out.2.2.1 HJ.out.2.2.2 rfl (by decide) _ j (DK.blsC (DK.bitsOf (N : Int) j)) rfl HY.out.1 (some ⟨wr.heap.size, 0, none⟩) 1 1 [.bool (((N : Int) / 1000 / 2 ^ j).tmod 2 == 1)] rfl rfl HY.out.2.1 H1.out HM.out.1 HM.out.2 HY.out.2.2.2.1 ?_; intro K2 kc2 Z5 ho5 hg5; have HG5 := Lib.hid (And.intro ho5 (And.intro ((HY.out.2.2.1).grown hg5 (by have := HY.out.2.2.2.1; omega) (fun k hk => by have := (World.ownsRow.lt HY.out.1 k hk).1; omega)) ((hg5.block _ (by have := HY.out.2.2.2.1; omega) (fun e => by have := (World.ownsRow.lt HY.out.1 _ e.symm).1; omega)).trans HY.out.2.2.2.2))); clear ho5 hg5) | (refine RgX.wpList_store_seg rfl 31 _ _ rfl wo.heap.size 3 (.slice K2 (j + 1) kc2) rfl rfl 33 _ HG5.out.2.2 dk_sz_bools (by show 3 + 1 ≤ 4; omega) (by simp [Value.cells, Value.oneCell']) #[.int .i64 2, .int .i64 a, .int .i64 d, .slice K2 (j + 1) kc2] rfl ?_; intro Z6 k6 ho6 hz6 hb6))
                  go_roundw
                  case rel => exact ⟨j + 1, kc2, K2, by omega, by go_num, k6, show World.ownsRow _ _ _ _ _ _ _ from own_other (by have := HG5.out.1; unfold DK.bitsOf; unfold DK.blsC at this ⊢; rw [List.map_append]; exact this) ho6 (by omega), HG5.out.2.1.trans hb6⟩
                  case measure => simp [intOf]; omega
                · have hjj : j = N / 16 % 6 := by omega
                  have dj : decide (j < N / 16 % 6) = false := decide_eq_false hjn
                  have dj2 : decide ((j : Int) < (N : Int) / 16 % 6) = false := decide_eq_false (by omega)
                  go_upto_region 18 with fail
                  obtain ⟨bs, hbs⟩ : ∃ bs, DK.bitsOf (N : Int) (N / 16 % 6) = bs := ⟨_, rfl⟩
                  have hbl : bs.length = N / 16 % 6 := by rw [← hbs, DK.bits_len]
                  rw [hbs] at HOP
                  rw [hjj, hbs] at HOj
                  rw [← hbl] at hjj HOj
                  subst hjj
                  obtain ⟨Zf, hZf⟩ : ∃ Zf, Zf = wr := ⟨_, rfl⟩
                  subst hZf
                  have HKf := Lib.hid HKj.out
                  have HBf := Lib.hid HVj.out
                  have HBL := Lib.hid (show Bls w.heap.size Zf K bs.length kc bs from Rw.more (Rw.of_own HOj.out) (by have := HB.out.size; omega))
                  clear dj dj2 hjn hj HKj HVj hbl hbs
                  obtain ⟨x0, x1, x2, x3⟩ := dk_four HKf.out
                  obtain ⟨Y, hY⟩ : ∃ Y, Zf.alloc (.cells #[.int .i64 2, .int .i64 a, .int .i64 d, .slice K bs.length kc] 33) = Y := ⟨_, rfl⟩
                  have hbY : Below Zf.heap.size Zf Y := hY ▸ dk_box Zf _
                  have hy := dk_four (show Y.heap[Zf.heap.size]? = some (.cells #[.int .i64 2, .int .i64 a, .int .i64 d, .slice K bs.length kc] 33 (0, 0)) by rw [← hY]; exact dk_new_at rfl)
                  have hsrc : RgX.Src Y (some ⟨Zf.heap.size, 0, none⟩) 1 1 [.int .i64 2, .int .i64 a, .int .i64 d, .slice K bs.length kc] := .inr ⟨_, rfl, fun j u hu => by
                    match j, hu with
                    | 0, hu => injection hu with hu; subst hu; exact hy.1
                    | 1, hu => injection hu with hu; subst hu; exact hy.2.1
                    | 2, hu => injection hu with hu; subst hu; exact hy.2.2.1
                    | 3, hu => injection hu with hu; subst hu; exact hy.2.2.2⟩
                  have hbw := (HBf.out.trans (hbY.mono HBf.out.size))
                  have HY := Lib.hid (And.intro (dk_own_keep HO.out hbw) (And.intro hsrc (And.intro (HB.out.trans (hbw.mono HB.out.size)) (And.intro (HB.out.trans (hbw.mono HB.out.size)).size (And.intro hbw hbY)))))
                  have H1 := Lib.hid (show ∀ u ∈ [Value.int .i64 2, .int .i64 a, .int .i64 d, .slice K bs.length kc], u.oneCell' = true by intro u hu; simp at hu; rcases hu with rfl | rfl | rfl | rfl <;> rfl)
                  have HM := Lib.hid (And.intro (show k + 1 ≤ maxLen by simp only [maxLen]; omega) (show (k + 1) * 48 ≤ 140737488355328 by omega))
                  clear hbY hy hsrc hbw
                  go_wp2_with (at_builtin; refine RgX.wpList_append_any rfl _ _ 28 rfl w.heap.size 33 i0 _ 4 48 Try.underlying28 HI.out.1 HI.out.2.1 HI.out.2.2.1 HI.out.2.2.2 rfl (by decide) _ k vs rfl HY.out.1 (some ⟨Zf.heap.size, 0, none⟩) 1 1 [Value.int .i64 2, .int .i64 a, .int .i64 d, .slice K bs.length kc] rfl rfl HY.out.2.1 H1.out HM.out.1 HM.out.2 HY.out.2.2.2.1 ?_; intro B9 r9 Z9 ho9 hg9)
                  go_roundw
                  case rel =>
                    have hbb := dk_grown HY.out.1 HY.out.2.2.1 hg9 HY.out.2.2.2.1
                    obtain ⟨q1, q2⟩ := ops_grown HY.out.1 hg9 (HV.out.keep HY.out.2.2.2.2.1) (HBL.out.keep HY.out.2.2.2.2.2)
                    exact ⟨k + 1, vs ++ [Value.int .i64 2, .int .i64 a, .int .i64 d, .slice K bs.length kc], by omega, by omega, by go_num, ⟨B9, r9, rfl⟩, ho9, show OpsV _ _ _ _ by rw [HT.out, HOP.out]; exact OpsV.snoc (o := ⟨2, a, d, bs⟩) q2 q1, hbb⟩
                  case measure => simp [intOf]; omega
            · have q1 : ((N : Int) % 16 == 1) = false := by simp; omega
              have q2 : ((N : Int) % 16 == 2) = true := by simp; omega
              have q3 : ((N : Int) % 16 == 3) = false := by simp; omega
              have HOP := Lib.hid (show DK.opOf (N : Int) = ⟨2, a, d, DK.bitsOf (N : Int) (N / 16 % 6)⟩ by unfold DK.opOf; rw [if_neg (by omega), if_pos (by omega), HAD.out.1, HAD.out.2, show ((N : Int) / 16 % 6).toNat = N / 16 % 6 by omega])
              clear HAD
              go_wp2_with (refine RgX.wpList_store_seg rfl 3 _ _ rfl wr.heap.size 0 (.int .i64 2) rfl rfl 33 _ HKZ.out dk_sz_int (by show 0 + 1 ≤ 4; omega) (by simp [Value.cells, Value.oneCell']) #[.int .i64 2, .int .i64 a, .int .i64 d, .slice none 0 0] rfl ?_; intro Z2 kZ2 hoZ2 hzZ2 hbZ2)
              have HKL := Lib.hid kZ2
              have HBL0 := Lib.hid (HBZ.out.trans hbZ2)
              clear kZ2 hoZ2 hzZ2 hbZ2
              have hJ : N / 16 % 6 < 6 := Nat.mod_lt _ (by omega)
              obtain ⟨wo, hwo⟩ : ∃ W, W = wr := ⟨_, rfl⟩
              subst hwo
              go_loopw [7] (fun i V => ∃ (j kc : Nat) (K : Option Addr), j ≤ N / 16 % 6 ∧ i = .int .i64 (j : Int) ∧ Hid (V.heap[wo.heap.size]? = some (.cells #[.int .i64 2, .int .i64 a, .int .i64 d, .slice K j kc] 33 (0, 0))) ∧ Hid (V.ownsRow (wo.heap.size + 1) 4 1 (.slice K j kc) j (DK.blsC (DK.bitsOf (N : Int) j))) ∧ Hid (Below wo.heap.size wo V)) (fun i _ => 6 - (intOf i).toNat)
              case atStart => exact ⟨0, 0, none, by omega, rfl, HKL.out, ⟨rfl, .inl ⟨rfl, rfl⟩⟩, HBL0.out⟩
              case round =>
                obtain ⟨j, kc, K, hj, rfl, HKj, HOj, HVj⟩ := hrel
                by_cases hjn : j < N / 16 % 6
                · have dj : decide (j < N / 16 % 6) = true := decide_eq_true hjn
                  have dj2 : decide ((j : Int) < (N : Int) / 16 % 6) = true := decide_eq_true (by omega)
                  obtain ⟨y0, y1, y2, y3⟩ := dk_four HKj.out
                  obtain ⟨Y, hY⟩ : ∃ Y, wr.alloc (.cells #[.bool (((N : Int) / 1000 / 2 ^ j).tmod 2 == 1)] 4) = Y := ⟨_, rfl⟩
                  have hbY : Below wr.heap.size wr Y := hY ▸ dk_box wr _
                  have kY : Y.heap[wr.heap.size]? = some (.cells #[.bool (((N : Int) / 1000 / 2 ^ j).tmod 2 == 1)] 4 (0, 0)) := by rw [← hY]; exact dk_new_at rfl
                  have hsrc : RgX.Src Y (some ⟨wr.heap.size, 0, none⟩) 1 1 [.bool (((N : Int) / 1000 / 2 ^ j).tmod 2 == 1)] := .inr ⟨_, rfl, fun j u hu => by
                    match j, hu with
                    | 0, hu => injection hu with hu; subst hu; exact cell_of_row Y wr.heap.size 0 _ _ (0, 0) kY⟩
                  have hlt := blk_lt HKj.out
                  have HY := Lib.hid (And.intro (dk_own_keep HOj.out hbY) (And.intro hsrc (And.intro (HVj.out.trans (hbY.mono HVj.out.size)) (And.intro (show wo.heap.size + 1 ≤ Y.heap.size by have := hbY.size; omega) ((hbY.block _ hlt).trans HKj.out)))))
                  have HM := Lib.hid (And.intro (show j + 1 ≤ maxLen by simp only [maxLen]; omega) (show (j + 1) * 1 ≤ 140737488355328 by omega))
                  have H1 := Lib.hid (show ∀ u ∈ [Value.bool (((N : Int) / 1000 / 2 ^ j).tmod 2 == 1)], u.oneCell' = true by intro u hu; simp at hu; rw [hu]; rfl)
                  clear hbY kY hsrc
                  go_wp2_with (first | (at_builtin; refine RgX.wpList_append_any rfl _ _ 31 rfl (wo.heap.size + 1) 4 i1 _ 1 1 Try.underlying31 HJ.out.1 HJ.out.2.1 HJ.out.2.2.1 HJ.out.2.2.2 rfl (by decide) _ j (DK.blsC (DK.bitsOf (N : Int) j)) rfl HY.out.1 (some ⟨wr.heap.size, 0, none⟩) 1 1 [.bool (((N : Int) / 1000 / 2 ^ j).tmod 2 == 1)] rfl rfl HY.out.2.1 H1.out HM.out.1 HM.out.2 HY.out.2.2.2.1 ?_; intro K2 kc2 Z5 ho5 hg5; have HG5 := Lib.hid (And.intro ho5 (And.intro ((HY.out.2.2.1).grown hg5 (by have := HY.out.2.2.2.1; omega) (fun k hk => by have := (World.ownsRow.lt HY.out.1 k hk).1; omega)) ((hg5.block _ (by have := HY.out.2.2.2.1; omega) (fun e => by have := (World.ownsRow.lt HY.out.1 _ e.symm).1; omega)).trans HY.out.2.2.2.2))); clear ho5 hg5) | (refine RgX.wpList_store_seg rfl 31 _ _ rfl wo.heap.size 3 (.slice K2 (j + 1) kc2) rfl rfl 33 _ HG5.out.2.2 dk_sz_bools (by show 3 + 1 ≤ 4; omega) (by simp [Value.cells, Value.oneCell']) #[.int .i64 2, .int .i64 a, .int .i64 d, .slice K2 (j + 1) kc2] rfl ?_; intro Z6 k6 ho6 hz6 hb6))
                  go_roundw
                  case rel => exact ⟨j + 1, kc2, K2, by omega, by go_num, k6, show World.ownsRow _ _ _ _ _ _ _ from own_other (by have := HG5.out.1; unfold DK.bitsOf; unfold DK.blsC at this ⊢; rw [List.map_append]; exact this) ho6 (by omega), HG5.out.2.1.trans hb6⟩
                  case measure => simp [intOf]; omega
                · have hjj : j = N / 16 % 6 := by omega
                  have dj : decide (j < N / 16 % 6) = false := decide_eq_false hjn
                  have dj2 : decide ((j : Int) < (N : Int) / 16 % 6) = false := decide_eq_false (by omega)
                  go_upto_region 18 with fail
                  obtain ⟨bs, hbs⟩ : ∃ bs, DK.bitsOf (N : Int) (N / 16 % 6) = bs := ⟨_, rfl⟩
                  have hbl : bs.length = N / 16 % 6 := by rw [← hbs, DK.bits_len]
                  rw [hbs] at HOP
                  rw [hjj, hbs] at HOj
                  rw [← hbl] at hjj HOj
                  subst hjj
                  obtain ⟨Zf, hZf⟩ : ∃ Zf, Zf = wr := ⟨_, rfl⟩
                  subst hZf
                  have HKf := Lib.hid HKj.out
                  have HBf := Lib.hid HVj.out
                  have HBL := Lib.hid (show Bls w.heap.size Zf K bs.length kc bs from Rw.more (Rw.of_own HOj.out) (by have := HB.out.size; omega))
                  clear dj dj2 hjn hj HKj HVj hbl hbs
                  obtain ⟨x0, x1, x2, x3⟩ := dk_four HKf.out
                  obtain ⟨Y, hY⟩ : ∃ Y, Zf.alloc (.cells #[.int .i64 2, .int .i64 a, .int .i64 d, .slice K bs.length kc] 33) = Y := ⟨_, rfl⟩
                  have hbY : Below Zf.heap.size Zf Y := hY ▸ dk_box Zf _
                  have hy := dk_four (show Y.heap[Zf.heap.size]? = some (.cells #[.int .i64 2, .int .i64 a, .int .i64 d, .slice K bs.length kc] 33 (0, 0)) by rw [← hY]; exact dk_new_at rfl)
                  have hsrc : RgX.Src Y (some ⟨Zf.heap.size, 0, none⟩) 1 1 [.int .i64 2, .int .i64 a, .int .i64 d, .slice K bs.length kc] := .inr ⟨_, rfl, fun j u hu => by
                    match j, hu with
                    | 0, hu => injection hu with hu; subst hu; exact hy.1
                    | 1, hu => injection hu with hu; subst hu; exact hy.2.1
                    | 2, hu => injection hu with hu; subst hu; exact hy.2.2.1
                    | 3, hu => injection hu with hu; subst hu; exact hy.2.2.2⟩
                  have hbw := (HBf.out.trans (hbY.mono HBf.out.size))
                  have HY := Lib.hid (And.intro (dk_own_keep HO.out hbw) (And.intro hsrc (And.intro (HB.out.trans (hbw.mono HB.out.size)) (And.intro (HB.out.trans (hbw.mono HB.out.size)).size (And.intro hbw hbY)))))
                  have H1 := Lib.hid (show ∀ u ∈ [Value.int .i64 2, .int .i64 a, .int .i64 d, .slice K bs.length kc], u.oneCell' = true by intro u hu; simp at hu; rcases hu with rfl | rfl | rfl | rfl <;> rfl)
                  have HM := Lib.hid (And.intro (show k + 1 ≤ maxLen by simp only [maxLen]; omega) (show (k + 1) * 48 ≤ 140737488355328 by omega))
                  clear hbY hy hsrc hbw
                  go_wp2_with (at_builtin; refine RgX.wpList_append_any rfl _ _ 28 rfl w.heap.size 33 i0 _ 4 48 Try.underlying28 HI.out.1 HI.out.2.1 HI.out.2.2.1 HI.out.2.2.2 rfl (by decide) _ k vs rfl HY.out.1 (some ⟨Zf.heap.size, 0, none⟩) 1 1 [Value.int .i64 2, .int .i64 a, .int .i64 d, .slice K bs.length kc] rfl rfl HY.out.2.1 H1.out HM.out.1 HM.out.2 HY.out.2.2.2.1 ?_; intro B9 r9 Z9 ho9 hg9)
                  go_roundw
                  case rel =>
                    have hbb := dk_grown HY.out.1 HY.out.2.2.1 hg9 HY.out.2.2.2.1
                    obtain ⟨q1, q2⟩ := ops_grown HY.out.1 hg9 (HV.out.keep HY.out.2.2.2.2.1) (HBL.out.keep HY.out.2.2.2.2.2)
                    exact ⟨k + 1, vs ++ [Value.int .i64 2, .int .i64 a, .int .i64 d, .slice K bs.length kc], by omega, by omega, by go_num, ⟨B9, r9, rfl⟩, ho9, show OpsV _ _ _ _ by rw [HT.out, HOP.out]; exact OpsV.snoc (o := ⟨2, a, d, bs⟩) q2 q1, hbb⟩
                  case measure => simp [intOf]; omega
          · have q1 : ((N : Int) % 16 == 1) = false := by simp; omega
            have q2 : ((N : Int) % 16 == 2) = false := by simp; omega
            by_cases h3 : N % 16 = 3
            · have q3 : ((N : Int) % 16 == 3) = true := by simp; omega
              have HOP := Lib.hid (show DK.opOf (N : Int) = ⟨3, (N : Int) / 16 % 17, d, []⟩ by unfold DK.opOf; rw [if_neg (by omega), if_neg (by omega), if_pos (by omega), HAD.out.2])
              clear HAD
              go_upto_region 18 with (first | (refine RgX.wpList_store_seg rfl 3 _ _ rfl wr.heap.size 0 (.int .i64 3) rfl rfl 33 _ HKZ.out dk_sz_int (by show 0 + 1 ≤ 4; omega) (by simp [Value.cells, Value.oneCell']) #[.int .i64 3, .int .i64 a, .int .i64 d, .slice none 0 0] rfl ?_; intro Z2 kZ2 hoZ2 hzZ2 hbZ2) | (refine RgX.wpList_store_seg rfl 3 _ _ rfl wr.heap.size 1 (.int .i64 ((N : Int) / 16 % 17)) rfl rfl 33 _ kZ2 dk_sz_int (by show 1 + 1 ≤ 4; omega) (by simp [Value.cells, Value.oneCell']) #[.int .i64 3, .int .i64 ((N : Int) / 16 % 17), .int .i64 d, .slice none 0 0] rfl ?_; intro Z3 kZ3 hoZ3 hzZ3 hbZ3))
              obtain ⟨e, he⟩ : ∃ e, (N : Int) / 16 % 17 = e := ⟨_, rfl⟩
              rw [he] at HOP kZ3 ⊢
              obtain ⟨Zf, hZf⟩ : ∃ Zf, Zf = Z3 := ⟨_, rfl⟩
              subst hZf
              have HKf := Lib.hid kZ3
              have HBf := Lib.hid ((HBZ.out.trans hbZ2).trans hbZ3)
              clear kZ2 hoZ2 hzZ2 hbZ2 kZ3 hoZ3 hzZ3 hbZ3 he
              have HBL := Lib.hid (show Bls w.heap.size Zf none 0 0 [] from Rw.nil _ _ _ _)
              obtain ⟨x0, x1, x2, x3⟩ := dk_four HKf.out
              obtain ⟨Y, hY⟩ : ∃ Y, Zf.alloc (.cells #[.int .i64 3, .int .i64 e, .int .i64 d, .slice none 0 0] 33) = Y := ⟨_, rfl⟩
              have hbY : Below Zf.heap.size Zf Y := hY ▸ dk_box Zf _
              have hy := dk_four (show Y.heap[Zf.heap.size]? = some (.cells #[.int .i64 3, .int .i64 e, .int .i64 d, .slice none 0 0] 33 (0, 0)) by rw [← hY]; exact dk_new_at rfl)
              have hsrc : RgX.Src Y (some ⟨Zf.heap.size, 0, none⟩) 1 1 [.int .i64 3, .int .i64 e, .int .i64 d, .slice none 0 0] := .inr ⟨_, rfl, fun j u hu => by
                match j, hu with
                | 0, hu => injection hu with hu; subst hu; exact hy.1
                | 1, hu => injection hu with hu; subst hu; exact hy.2.1
                | 2, hu => injection hu with hu; subst hu; exact hy.2.2.1
                | 3, hu => injection hu with hu; subst hu; exact hy.2.2.2⟩
              have hbw := (HBf.out.trans (hbY.mono HBf.out.size))
              have HY := Lib.hid (And.intro (dk_own_keep HO.out hbw) (And.intro hsrc (And.intro (HB.out.trans (hbw.mono HB.out.size)) (And.intro (HB.out.trans (hbw.mono HB.out.size)).size (And.intro hbw hbY)))))
              have H1 := Lib.hid (show ∀ u ∈ [Value.int .i64 3, .int .i64 e, .int .i64 d, .slice none 0 0], u.oneCell' = true by intro u hu; simp at hu; rcases hu with rfl | rfl | rfl | rfl <;> rfl)
              have HM := Lib.hid (And.intro (show k + 1 ≤ maxLen by simp only [maxLen]; omega) (show (k + 1) * 48 ≤ 140737488355328 by omega))
              clear hbY hy hsrc hbw
              go_wp2_with (at_builtin; refine RgX.wpList_append_any rfl _ _ 28 rfl w.heap.size 33 i0 _ 4 48 Try.underlying28 HI.out.1 HI.out.2.1 HI.out.2.2.1 HI.out.2.2.2 rfl (by decide) _ k vs rfl HY.out.1 (some ⟨Zf.heap.size, 0, none⟩) 1 1 [Value.int .i64 3, .int .i64 e, .int .i64 d, .slice none 0 0] rfl rfl HY.out.2.1 H1.out HM.out.1 HM.out.2 HY.out.2.2.2.1 ?_; intro B9 r9 Z9 ho9 hg9)
              go_roundw
              case rel =>
                have hbb := dk_grown HY.out.1 HY.out.2.2.1 hg9 HY.out.2.2.2.1
                obtain ⟨q1, q2⟩ := ops_grown HY.out.1 hg9 (HV.out.keep HY.out.2.2.2.2.1) (HBL.out.keep HY.out.2.2.2.2.2)
                exact ⟨k + 1, vs ++ [Value.int .i64 3, .int .i64 e, .int .i64 d, .slice none 0 0], by omega, by omega, by go_num, ⟨B9, r9, rfl⟩, ho9, show OpsV _ _ _ _ by rw [HT.out, HOP.out]; exact OpsV.snoc (o := ⟨3, e, d, []⟩) q2 q1, hbb⟩
              case measure => simp [intOf]; omega
            · have q3 : ((N : Int) % 16 == 3) = false := by simp; omega
              have HOP := Lib.hid (show DK.opOf (N : Int) = ⟨0, a, d, []⟩ by unfold DK.opOf; rw [if_neg (by omega), if_neg (by omega), if_neg (by omega), HAD.out.1, HAD.out.2])
              clear HAD
              go_upto_region 18 with fail
              obtain ⟨Zf, hZf⟩ : ∃ Zf, Zf = Z := ⟨_, rfl⟩
              subst hZf
              have HKf := Lib.hid HKZ.out
              have HBf := Lib.hid HBZ.out
              have HBL := Lib.hid (show Bls w.heap.size Zf none 0 0 [] from Rw.nil _ _ _ _)
              obtain ⟨x0, x1, x2, x3⟩ := dk_four HKf.out
              obtain ⟨Y, hY⟩ : ∃ Y, Zf.alloc (.cells #[.int .i64 0, .int .i64 a, .int .i64 d, .slice none 0 0] 33) = Y := ⟨_, rfl⟩
              have hbY : Below Zf.heap.size Zf Y := hY ▸ dk_box Zf _
              have hy := dk_four (show Y.heap[Zf.heap.size]? = some (.cells #[.int .i64 0, .int .i64 a, .int .i64 d, .slice none 0 0] 33 (0, 0)) by rw [← hY]; exact dk_new_at rfl)
              have hsrc : RgX.Src Y (some ⟨Zf.heap.size, 0, none⟩) 1 1 [.int .i64 0, .int .i64 a, .int .i64 d, .slice none 0 0] := .inr ⟨_, rfl, fun j u hu => by
                match j, hu with
                | 0, hu => injection hu with hu; subst hu; exact hy.1
                | 1, hu => injection hu with hu; subst hu; exact hy.2.1
                | 2, hu => injection hu with hu; subst hu; exact hy.2.2.1
                | 3, hu => injection hu with hu; subst hu; exact hy.2.2.2⟩
              have hbw := (HBf.out.trans (hbY.mono HBf.out.size))
              have HY := Lib.hid (And.intro (dk_own_keep HO.out hbw) (And.intro hsrc (And.intro (HB.out.trans (hbw.mono HB.out.size)) (And.intro (HB.out.trans (hbw.mono HB.out.size)).size (And.intro hbw hbY)))))
              have H1 := Lib.hid (show ∀ u ∈ [Value.int .i64 0, .int .i64 a, .int .i64 d, .slice none 0 0], u.oneCell' = true by intro u hu; simp at hu; rcases hu with rfl | rfl | rfl | rfl <;> rfl)
              have HM := Lib.hid (And.intro (show k + 1 ≤ maxLen by simp only [maxLen]; omega) (show (k + 1) * 48 ≤ 140737488355328 by omega))
              clear hbY hy hsrc hbw
              go_wp2_with (at_builtin; refine RgX.wpList_append_any rfl _ _ 28 rfl w.heap.size 33 i0 _ 4 48 Try.underlying28 HI.out.1 HI.out.2.1 HI.out.2.2.1 HI.out.2.2.2 rfl (by decide) _ k vs rfl HY.out.1 (some ⟨Zf.heap.size, 0, none⟩) 1 1 [Value.int .i64 0, .int .i64 a, .int .i64 d, .slice none 0 0] rfl rfl HY.out.2.1 H1.out HM.out.1 HM.out.2 HY.out.2.2.2.1 ?_; intro B9 r9 Z9 ho9 hg9)
              go_roundw
              case rel =>
                have hbb := dk_grown HY.out.1 HY.out.2.2.1 hg9 HY.out.2.2.2.1
                obtain ⟨q1, q2⟩ := ops_grown HY.out.1 hg9 (HV.out.keep HY.out.2.2.2.2.1) (HBL.out.keep HY.out.2.2.2.2.2)
                exact ⟨k + 1, vs ++ [Value.int .i64 0, .int .i64 a, .int .i64 d, .slice none 0 0], by omega, by omega, by go_num, ⟨B9, r9, rfl⟩, ho9, show OpsV _ _ _ _ by rw [HT.out, HOP.out]; exact OpsV.snoc (o := ⟨0, a, d, []⟩) q2 q1, hbb⟩
              case measure => simp [intOf]; omega
      · have HQ := HE.out (.inr (by omega))
        rw [HQ.1] at HV
        have hkl := HQ.2
        clear HE
        have dk2 : decide (k < 20) = false := decide_eq_false hin2
        go_wp2_with fail
        go_ret
        rw [← hkl]
        exact ⟨⟨B, r, rfl, hkl.symm, vs, Rw.of_own HO.out, HV.out⟩, HB.out⟩
    · have HQ := HE.out (.inl (by omega))
      rw [HQ.1] at HV
      have hkl := HQ.2
      clear HE
      have dk : decide (k < n) = false := decide_eq_false hin
      go_wp2_with fail
      go_ret
      rw [← hkl]
      exact ⟨⟨B, r, rfl, hkl.symm, vs, Rw.of_own HO.out, HV.out⟩, HB.out⟩
end Go.Proofs.Ytgdefhlcgmibcaa
