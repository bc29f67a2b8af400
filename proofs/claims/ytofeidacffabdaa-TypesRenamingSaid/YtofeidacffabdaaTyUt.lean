/-
  The reference's Unit: the walk. Condition: the numbers are integers.
-/
import Derived.Test.YtofeidacffabdaaTyUn
namespace Go.Proofs.Ytofeidacffabdaa
open Go Go.RowKit Go.Proofs Go.Shelf
attribute [local go_sem] Oper.semAt_some

theorem info_hand : (Try.prog.info? 46).map (fun i => (i.zero, i.size, i.bytes)) = some (some (.agg #[.int .i64 0, .int .i64 0, .int .i64 0, .string ⟨#[]⟩, .slice none 0 0]), 5, 64) := by kernel_rfl
abbrev hnd (on : List (Int × TY.Nd)) : List (List Value × TY.Nd) := on.map fun x => ([.int .i64 x.1], x.2)
theorem hnd_snoc (on : List (Int × TY.Nd)) (x : Int) (t : TY.Nd) : hnd (on ++ [(x, t)]) = hnd on ++ [([.int .i64 x], t)] := by simp [hnd]
theorem Chg2.next {V V' : World} {lo b i : Nat} {L : List Int} {m : Nat} (hi : i ≤ 1000000000) (hm : 0 < m) (hm2 : m ≤ 1000) (mi : Int) (hmi : (m : Int) = mi) (h : SrcV V lo b L i) {x : Nat} (hx : TY.nxt L i m = x) (_ : V' = V) :
    Calls Try.prog 31 #[.pointer (some ⟨b, 0, none⟩), .int .i64 mi] V fun e w' => e = .returned (.int .i64 (x : Int)) ∧ SrcV w' lo b L (i + 1) ∧ Chg (· = b) V w' := by
  subst hmi hx
  exact next_any V lo b L i m h hi hm hm2
theorem TR.far {e : TypeId} {p B j c : Nat} {V U : World} {A : Option Addr} {xs : List (List Value × TY.Nd)} {cs : List Value} (h : TR e p B V A j c xs cs) (hU : ∀ x, B ≤ x → U.heap[x]? = V.heap[x]?) (hs : U.heap.size = V.heap.size) : TR e p B U A j c xs cs := by
  obtain ⟨h1, h2, h3⟩ := h
  exact ⟨h1, row_from h2 hU, h3.imp fun t v hv W hW hi hh => hv W (fun x a1 a2 a3 => (hW x a1 (by omega) a3).trans (hU x a1)) hi (by omega)⟩
theorem TR.chg {e : TypeId} {p B j c : Nat} {V U : World} {A : Option Addr} {xs : List (List Value × TY.Nd)} {cs : List Value} {S : Nat → Prop} (h : TR e p B V A j c xs cs) (hU : Chg S V U) (hS : ∀ x, S x → x < B) : TR e p B U A j c xs cs := by
  obtain ⟨h1, h2, h3⟩ := h
  have hk : ∀ x, B ≤ x → x < V.heap.size → U.heap[x]? = V.heap[x]? := fun x hx hl => hU.block x hl (fun k => by have := hS x k; omega)
  exact ⟨h1, own_keep h2 fun k hk' => hk k (h2.lt k hk').1 (h2.lt k hk').2, h3.imp fun t v hv W hW hi hh => hv W (fun x a1 a2 a3 => (hW x a1 (Nat.lt_of_lt_of_le a2 hU.size) a3).trans (hk x a1 a2)) hi (Nat.le_trans hU.size hh)⟩
theorem own_sliceN {w : World} {base size n c : Nat} {e : TypeId} {A : Option Addr} {xs : List Value} (h : w.ownsRow base e size (.slice A n c) n xs) : n ≤ c ∧ c ≤ maxLen := by
  rcases h.2 with ⟨e1, rfl⟩ | ⟨g, cap, cur, e1, _, _, h1, h2, _⟩
  · injection e1 with _ _ e3
    subst e3
    exact ⟨Nat.le_refl _, by simp [maxLen]⟩
  · injection e1 with _ _ e3
    subst e3
    exact ⟨h1, h2⟩
theorem grown_kept1 {w5 w6 : World} {B base n : Nat} {v : Value} {o : Obj} {a0 a1 a2 : Value} {e : TypeId} {size : Nat} {xs : List Value} (hg : (w5.alloc o).grownBy w6 v.ownBlock) (hblk : w5.heap[B]? = some (.cells #[a0, a1, a2] 35 (0, 0))) (hown : (w5.alloc o).ownsRow base e size v n xs) (hB : B < base) :
    w6.heap[B]? = some (.cells #[a0, a1, a2] 35 (0, 0)) ∧ w6.cell? ⟨B, 2, none⟩ = some a2 ∧ w6.frozen? ⟨B, 2, none⟩ = false := by
  have h := grown_kept hg hblk hown hB
  exact ⟨h, cell_of_row w6 B 2 _ _ (0, 0) h, by simp [World.frozen?, h]⟩
theorem nums_at {V : World} {g : Nat} {x2 x3 : Int} (h : V.heap[g]? = some (.cells #[.int .i64 0, .int .i64 1, .int .i64 x2, .int .i64 x3] 3 (0, 0))) {i : Nat} (hi : i < 4) : V.cell? ⟨g, i, none⟩ = some (.int .i64 (([0, 1, x2, x3] : List Int)[i]?.getD 0)) := by
  rw [cell_of_row V g i _ _ (0, 0) h]
  match i, hi with
  | 0, _ => rfl
  | 1, _ => rfl
  | 2, _ => rfl
  | 3, _ => rfl
set_option maxRecDepth 100000 in
set_option maxHeartbeats 8000000 in
theorem Unit_any (a : Option Addr) (n c : Nat) (zs : List Int) (W : World) (hS : Slc .i64 W a n c zs) (hz : ∀ z ∈ zs, I64 z) :
    Calls Try.prog 15 #[.slice a n c] W fun r w' => ∃ v, r = .returned v ∧ UnV w' (unitT zs) v ∧ Below W.heap.size W w' := by
  obtain ⟨W0, hW0⟩ : ∃ U, W.alloc (.cells #[.slice none 0 0, .slice none 0 0, .slice none 0 0] 35) = U := ⟨_, rfl⟩
  have hb0 : Below W.heap.size W W0 := by rw [← hW0]; exact (Below.refl _ _).alloc (Nat.le_refl _) _
  have z0 : W0.heap.size = W.heap.size + 1 := by rw [← hW0, World.size_alloc]
  have hbox : W0.heap[W.heap.size]? = some (.cells #[.slice none 0 0, .slice none 0 0, .slice none 0 0] 35 (0, 0)) := by
    rw [← hW0]
    exact World.alloc_heap_new W _
  have hI := ints_any a n c zs 120 (by decide) (by decide) W0 (hS.below hb0)
  unfold unitT TY.unitG
  obtain ⟨L, hL⟩ : ∃ L, zs.take 120 = L := ⟨_, rfl⟩
  rw [show Int.toNat 120 = 120 from rfl, hL] at hI
  rw [hL]
  have hLz : ∀ z ∈ L, I64 z := fun z h => hz z (List.mem_of_mem_take (hL ▸ h))
  have hLl : L.length ≤ 120 := by rw [← hL, List.length_take]; omega
  obtain ⟨skip, hsk⟩ : ∃ x, TY.nxt L 0 40 = x := ⟨_, rfl⟩
  obtain ⟨split, hsp⟩ : ∃ x, TY.nxt L 1 11 = x := ⟨_, rfl⟩
  obtain ⟨n2, hn2⟩ : ∃ x, TY.nxt L 2 8 = x := ⟨_, rfl⟩
  obtain ⟨n3, hn3⟩ : ∃ x, TY.nxt L 3 30 = x := ⟨_, rfl⟩
  have hn2l : n2 < 8 := hn2 ▸ TY.nxt_lt _ _ (by decide)
  have hn3l : n3 < 30 := hn3 ▸ TY.nxt_lt _ _ (by decide)
  have HI := Lib.hid hI
  have N1 := Lib.hid (fun V b (h : SrcV V b b L 0) => Chg2.next (V' := V) (by decide) (by decide) (by decide) 40 rfl h hsk rfl)
  have N2 := Lib.hid (fun V b (h : SrcV V b b L 1) => Chg2.next (V' := V) (by decide) (by decide) (by decide) 11 rfl h hsp rfl)
  have N3 := Lib.hid (fun V b (h : SrcV V b b L 2) => Chg2.next (V' := V) (by decide) (by decide) (by decide) 8 rfl h hn2 rfl)
  have N4 := Lib.hid (fun V b (h : SrcV V b b L 3) => Chg2.next (V' := V) (by decide) (by decide) (by decide) 30 rfl h hn3 rfl)
  simp only [hsk, hsp, hn2, hn3]
  obtain ⟨F, hF⟩ : ∃ F : Nat → Bool, (fun i => decide (i < split)) = F := ⟨_, rfl⟩
  have hFv : ∀ i, F i = decide (i < split) := fun i => by rw [← hF]
  have HF := Lib.hid hFv
  have hF2 : (fun i => !decide (i < split)) = fun i => !F i := by funext i; rw [hFv]
  rw [hF, hF2]
  obtain ⟨ON, hON⟩ : ∃ ON, TY.onG L [0, 1, 2 + (n2 : Int), 10 + (n3 : Int)] 4 4 = ON := ⟨_, rfl⟩
  rw [hON]
  have HON := Lib.hid hON
  clear hON
  have HW0 := Lib.hid hW0
  have HB0 := Lib.hid hb0
  have HBX := Lib.hid hbox
  have HLZ := Lib.hid hLz
  clear hI hW0 hb0 hbox hLz hL hsk hsp hn2 hn3 hz hS hF hF2 hFv
  go_enter Try.func15, Try.ntmps15
  obtain ⟨i0, hi0, hy0, hy1, hy2⟩ := info_parts info_str
  obtain ⟨i2, hi2, hx0, hx1, hx2⟩ := info_parts info_hand
  have HZ := Lib.hid (And.intro hi0 (And.intro hy0 (And.intro hy1 hy2)))
  have HY := Lib.hid (And.intro hi2 (And.intro hx0 (And.intro hx1 hx2)))
  clear hi0 hy0 hy1 hy2 hi2 hx0 hx1 hx2
  go_wp2_with (first
    | (rw [HW0.out]; go_at_call 29; refine HI.out.mono ?_; clear HI; rintro e w1 ⟨A1, m1, c1, rfl, hl, hlst, hown, hb1⟩; subst hl; have HS1 := Lib.hid (src_new hlst.2.1 hlst.2.2.1 hown (by omega) HLZ.out); have HB1 := Lib.hid hb1; have hz1 := hb1.size; clear hlst hown hb1))
  obtain ⟨b, hb⟩ : ∃ b, w1.heap.size = b := ⟨_, rfl⟩
  rw [hb] at HS1 hz1 ⊢
  obtain ⟨W2, hW2⟩ : ∃ U, (w1.alloc (.cells #[.slice A1 L.length c1, .int .i64 0] 57)).alloc (.cells #[.slice none 0 0, .slice none 0 0, .slice none 0 0] 35) = U := ⟨_, rfl⟩
  rw [hW2]
  have z2 : W2.heap.size = b + 1 + 1 := by rw [← hW2, World.size_alloc, World.size_alloc, hb]
  have S2 : SrcV W2 b b L 0 := by
    rw [← hW2]
    exact HS1.out.chg ((Chg.refl (fun _ => False) _).alloc _) (fun e => e) (fun _ e => e.elim)
  have b2 : Below b w1 W2 := by
    rw [← hW2, ← hb]
    exact ((Below.refl w1.heap.size w1).alloc (Nat.le_refl _) _).alloc (by rw [World.size_alloc]; omega) _
  have u2 : W2.heap[b + 1]? = some (.cells #[.slice none 0 0, .slice none 0 0, .slice none 0 0] 35 (0, 0)) := by
    have := World.alloc_heap_new (w1.alloc (.cells #[.slice A1 L.length c1, .int .i64 0] 57)) (.cells #[.slice none 0 0, .slice none 0 0, .slice none 0 0] 35)
    rw [World.size_alloc, hb, hW2] at this
    exact this
  have r2 : W2.heap[W.heap.size]? = some (.cells #[.slice none 0 0, .slice none 0 0, .slice none 0 0] 35 (0, 0)) := (b2.block _ (by omega)).trans ((HB1.out.block _ (by omega)).trans HBX.out)
  have BW2 : Below W.heap.size W W2 := (HB0.out.trans (HB1.out.mono (by omega))).trans (b2.mono (by omega))
  have HS2 := Lib.hid S2
  have HU2 := Lib.hid u2
  have HR2 := Lib.hid r2
  have HBW := Lib.hid BW2
  clear S2 u2 r2 BW2 b2 hW2 HS1 HB1 HBX HB0 HW0
  go_wp2_with (first
    | (go_at_call 31; refine (N1.out _ _ HS2.out).mono ?_; clear N1; rintro e w2 ⟨rfl, S2, C2⟩; replace S2 := Lib.hid S2; replace C2 := Lib.hid C2)
    | (go_at_call 31; refine (N2.out _ _ S2.out).mono ?_; clear N2; rintro e w3 ⟨rfl, S3, C3⟩; replace S3 := Lib.hid S3; replace C3 := Lib.hid (C2.out.trans C3 (fun _ _ h => h))))
  have hz3 := C3.out.size
  have HU3 := Lib.hid ((C3.out.block _ (by omega) (by omega)).trans HU2.out)
  clear S2 C2 HU2 HS2
  go_loopw [7] (fun i V => ∃ (j jd cd jv cv : Nat) (Ad Av : Option Addr), j ≤ 10 ∧ i = .int .i64 (j : Int) ∧ Hid (UV V (b + 1) (b + 1 + 1) jd cd jv cv Ad Av (varsN skip F j) (varsN skip (fun i => !F i) j)) ∧ Hid (Chg (fun x => x = b + 1 ∨ b + 1 + 1 ≤ x) w3 V)) (fun i _ => 10 - (intOf i).toNat)
  case atStart => exact ⟨0, 0, 0, 0, 0, none, none, by omega, rfl, ⟨HU3.out, rfl, rfl, ⟨rfl, .inl ⟨rfl, rfl⟩⟩, ⟨rfl, .inl ⟨rfl, rfl⟩⟩, (fun k e => by cases e), by omega⟩, Chg.refl _ _⟩
  case round =>
    obtain ⟨j, jd, cd, jv, cv, Ad, Av, hj, rfl, hUV, hC⟩ := hrel
    have hsz := hC.out.size
    have hjd : jd ≤ 10 := by have h1 := hUV.out.ld; have h2 := varsN_len skip F j; omega
    have hjv : jv ≤ 10 := by have h1 := hUV.out.lv; have h2 := varsN_len skip (fun i => !F i) j; omega
    by_cases hjm : j < 10
    · have c0 : wr.cell? ⟨b + 1, 0, none⟩ = some (.slice Ad jd cd) := cell_of_row wr _ 0 _ _ (0, 0) hUV.out.box
      have c1 : wr.cell? ⟨b + 1, 1, none⟩ = some (.slice Av jv cv) := cell_of_row wr _ 1 _ _ (0, 0) hUV.out.box
      have d0 : (wr.alloc (.cells #[.string (TY.vName j)] 9)).cell? ⟨b + 1, 0, none⟩ = some (.slice Ad jd cd) := (((Below.refl wr.heap.size wr).alloc (Nat.le_refl _) _).cell (p := ⟨b + 1, 0, none⟩) (heap_lt hUV.out.box)).trans c0
      have d1 : (wr.alloc (.cells #[.string (TY.vName j)] 9)).cell? ⟨b + 1, 1, none⟩ = some (.slice Av jv cv) := (((Below.refl wr.heap.size wr).alloc (Nat.le_refl _) _).cell (p := ⟨b + 1, 1, none⟩) (heap_lt hUV.out.box)).trans c1
      by_cases hsk : j = skip
      · have e1 : ((j : Int) == (skip : Int)) = true := by simp [hsk]
        have HV1 := Lib.hid (varsN_out (skip := skip) (f := F) (n := j) (.inl hsk))
        have HV2 := Lib.hid (varsN_out (skip := skip) (f := fun i => !F i) (n := j) (.inl hsk))
        clear hsk
        go_wp2_with fail
        go_roundw
        case rel => exact ⟨j + 1, jd, cd, jv, cv, Ad, Av, by omega, by go_num, by rw [HV1.out, HV2.out]; exact hUV.out, hC.out⟩
        case measure => simp [intOf]; omega
      · have e1 : ((j : Int) == (skip : Int)) = false := by simp; omega
        by_cases hs : j < split
        · have e2 : decide ((j : Int) < (split : Int)) = true := by rw [decide_eq_true_iff]; omega
          have HV1 := Lib.hid (varsN_in (skip := skip) (f := F) (n := j) hsk (by rw [HF.out]; exact decide_eq_true hs))
          have HV2 := Lib.hid (varsN_out (skip := skip) (f := fun i => !F i) (n := j) (.inr (by simp only [HF.out, decide_eq_true hs]; rfl)))
          clear hsk
          go_wp2_with fail
          go_region_law
            (first
              | (refine step_append_lies _ rfl (.tmp 29) (.tmp 32) 32 rfl (b + 1 + 1) 9 i0 _ 1 16 Try.underlying32 HZ.out.1 HZ.out.2.1 HZ.out.2.2.1 HZ.out.2.2.2 rfl (by decide) (.slice Ad jd cd) jd _ (by simp [Act.eval]) (row_below hUV.out.od (((Below.refl _ _).alloc (Nat.le_refl _) _).drew)) ⟨wr.heap.size, 0, none⟩ 1 1 [_] (by simp [Act.eval]) rfl (cell_one_new wr _ _) (by simp [Value.oneCell']) (by decide) (by simp only [maxLen]; omega) (by omega) (by simp; omega) _ rfl ?_; intro g4 c4 w4 hown4 hgrow4 hat4 _; obtain ⟨f0, f1, _, _⟩ := kept3 hgrow4 hUV.out.box hUV.out.od (by omega))
              | (go_simp; go_at_call 25; refine (nameY j hjm _).mono ?_; rintro e w5 ⟨rfl, rfl⟩))
          all_goals
            obtain ⟨U, hU⟩ : ∃ U, w4.setCell ⟨b + 1, 0, none⟩ (.slice (some ⟨g4, 0, none⟩) (jd + 1) c4) = U := ⟨_, rfl⟩
            obtain ⟨k1, k2⟩ := hUV.out.stepD hgrow4 hown4 hat4 hU
            have G1 := Lib.hid k1
            have G2 := Lib.hid (hC.out.trans k2 (fun x hx h => h))
            have HU := Lib.hid hU
            clear k1 k2 hU
            go_wp2_with fail
            rw [HU.out]
            go_roundw
            case rel => exact ⟨j + 1, jd + 1, c4, jv, cv, _, Av, by omega, by go_num, by rw [HV1.out, HV2.out]; exact G1.out, G2.out⟩
            case measure => simp [intOf]; omega
        · have e2 : decide ((j : Int) < (split : Int)) = false := by rw [decide_eq_false_iff_not]; omega
          have HV1 := Lib.hid (varsN_out (skip := skip) (f := F) (n := j) (.inr (by rw [HF.out]; exact decide_eq_false hs)))
          have HV2 := Lib.hid (varsN_in (skip := skip) (f := fun i => !F i) (n := j) hsk (by simp only [HF.out, decide_eq_false hs]; rfl))
          clear hsk
          go_wp2_with fail
          go_region_law
            (first
              | (refine step_append_lies _ rfl (.tmp 36) (.tmp 39) 32 rfl (b + 1 + 1) 9 i0 _ 1 16 Try.underlying32 HZ.out.1 HZ.out.2.1 HZ.out.2.2.1 HZ.out.2.2.2 rfl (by decide) (.slice Av jv cv) jv _ (by simp [Act.eval]) (row_below hUV.out.ov (((Below.refl _ _).alloc (Nat.le_refl _) _).drew)) ⟨wr.heap.size, 0, none⟩ 1 1 [_] (by simp [Act.eval]) rfl (cell_one_new wr _ _) (by simp [Value.oneCell']) (by decide) (by simp only [maxLen]; omega) (by omega) (by simp; omega) _ rfl ?_; intro g4 c4 w4 hown4 hgrow4 hat4 _; obtain ⟨_, _, f0, f1⟩ := kept3 hgrow4 hUV.out.box hUV.out.ov (by omega))
              | (go_simp; go_at_call 25; refine (nameY j hjm _).mono ?_; rintro e w5 ⟨rfl, rfl⟩))
          all_goals
            obtain ⟨U, hU⟩ : ∃ U, w4.setCell ⟨b + 1, 1, none⟩ (.slice (some ⟨g4, 0, none⟩) (jv + 1) c4) = U := ⟨_, rfl⟩
            obtain ⟨k1, k2⟩ := hUV.out.stepV hgrow4 hown4 hat4 hU
            have G1 := Lib.hid k1
            have G2 := Lib.hid (hC.out.trans k2 (fun x hx h => h))
            have HU := Lib.hid hU
            clear k1 k2 hU
            go_wp2_with fail
            rw [HU.out]
            go_roundw
            case rel => exact ⟨j + 1, jd, cd, jv + 1, c4, Ad, _, by omega, by go_num, by rw [HV1.out, HV2.out]; exact G1.out, G2.out⟩
            case measure => simp [intOf]; omega
    · obtain rfl : j = 10 := by omega
      have HS4 := Lib.hid (S3.out.chg hC.out (by omega) (fun g hg => by omega))
      go_wp2_with (first
        | (go_at_call 31; refine (N3.out _ _ HS4.out).mono ?_; clear N3; rintro e w5 ⟨rfl, S5, C5⟩; replace S5 := Lib.hid S5; replace C5 := Lib.hid C5)
        | (go_at_call 31; refine (N4.out _ _ S5.out).mono ?_; clear N4; rintro e w6 ⟨rfl, S6, C6⟩; replace S6 := Lib.hid S6; replace C6 := Lib.hid (C5.out.trans C6 (fun _ _ h => h))))
      obtain ⟨wo, hwo⟩ : ∃ Z, Z = wr := ⟨_, rfl⟩
      subst hwo
      have hz6 := C6.out.size
      obtain ⟨g, hg⟩ : ∃ g, w6.heap.size = g := ⟨_, rfl⟩
      rw [hg] at hz6 ⊢
      obtain ⟨x2, hx2⟩ : ∃ x : Int, 2 + (n2 : Int) = x := ⟨_, rfl⟩
      obtain ⟨x3, hx3⟩ : ∃ x : Int, 10 + (n3 : Int) = x := ⟨_, rfl⟩
      rw [hx2, hx3]
      obtain ⟨W7, hW7⟩ : ∃ U, w6.alloc (.cells #[.int .i64 0, .int .i64 1, .int .i64 x2, .int .i64 x3] 3) = U := ⟨_, rfl⟩
      rw [hW7]
      have z7 : W7.heap.size = g + 1 := by rw [← hW7, World.size_alloc, hg]
      have hg7 : W7.heap[g]? = some (.cells #[.int .i64 0, .int .i64 1, .int .i64 x2, .int .i64 x3] 3 (0, 0)) := by rw [← hW7, ← hg]; exact World.alloc_heap_new w6 _
      have k67 : Chg (fun _ => False) w6 W7 := by rw [← hW7]; exact (Chg.refl _ _).alloc _
      have HU7 := Lib.hid ((k67.block (b + 1) (by omega) (fun e => e)).trans ((C6.out.block (b + 1) (by omega) (by omega)).trans hUV.out.box))
      have HS7 := Lib.hid (S6.out.chg k67 (fun e => e) (fun _ e => e.elim))
      have HC7 := Lib.hid (show Chg (· = b) wo W7 from C6.out.trans k67 (fun _ _ e => e.elim))
      have HG7 := Lib.hid hg7
      rw [hx2, hx3] at HON
      clear hg7 k67 hW7 S5 C5 S6 C6 HS4 hx2 hx3
      go_loopw [9] (fun i V => ∃ (q h p j : Nat) (on : List (Int × TY.Nd)) (A : Option Addr) (c : Nat) (cs : List Value), q + h = 4 ∧ i = .int .i64 (h : Int) ∧ j ≤ h ∧ Hid (on.length = j) ∧ Hid (on ++ TY.onG L [0, 1, x2, x3] q p = ON) ∧ Hid (p ≤ 4 + h * 20000) ∧ Hid (SrcV V b b L p) ∧ Hid (V.heap[b + 1]? = some (.cells #[.slice Ad jd cd, .slice Av jv cv, .slice A j c] 35 (0, 0))) ∧ Hid (TR 46 1 (g + 1) V A j c (hnd on) cs) ∧ Hid (Chg (fun x => x = b ∨ x = b + 1 ∨ g + 1 ≤ x) W7 V)) (fun i _ => 4 - (intOf i).toNat)
      case atStart => exact ⟨4, 0, 4, 0, [], none, 0, [], rfl, rfl, Nat.le_refl _, rfl, HON.out, (show 4 ≤ 4 + 0 * 20000 by decide), HS7.out, HU7.out, TR.nil _ _ _ _, Chg.refl _ _⟩
      case round =>
        obtain ⟨q, h, p, j, on, A, c, cs, hqh, rfl, hjh, hol, hOn, hp, hS, hB, hR, hC8⟩ := hrel
        have hsz8 := hC8.out.size
        have hG := Lib.hid ((hC8.out.block g (by omega) (by omega)).trans HG7.out)
        rcases Nat.eq_zero_or_pos q with h0 | h0
        · subst h0
          obtain rfl : h = 4 := by omega
          obtain rfl : on = ON := by have := hOn.out; simpa [TY.onG] using this
          have rb : wr.heap[W.heap.size]? = some (.cells #[.slice none 0 0, .slice none 0 0, .slice none 0 0] 35 (0, 0)) := (hC8.out.block _ (by omega) (by omega)).trans ((HC7.out.block _ (by omega) (by omega)).trans ((hC.out.block _ (by omega) (by omega)).trans ((C3.out.block _ (by omega) (by omega)).trans HR2.out)))
          have hCW : Chg (fun x => b ≤ x) W2 wr := ((((C3.out.mono (T := fun x => b ≤ x) (fun _ _ h => Nat.le_of_eq h.symm)).trans hC.out (fun x _ h => by omega)).trans HC7.out (fun x _ h => by omega))).trans hC8.out (fun x _ h => by omega)
          have u0 : wr.cell? ⟨b + 1, 0, none⟩ = some (.slice Ad jd cd) := cell_of_row wr _ 0 _ _ (0, 0) hB.out
          have u1 : wr.cell? ⟨b + 1, 1, none⟩ = some (.slice Av jv cv) := cell_of_row wr _ 1 _ _ (0, 0) hB.out
          have u2 : wr.cell? ⟨b + 1, 2, none⟩ = some (.slice A j c) := cell_of_row wr _ 2 _ _ (0, 0) hB.out
          have p0 : wr.cell? ⟨W.heap.size, 0, none⟩ = some (.slice none 0 0) := cell_of_row wr _ 0 _ _ (0, 0) rb
          have p1 : wr.cell? ⟨W.heap.size, 1, none⟩ = some (.slice none 0 0) := cell_of_row wr _ 1 _ _ (0, 0) rb
          have p2 : wr.cell? ⟨W.heap.size, 2, none⟩ = some (.slice none 0 0) := cell_of_row wr _ 2 _ _ (0, 0) rb
          have r0 : wr.frozen? ⟨W.heap.size, 0, none⟩ = false := by simp [World.frozen?, rb]
          have r1 : wr.frozen? ⟨W.heap.size, 1, none⟩ = false := by simp [World.frozen?, rb]
          have r2 : wr.frozen? ⟨W.heap.size, 2, none⟩ = false := by simp [World.frozen?, rb]
          have HCW := Lib.hid hCW
          have HRB := Lib.hid rb
          clear rb hCW
          go_wp2_with fail
          obtain ⟨Y, hY⟩ : ∃ U, ((wr.setCell ⟨W.heap.size, 0, none⟩ (.slice Ad jd cd)).setCell ⟨W.heap.size, 1, none⟩ (.slice Av jv cv)).setCell ⟨W.heap.size, 2, none⟩ (.slice A j c) = U := ⟨_, rfl⟩
          rw [hY]
          have keep : ∀ g, g ≠ W.heap.size → Y.heap[g]? = wr.heap[g]? := fun g h1 => by
            rw [← hY]
            exact (Below.heap_setCell _ _ _ _ h1).trans ((Below.heap_setCell _ _ _ _ h1).trans (Below.heap_setCell _ _ _ _ h1))
          have zY : Y.heap.size = wr.heap.size := by rw [← hY]; simp [World.setCell]
          have bY : Below W.heap.size wr Y := by
            rw [← hY]
            exact (((Below.refl _ wr).setCell (p := ⟨W.heap.size, 0, none⟩) (Nat.le_refl _) _).setCell (p := ⟨W.heap.size, 1, none⟩) (Nat.le_refl _) _).setCell (p := ⟨W.heap.size, 2, none⟩) (Nat.le_refl _) _
          have rY : Y.heap[W.heap.size]? = some (.cells #[.slice Ad jd cd, .slice Av jv cv, .slice A j c] 35 (0, 0)) := by
            rw [← hY]
            have := HRB.out
            simp only [World.setCell, Array.getElem?_modify]
            simp [this]
          have hbY : Below W.heap.size W Y := (HBW.out.trans (HCW.out.below (fun x _ h => by omega) (by omega))).trans bY
          have far : ∀ k, b + 1 + 1 ≤ k → k < wo.heap.size → Y.heap[k]? = wo.heap[k]? := fun k h1 h2 => (keep k (by omega)).trans ((hC8.out.block k (by omega) (by omega)).trans (HC7.out.block k h2 (by omega)))
          have hdo := own_keep hUV.out.od (w' := Y) (fun k hk => far k (hUV.out.od.lt k hk).1 (hUV.out.od.lt k hk).2)
          have hvo := own_keep hUV.out.ov (w' := Y) (fun k hk => far k (hUV.out.ov.lt k hk).1 (hUV.out.ov.lt k hk).2)
          have hol' := hol.out
          subst hol'
          obtain ⟨h5, h6⟩ := own_sliceN hR.out.2.1
          have hld := hUV.out.ld
          have hlv := hUV.out.lv
          refine bodyPost_ret (ret_U rfl _ rfl rY) rfl ?_
          refine ⟨_, rfl, ⟨Ad, cd, Av, cv, A, c, ?_, Stn.of_own hld hdo, Stn.of_own hlv hvo, TR.hs (TR.far hR.out (fun x hx => keep x (by omega)) zY), h5, h6, ?_, ?_, hjh⟩, hbY⟩
          · rw [← hld, ← hlv]
            rfl
          · show (varsN skip F 10).length ≤ 20
            omega
          · show (varsN skip (fun i => !F i) 10).length ≤ 20
            omega
        · obtain ⟨q, rfl⟩ : ∃ x, q = x + 1 := ⟨q - 1, by omega⟩
          have hh4 : h < 4 := by omega
          have hh4' : (h : Int) < 4 := by omega
          have hpp := hp.out
          have hp9 : p ≤ 100000 := by have := Nat.mul_le_mul_right 20000 (show h ≤ 3 by omega); omega
          obtain ⟨y, hy⟩ : ∃ y, TY.nxt L p 3 = y := ⟨_, rfl⟩
          have N5 := Lib.hid (Chg2.next (V' := wr) (by omega) (by decide) (by decide) 3 rfl hS.out hy rfl)
          have hon := hOn.out
          rw [TY.onG, hy] at hon
          by_cases hy2 : y < 2
          · rw [if_pos hy2] at hon
            obtain ⟨⟨t8, j8⟩, h8⟩ : ∃ x, TY.blockG L (TY.stG L 2) (p + 1) = x := ⟨_, rfl⟩
            rw [h8, show 4 - (q + 1) = h by omega] at hon
            obtain ⟨xn, hxn⟩ : ∃ x : Int, ([0, 1, x2, x3] : List Int)[h]?.getD 0 = x := ⟨_, rfl⟩
            rw [hxn] at hon
            have NA := fun (V : World) hV => nums_at (V := V) (g := g) (x2 := x2) (x3 := x3) hV hh4
            rw [hxn] at NA
            have HNA := Lib.hid NA
            have HON2 := Lib.hid hon
            have BL := Lib.hid (fun V (hv : SrcV V b b L (p + 1)) => (h8 ▸ bl_any L 2 (by decide) V b b (p + 1) hv (by simp only [es]; omega)))
            clear hon hOn h8 hxn NA hy
            go_wp2_with (first
              | (go_at_call 31; refine N5.out.mono ?_; clear N5; rintro e w7 ⟨rfl, S7, C7⟩; replace C7 := Lib.hid C7; have S7d : Hid (SrcV w7.drew b b L (p + 1)) := S7; replace S7 := Lib.hid S7; have hs7 := C7.out.size; have HB7 := Lib.hid ((C7.out.block (b + 1) (by omega) (by omega)).trans hB.out); have HG7' := Lib.hid ((C7.out.block g (by omega) (by omega)).trans hG.out); have a7 : w7.cell? ⟨b + 1, 2, none⟩ = some (.slice A j c) := cell_of_row w7 _ 2 _ _ (0, 0) HB7.out; have n7 := HNA.out _ HG7'.out))
            go_region_law
              (first
                | (refine step_append_lies _ rfl (.tmp 57) (.tmp 65) 33 rfl (g + 1) 46 i2 _ 5 64 Try.underlying33 HY.out.1 HY.out.2.1 HY.out.2.2.1 HY.out.2.2.2 rfl (by decide) (.slice A j c) j _ (by simp [Act.eval]) HO8.out ⟨w8.heap.size, 0, none⟩ 1 1 [.int .i64 xn, .int .i64 k8, .int .i64 n8, .string s8, .slice A8 m8 c8] (by simp [Act.eval]) rfl (news_alloc _ _ _ _ rfl) (by simp [Value.oneCell']) (by decide) (by simp only [maxLen]; omega) (by omega) (by simp; omega) _ rfl ?_; intro g4 c4 w9 hown4 hgrow4 hat4 _; obtain ⟨hb9, d9, f9⟩ := grown_kept1 hgrow4 HB8.out HO8.out (by omega))
                | (go_simp; go_at_call 36; refine (BL.out _ S7d.out).mono ?_; clear BL; rintro x w8 ⟨v8, rfl, V8, S8, B8, C8⟩; obtain ⟨k8, n8, s8, A8, m8, c8, rfl⟩ := V8.shape; replace S8 := Lib.hid S8; replace V8 := Lib.hid V8; replace C8 := Lib.hid (show Chg (· = b) w7 w8 from ((Chg.refl (· = b) w7).drew.trans C8 (fun _ _ h => h))); have hs8 := C8.out.size; have HB8 := Lib.hid ((C8.out.block (b + 1) (by omega) (by omega)).trans HB7.out); have HG8 := Lib.hid ((C8.out.block g (by omega) (by omega)).trans HG7'.out); have n8' := HNA.out _ HG8.out; have e8 : w8.cell? ⟨b + 1, 2, none⟩ = some (.slice A j c) := cell_of_row w8 _ 2 _ _ (0, 0) HB8.out; have d8 : (w8.alloc (.cells #[.int .i64 xn, .int .i64 k8, .int .i64 n8, .string s8, .slice A8 m8 c8] 46)).cell? ⟨b + 1, 2, none⟩ = some (.slice A j c) := (((Below.refl w8.heap.size w8).alloc (Nat.le_refl _) _).cell (p := ⟨b + 1, 2, none⟩) (heap_lt HB8.out)).trans e8; have HO8 := Lib.hid (TR.own hR.out (C7.out.trans C8.out (fun _ _ h => h)) (fun x hx => by omega) (.cells #[.int .i64 xn, .int .i64 k8, .int .i64 n8, .string s8, .slice A8 m8 c8] 46))))
            all_goals
              obtain ⟨U, hU⟩ : ∃ U, w9.setCell ⟨b + 1, 2, none⟩ (.slice (some ⟨g4, 0, none⟩) (j + 1) c4) = U := ⟨_, rfl⟩
              have hUk : ∀ x, x ≠ b + 1 → U.heap[x]? = w9.heap[x]? := fun x hx => by rw [← hU]; exact Below.heap_setCell _ _ _ _ hx
              have hUs : U.heap.size = w9.heap.size := by rw [← hU]; simp [World.setCell]
              have hUb : U.heap[b + 1]? = some (.cells #[.slice Ad jd cd, .slice Av jv cv, .slice (some ⟨g4, 0, none⟩) (j + 1) c4] 35 (0, 0)) := by
                rw [← hU]
                simp only [World.setCell, Array.getElem?_modify]
                simp [hb9]
              have hTR := TR.step (pre := [.int .i64 xn]) (U := U) hR.out (C7.out.trans C8.out (fun _ _ h => h)) (fun x hx => by omega) (by omega) rfl (V8.out.lower (by show wr.heap.size ≤ w7.heap.size; omega)) hgrow4 (hat4.imp id fun h => by rw [h, World.size_alloc]; omega) hown4 (fun x hx => hUk x (by omega)) hUs
              have hc8U : Chg (fun x => x = b + 1 ∨ g + 1 ≤ x) w8 U := by
                rw [← hU]
                exact ((grown_chg hgrow4 HO8.out).mono (fun _ _ h => .inr h)).setCell (p := ⟨b + 1, 2, none⟩) (fun _ => .inl rfl) _
              have hSU : SrcV U b b L j8 := S8.out.chg hc8U (by omega) (fun g hg => by omega)
              have hCU : Chg (fun x => x = b ∨ x = b + 1 ∨ g + 1 ≤ x) W7 U := hC8.out.trans ((C7.out.trans C8.out (fun _ _ h => h)).mono (fun _ _ h => .inl h) |>.trans (hc8U.mono (fun _ _ h => .inr h)) (fun _ _ h => h)) (fun _ _ h => h)
              have G1 := Lib.hid hTR
              have G2 := Lib.hid hSU
              have G3 := Lib.hid hUb
              have G4 := Lib.hid hCU
              have HU := Lib.hid hU
              clear hTR hSU hUb hCU hc8U hUk hU
              go_wp2_with fail
              rw [HU.out]
              go_roundw
              case rel => exact ⟨q, h + 1, j8, j + 1, on ++ [(xn, t8)], some ⟨g4, 0, none⟩, c4, _, by omega, by go_num, by omega, by show _ = _; rw [List.length_append, hol.out]; rfl, by show _ = _; rw [List.append_assoc]; exact HON2.out, by show _ ≤ _; simp only [es] at B8; omega, G2.out, G3.out, by rw [hnd_snoc]; exact G1.out, G4.out⟩
              case measure => simp [intOf]; omega
          · rw [if_neg hy2] at hon
            have HON2 := Lib.hid hon
            clear hon hOn hy
            go_wp2_with (first
              | (go_at_call 31; refine N5.out.mono ?_; clear N5; rintro e w7 ⟨rfl, S7, C7⟩; replace C7 := Lib.hid C7; replace S7 := Lib.hid S7; have hs7 := C7.out.size; have HB7 := Lib.hid ((C7.out.block (b + 1) (by omega) (by omega)).trans hB.out)))
            go_roundw
            case rel => exact ⟨q, h + 1, p + 1, j, on, A, c, cs, by omega, by go_num, by omega, hol.out, HON2.out, by show _ ≤ _; omega, S7.out, HB7.out, TR.chg hR.out C7.out (fun x hx => by omega), hC8.out.trans C7.out (fun _ _ h => .inl h)⟩
            case measure => simp [intOf]; omega
end Go.Proofs.Ytofeidacffabdaa
