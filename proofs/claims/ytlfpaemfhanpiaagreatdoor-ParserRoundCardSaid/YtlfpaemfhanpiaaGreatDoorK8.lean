/-
  The scanner's numberAt. Conditions: the source is of a length of which we speak; strconv.ErrRange holds an error or nil.
  The scanner's symbolLength, symbolAt and tokenAt. Conditions: the source is of a length of which we speak; strconv.ErrRange holds an error or nil.
  The scanner's symbolAt and tokenAt. Conditions: the source is of a length of which we speak; strconv.ErrRange holds an error or nil.
-/
import Derived.Lib.SmallJoins
import Derived.Test.YtlfpaemfhanpiaaGreatDoorK7

namespace Go.Proofs.YtlfpaemfhanpiaaGreatDoor
open Go Go.RowKit Go.Proofs Go.Proofs.YtlfpaemfhanpiaaGreatDoor.LX

/-- The variable strconv.ErrRange holds an error. -/
def ErrV (W : World) : Prop := 5 < W.heap.size ∧ ∃ ev, W.cell? ⟨5, 0, none⟩ = some ev ∧ (ev = .nilIface ∨ ∃ te pe, ev = .iface te pe)
theorem ErrV.keep {W W' : World} (h : ErrV W) (hb : Below W.heap.size W W') : ErrV W' := by
  obtain ⟨h1, ev, h2, h3⟩ := h
  exact ⟨Nat.lt_of_lt_of_le h1 hb.size, ev, (hb.cell (p := ⟨5, 0, none⟩) h1).trans h2, h3⟩
theorem ErrV.drewN {W : World} (h : ErrV W) (q : Nat) : ErrV (W.drewN q) := h
theorem atoi_ok {V : World} {d : ByteArray} (hd : ∀ c ∈ d.data.toList, isD c = true) (hne : d.data.toList ≠ []) (hs : d.size ≤ 1000000000) (hv : val d.data.toList < 9223372036854775808) :
    Calls Tryz.prog 124 #[.string d] V fun e w' => e = .returned (.tuple #[.int .i64 ((val d.data.toList : Nat) : Int), .nilIface]) ∧ Below V.heap.size V w' := by
  have h := atoi_digits hd hne
  rw [if_pos hv] at h
  refine (Tryz.strconv_Atoi_ok d (by omega) _ h V).mono ?_
  rintro e w' ⟨rfl, hw⟩
  refine ⟨rfl, ?_⟩
  rcases hw with rfl | ⟨t, rfl⟩
  · exact Below.refl _ _
  · exact Joins.below_bytesWorld _ _ _ _ (Nat.le_refl _)
theorem atoi_big {V : World} {d : ByteArray} (hE : ErrV V) (hd : ∀ c ∈ d.data.toList, isD c = true) (hne : d.data.toList ≠ []) (hs : d.size ≤ 1000000000) (hv : ¬ val d.data.toList < 9223372036854775808) :
    Calls Tryz.prog 124 #[.string d] V fun e w' => (∃ n p te, e = .returned (.tuple #[.int .i64 n, .iface te (.pointer p)])) ∧ Below V.heap.size V w' := by
  have h := atoi_digits hd hne
  rw [if_neg hv] at h
  obtain ⟨_, ev, h1, h2⟩ := hE
  refine (Tryz.strconv_Atoi_range d (by omega) h ev V h1 h2).mono ?_
  rintro e w' ⟨N, rfl, _, _, hb⟩
  exact ⟨⟨_, _, _, rfl⟩, hb⟩
set_option maxRecDepth 100000 in
set_option maxHeartbeats 4000000 in
theorem numberAt_any (W : World) (g : Nat) (s : ByteArray) (i : Nat) (hE : ErrV W) (h : Scn W g s) (hi : i < s.size) (hs : s.size ≤ 1000000000) (hw : isW ((bsOf s).getD i 0) = false) (hd : isD ((bsOf s).getD i 0) = true) :
    Calls Tryz.prog 98 #[.pointer (some ⟨g, 0, none⟩), .int .i64 (i : Int)] W fun e w' => e = .returned (tokR s i (tok1 ((bsOf s).drop i))) ∧ Below W.heap.size W w' := by
  have hlen := bs_len s
  have HS := Lib.hid h
  have HE := Lib.hid hE
  have HLEN := Lib.hid hlen
  have htok : tok1 ((bsOf s).drop i) = if 2147483647 < val (((bsOf s).drop i).takeWhile isD) then .bad 6 else .good 2 (((bsOf s).drop i).takeWhile isD).length (val (((bsOf s).drop i).takeWhile isD)) := by
    rw [drop_cons (by rw [hlen]; exact hi)]
    simp only [tok1, hw, hd, if_true, if_false, Bool.false_eq_true]
  have HTOK := Lib.hid htok
  have HHD := Lib.hid (show (((bsOf s).drop i).takeWhile isD) ≠ [] by
    rw [drop_cons (by rw [hlen]; exact hi), List.takeWhile_cons_of_pos hd]
    simp)
  clear h hlen htok hE
  go_enter Tryz.func98, Tryz.ntmps98
  go_wp2
  go_loopw [6] (fun x V => ∃ j : Nat, i ≤ j ∧ j ≤ s.size ∧ x = .int .i64 (j : Int) ∧ Hid (∀ k, i ≤ k → k < j → isD ((bsOf s).getD k 0) = true) ∧ Below W.heap.size W V ∧ V.heap[W.heap.size]? = some (.cells tok0 86 (0, 0))) (fun x _ => s.size - (intOf x).toNat)
  case atStart => exact ⟨i, Nat.le_refl _, by omega, rfl, (show ∀ k, i ≤ k → k < i → _ from fun k a b => absurd a (by omega)), (Below.refl _ W).alloc (Nat.le_refl _) _, World.alloc_heap_new W _⟩
  case round =>
    obtain ⟨j, hj1, hj2, rfl, hall, hB, htk⟩ := hrel
    obtain ⟨wo, hwo⟩ : ∃ V, V = wr := ⟨_, rfl⟩
    subst hwo
    have hsn : Scn wo g s := HS.out.below hB HS.out.lt
    have HCA := Lib.hid (fun V (hV : Scn V g s) => classAt_any V g s j hV hj2)
    have hor : (j < s.size ∧ isD ((bsOf s).getD j 0) = true ∧ ((clsAt s j : Int) == 4) = true) ∨ (((clsAt s j : Int) == 4) = false ∧ (j < s.size → isD ((bsOf s).getD j 0) = false)) := by
      by_cases hlt : j < s.size
      · rw [isD_cls s hlt]
        by_cases h4 : clsAt s j = 4
        · exact .inl ⟨hlt, by simp [h4], by simp [h4]⟩
        · exact .inr ⟨by simp; omega, fun _ => by simp [h4]⟩
      · obtain rfl : j = s.size := by omega
        rw [clsAt_end]
        exact .inr ⟨by decide, fun h => absurd h (by omega)⟩
    obtain ⟨c, hc⟩ : ∃ c, clsAt s j = c := ⟨_, rfl⟩
    rw [hc] at HCA hor
    have HSN := Lib.hid hsn
    have HTK := Lib.hid htk
    clear hc hsn htk
    rcases hor with ⟨hlt, hb, h4⟩ | ⟨h4, hend⟩
    · have HN := Lib.hid (show ∀ k, i ≤ k → k < j + 1 → isD ((bsOf s).getD k 0) = true from fun k a b => by
        rcases Nat.lt_or_ge k j with h | h
        · exact hall.out k a h
        · rw [show k = j by omega]; exact hb)
      clear hb
      go_wp2_with (go_at_call 95
                   refine (HCA.out wo HSN.out).mono ?_
                   rintro e w2 ⟨rfl, q, hq⟩
                   subst hq)
      go_roundw
      case rel => exact ⟨j + 1, by omega, by omega, by go_num, HN.out, below_drewN' hB _, HTK.out⟩
      case measure => simp [intOf]; omega
    · have hnl : (((bsOf s).drop i).takeWhile isD).length = j - i := takeWhile_more hj1 hall.out (by rw [HLEN.out]; exact hj2) (by rw [HLEN.out]; exact hend)
      have hbs : bsOf (s.extract i j) = ((bsOf s).drop i).takeWhile isD := by rw [bs_extract, ← hnl, take_takeWhile]
      have hdig : ∀ c ∈ bsOf (s.extract i j), isD c = true := fun c hc => by
        rw [hbs] at hc
        exact List.all_eq_true.1 (List.all_takeWhile) c hc
      have hne : bsOf (s.extract i j) ≠ [] := by rw [hbs]; exact HHD.out
      have hT := HTOK.out
      rw [hnl, ← hbs] at hT
      have HT := Lib.hid hT
      have hxs : (s.extract i j).size ≤ 1000000000 := by rw [ByteArray.size_extract]; omega
      have hak := fun V (hv : val (bsOf (s.extract i j)) < 9223372036854775808) => atoi_ok (V := V) (d := s.extract i j) hdig hne hxs hv
      have HAB := Lib.hid (fun V (hE : ErrV V) (hv : ¬ val (bsOf (s.extract i j)) < 9223372036854775808) => atoi_big (V := V) (d := s.extract i j) hE hdig hne hxs hv)
      obtain ⟨v, hv⟩ : ∃ v, val (bsOf (s.extract i j)) = v := ⟨_, rfl⟩
      have hv' : val (s.extract i j).data.toList = v := hv
      rw [hv] at HT HAB
      simp only [hv] at hak
      have HAK := Lib.hid hak
      have HV := Lib.hid hv'
      have hsrc := HSN.out.src
      have hij : i + (j - i) = j := by omega
      have hB2 := hB
      have hbl : W.heap.size < wo.heap.size := heap_lt HTK.out
      clear hend hnl hbs hdig hne hT hxs hv hv' hak
      have hor3 : 9223372036854775808 ≤ v ∨ (2147483647 < v ∧ v < 9223372036854775808) ∨ v ≤ 2147483647 := by omega
      rcases hor3 with hbig | ⟨hm1, hm2⟩ | hsm
      · have HT2 : Hid (tok1 ((bsOf s).drop i) = .bad 6) := by
          have := HT.out
          rw [if_pos (by omega)] at this
          exact this
        go_wp2_with (first
          | (go_at_call 95
             refine (HCA.out wo HSN.out).mono ?_
             rintro e w2 ⟨rfl, q, hq⟩
             subst hq)
          | (go_at_call 124
             refine (HAB.out (wo.drewN _) (HE.out.keep (below_drewN' hB _)) (by omega)).mono ?_
             rintro e w3 ⟨⟨n3, p3, te3, rfl⟩, hb3⟩
             have HTK3 : Hid (w3.heap[W.heap.size]? = some (.cells tok0 86 (0, 0))) := (hb3.block _ hbl).trans HTK.out
             obtain ⟨t0, t1, t2, t3, tf⟩ := tok_cells HTK3.out
             have f0 := tf 0
             have f1 := tf 1
             have f2 := tf 2
             have f3 := tf 3
             clear tf
             have HB3 := Lib.hid ((below_drewN' hB _).trans (hb3.mono (by show W.heap.size ≤ wo.heap.size; omega)))
             clear hb3))
        refine bodyPost_ret (tok_ret rfl _ rfl rfl (tok_set HTK3.out _ _ _ _)) rfl ⟨?_, ?_⟩
        · rw [HT2.out]; rfl
        · exact tok_below HB3.out (Nat.le_refl _) _ _ _ _
      · have HT2 : Hid (tok1 ((bsOf s).drop i) = .bad 6) := by
          have := HT.out
          rw [if_pos (by omega)] at this
          exact this
        have hg : decide ((2147483647 : Int) < (v : Int)) = true := decide_eq_true (by omega)
        go_wp2_with (first
          | (go_at_call 95
             refine (HCA.out wo HSN.out).mono ?_
             rintro e w2 ⟨rfl, q, hq⟩
             subst hq)
          | (go_at_call 124
             refine (HAK.out (wo.drewN _) (by omega)).mono ?_
             rintro e w3 ⟨rfl, hb3⟩
             have HTK3 : Hid (w3.heap[W.heap.size]? = some (.cells tok0 86 (0, 0))) := (hb3.block _ hbl).trans HTK.out
             obtain ⟨t0, t1, t2, t3, tf⟩ := tok_cells HTK3.out
             have f0 := tf 0
             have f1 := tf 1
             have f2 := tf 2
             have f3 := tf 3
             clear tf
             have HB3 := Lib.hid ((below_drewN' hB _).trans (hb3.mono (by show W.heap.size ≤ wo.heap.size; omega)))
             clear hb3))
        refine bodyPost_ret (tok_ret rfl _ rfl rfl (tok_set HTK3.out _ _ _ _)) rfl ⟨?_, ?_⟩
        · rw [HT2.out]; rfl
        · exact tok_below HB3.out (Nat.le_refl _) _ _ _ _
      · have HT2 : Hid (tok1 ((bsOf s).drop i) = .good 2 (j - i) v) := by
          have := HT.out
          rw [if_neg (by omega)] at this
          exact this
        have hg : decide ((2147483647 : Int) < (v : Int)) = false := decide_eq_false (by omega)
        go_wp2_with (first
          | (go_at_call 95
             refine (HCA.out wo HSN.out).mono ?_
             rintro e w2 ⟨rfl, q, hq⟩
             subst hq)
          | (go_at_call 124
             refine (HAK.out (wo.drewN _) (by omega)).mono ?_
             rintro e w3 ⟨rfl, hb3⟩
             have HTK3 : Hid (w3.heap[W.heap.size]? = some (.cells tok0 86 (0, 0))) := (hb3.block _ hbl).trans HTK.out
             obtain ⟨t0, t1, t2, t3, tf⟩ := tok_cells HTK3.out
             have f0 := tf 0
             have f1 := tf 1
             have f2 := tf 2
             have f3 := tf 3
             clear tf
             have HB3 := Lib.hid ((below_drewN' hB _).trans (hb3.mono (by show W.heap.size ≤ wo.heap.size; omega)))
             clear hb3))
        refine bodyPost_ret (tok_ret rfl _ rfl rfl (tok_set HTK3.out _ _ _ _)) rfl ⟨?_, ?_⟩
        · rw [HT2.out]
          show Ending.returned _ = Ending.returned (.tuple #[.agg #[_, _, .string (s.extract i (i + (j - i))), _], _])
          rw [hij]
          rfl
        · exact tok_below HB3.out (Nat.le_refl _) _ _ _ _
end Go.Proofs.YtlfpaemfhanpiaaGreatDoor

namespace Go.Proofs.YtlfpaemfhanpiaaGreatDoor
open Go Go.RowKit Go.Proofs Go.Proofs.YtlfpaemfhanpiaaGreatDoor.LX

/-- How many bytes the symbol has that begins here. -/
def symLen (c : UInt8) (t : List UInt8) : Nat := if isTwo c t then 2 else if isOne c then 1 else 0
theorem tok1_sym {c : UInt8} {t : List UInt8} (h1 : isW c = false) (h2 : isD c = false) : tok1 (c :: t) = if symLen c t = 0 then .bad 10 else .good 3 (symLen c t) 0 := by
  unfold symLen
  simp only [tok1, h1, h2, Bool.false_eq_true, if_false]
  by_cases k1 : isTwo c t = true
  · simp [k1]
  · by_cases k2 : isOne c = true
    · simp [k1, k2]
    · simp [k1, k2]
theorem isOne_iff (c : UInt8) : isOne c = true ↔ clsN c.toNat = 5 ∨ clsN c.toNat = 6 := by
  have key : ∀ n, n < 256 → ((([123, 125, 91, 93, 40, 41, 61, 59, 44, 60, 62, 43, 45, 42, 47, 33] : List Nat).contains n) = (decide (clsN n = 5) || decide (clsN n = 6))) := by decide +kernel
  unfold isOne
  rw [key _ c.toNat_lt]
  simp
theorem isTwo_nil (c : UInt8) : isTwo c [] = false := rfl
theorem isTwo_6 {c : UInt8} (h : clsN c.toNat = 6) (d : UInt8) (t : List UInt8) : isTwo c (d :: t) = decide (d.toNat = 61) := by
  obtain ⟨_, _, _, _, c6, _⟩ := clsN_iff c.toNat
  have := c6.1 h
  rw [Bool.eq_iff_iff]
  simp only [isTwo, Bool.or_eq_true, Bool.and_eq_true, decide_eq_true_eq]
  omega
theorem isTwo_7 {c : UInt8} (h : clsN c.toNat = 7) (d : UInt8) (t : List UInt8) : isTwo c (d :: t) = decide (d.toNat = c.toNat) := by
  obtain ⟨_, _, _, _, _, c7⟩ := clsN_iff c.toNat
  have := c7.1 h
  rw [Bool.eq_iff_iff]
  simp only [isTwo, Bool.or_eq_true, Bool.and_eq_true, decide_eq_true_eq]
  omega
theorem isTwo_x {c : UInt8} (h6 : clsN c.toNat ≠ 6) (h7 : clsN c.toNat ≠ 7) (t : List UInt8) : isTwo c t = false := by
  obtain ⟨_, _, _, _, c6, c7⟩ := clsN_iff c.toNat
  cases t with
  | nil => rfl
  | cons d u =>
    rw [Bool.eq_false_iff]
    intro hh
    simp only [isTwo, Bool.or_eq_true, Bool.and_eq_true, decide_eq_true_eq] at hh
    have : ¬ (c.toNat = 60 ∨ c.toNat = 62 ∨ c.toNat = 61 ∨ c.toNat = 33) := fun x => h6 (c6.2 x)
    have : ¬ (c.toNat = 124 ∨ c.toNat = 38) := fun x => h7 (c7.2 x)
    omega
def headIs (x : Nat) : List UInt8 → Bool
  | [] => false
  | d :: _ => decide (d.toNat = x)
theorem prefix_one (x : UInt8) (t : List UInt8) : Lib.hasPrefix t [x] = headIs x.toNat t := by
  unfold Lib.hasPrefix headIs
  cases t with
  | nil => rfl
  | cons d u =>
    simp only [List.isPrefixOf, Bool.and_true]
    rw [Bool.eq_iff_iff, beq_iff_eq, decide_eq_true_eq]
    exact ⟨fun h => by rw [h], fun h => (UInt8.toNat_inj.1 h).symm⟩
theorem bs_one (s : ByteArray) {i : Nat} (h : i < s.size) : (s.extract i (i + 1)).data.toList = [(bsOf s).getD i 0] := by
  have := bs_extract s i (i + 1)
  rw [drop_cons (by rw [bs_len]; exact h), Nat.add_sub_cancel_left] at this
  exact this
theorem bs_rest (s : ByteArray) (i : Nat) : (s.extract i s.size).data.toList = (bsOf s).drop i := by
  have h1 := bs_extract s i s.size
  rw [List.take_of_length_le (by rw [List.length_drop, bs_len]; exact Nat.le_refl _)] at h1
  exact h1
set_option maxRecDepth 100000 in
set_option maxHeartbeats 4000000 in
theorem symbolLength_any (W : World) (g : Nat) (s : ByteArray) (i : Nat) (h : Scn W g s) (hi : i < s.size) (hs : s.size ≤ 1000000000) :
    Calls Tryz.prog 125 #[.pointer (some ⟨g, 0, none⟩), .int .i64 (i : Int)] W fun e w' => e = .returned (.int .i64 ((symLen ((bsOf s).getD i 0) ((bsOf s).drop (i + 1)) : Nat) : Int)) ∧ ∃ q, w' = W.drewN q := by
  have HS := Lib.hid h
  have hsrc := h.src
  have HCA := Lib.hid (fun V (hV : Scn V g s) => classAt_any V g s i hV (by omega))
  have hP1 := fun V => Tryz.strings_HasPrefix (s.extract (i + 1) s.size) ⟨#[61]⟩ V
  have hP2 := fun V => Tryz.strings_HasPrefix (s.extract (i + 1) s.size) (s.extract i (i + 1)) V
  rw [clsAt_lt hi] at HCA
  simp only [bs_rest, bs_one s hi] at hP1 hP2
  obtain ⟨c, hc⟩ : ∃ c, (bsOf s).getD i 0 = c := ⟨_, rfl⟩
  obtain ⟨t, ht⟩ : ∃ t, (bsOf s).drop (i + 1) = t := ⟨_, rfl⟩
  rw [hc] at HCA hP2 ⊢
  rw [ht] at hP1 hP2 ⊢
  rw [prefix_one] at hP2
  have hP1' : ∀ V, Calls Tryz.prog 146 #[.string (s.extract (i + 1) s.size), .string ⟨#[61]⟩] V fun e w' => e = .returned (.bool (headIs 61 t)) ∧ w' = V := fun V => by
    have := hP1 V
    have e := prefix_one 61 t
    rw [e] at this
    exact this
  have HP1 := Lib.hid hP1'
  have HP2 := Lib.hid hP2
  have h1o := isOne_iff c
  have hi1 : (i : Int) + 1 ≤ (s.size : Int) := by omega
  have hi2 : (i : Int) < (s.size : Int) := by omega
  obtain ⟨k, hk⟩ : ∃ k, clsN c.toNat = k := ⟨_, rfl⟩
  have hor : (k = 5 ∧ symLen c t = 1) ∨ (k = 6 ∧ headIs 61 t = true ∧ symLen c t = 2) ∨ (k = 6 ∧ headIs 61 t = false ∧ symLen c t = 1) ∨ (k = 7 ∧ headIs c.toNat t = true ∧ symLen c t = 2) ∨ (k = 7 ∧ headIs c.toNat t = false ∧ symLen c t = 0) ∨ (k ≠ 5 ∧ k ≠ 6 ∧ k ≠ 7 ∧ symLen c t = 0) := by
    unfold symLen
    rw [← hk]
    by_cases h5 : clsN c.toNat = 5
    · rw [isTwo_x (by omega) (by omega)]
      exact .inl ⟨h5, by simp [h1o.2 (.inl h5)]⟩
    · by_cases h6 : clsN c.toNat = 6
      · have ho := h1o.2 (.inr h6)
        cases t with
        | nil => exact .inr (.inr (.inl ⟨h6, rfl, by simp [isTwo_nil, ho]⟩))
        | cons d u =>
          rw [isTwo_6 h6]
          by_cases hd : d.toNat = 61
          · exact .inr (.inl ⟨h6, by simp [headIs, hd], by simp [hd]⟩)
          · exact .inr (.inr (.inl ⟨h6, by simp [headIs, hd], by simp [hd, ho]⟩))
      · have ho : isOne c = false := by
          rw [Bool.eq_false_iff]
          intro hh
          rcases h1o.1 hh with h | h
          · exact h5 h
          · exact h6 h
        by_cases h7 : clsN c.toNat = 7
        · cases t with
          | nil => exact .inr (.inr (.inr (.inr (.inl ⟨h7, rfl, by simp [isTwo_nil, ho]⟩))))
          | cons d u =>
            rw [isTwo_7 h7]
            by_cases hd : d.toNat = c.toNat
            · exact .inr (.inr (.inr (.inl ⟨h7, by simp [headIs, hd], by simp [hd]⟩)))
            · exact .inr (.inr (.inr (.inr (.inl ⟨h7, by simp [headIs, hd], by simp [hd, ho]⟩))))
        · exact .inr (.inr (.inr (.inr (.inr ⟨h5, h6, h7, by rw [isTwo_x h6 h7]; simp [ho]⟩))))
  obtain ⟨b1, hb1⟩ : ∃ b, headIs 61 t = b := ⟨_, rfl⟩
  obtain ⟨b2, hb2⟩ : ∃ b, headIs c.toNat t = b := ⟨_, rfl⟩
  obtain ⟨r, hr⟩ : ∃ r, symLen c t = r := ⟨_, rfl⟩
  rw [hb1] at HP1 hor
  rw [hb2] at HP2 hor
  rw [hr] at hor ⊢
  rw [hk] at HCA
  clear hP1 hP1' hP2 hc ht h1o hk hb1 hb2 hr h
  have hor2 : ∃ B5 B6 B7 : Bool, ((k : Int) == 5) = B5 ∧ ((k : Int) == 6) = B6 ∧ ((k : Int) == 7) = B7 ∧ ((B5 = true ∧ r = 1) ∨ (B5 = false ∧ B6 = true ∧ b1 = true ∧ r = 2) ∨ (B5 = false ∧ B6 = true ∧ b1 = false ∧ r = 1) ∨ (B5 = false ∧ B6 = false ∧ B7 = true ∧ b2 = true ∧ r = 2) ∨ (B5 = false ∧ B6 = false ∧ B7 = true ∧ b2 = false ∧ r = 0) ∨ (B5 = false ∧ B6 = false ∧ B7 = false ∧ r = 0)) := by
    refine ⟨_, _, _, rfl, rfl, rfl, ?_⟩
    rcases hor with ⟨rfl, h⟩ | ⟨rfl, h, h'⟩ | ⟨rfl, h, h'⟩ | ⟨rfl, h, h'⟩ | ⟨rfl, h, h'⟩ | ⟨h5, h6, h7, h⟩
    · exact .inl ⟨rfl, h⟩
    · exact .inr (.inl ⟨rfl, rfl, h, h'⟩)
    · exact .inr (.inr (.inl ⟨rfl, rfl, h, h'⟩))
    · exact .inr (.inr (.inr (.inl ⟨rfl, rfl, rfl, h, h'⟩)))
    · exact .inr (.inr (.inr (.inr (.inl ⟨rfl, rfl, rfl, h, h'⟩))))
    · exact .inr (.inr (.inr (.inr (.inr ⟨by simp; omega, by simp; omega, by simp; omega, h⟩))))
  clear hor
  obtain ⟨B5, B6, B7, e5, e6, e7, hor⟩ := hor2
  rcases hor with ⟨rfl, rfl⟩ | ⟨rfl, rfl, rfl, rfl⟩ | ⟨rfl, rfl, rfl, rfl⟩ | ⟨rfl, rfl, rfl, rfl, rfl⟩ | ⟨rfl, rfl, rfl, rfl, rfl⟩ | ⟨rfl, rfl, rfl, rfl⟩
  all_goals
    go_enter Tryz.func125, Tryz.ntmps125
    go_wp2
    go_quiet (fail)
    go_wp2_with (first
      | (go_at_call 95
         refine (HCA.out (W.drewN _) (HS.out.keep rfl)).mono ?_
         rintro e w2 ⟨rfl, q, hq⟩
         subst hq)
      | (go_at_call 146
         refine (HP1.out _).mono ?_
         rintro e w3 ⟨rfl, rfl⟩)
      | (go_at_call 146
         refine (HP2.out _).mono ?_
         rintro e w3 ⟨rfl, rfl⟩))
    go_ret
    exact ⟨rfl, _, rfl⟩
end Go.Proofs.YtlfpaemfhanpiaaGreatDoor

namespace Go.Proofs.YtlfpaemfhanpiaaGreatDoor
open Go Go.RowKit Go.Proofs Go.Proofs.YtlfpaemfhanpiaaGreatDoor.LX

set_option maxRecDepth 100000 in
set_option maxHeartbeats 4000000 in
theorem symbolAt_any (W : World) (g : Nat) (s : ByteArray) (i : Nat) (h : Scn W g s) (hi : i < s.size) (hs : s.size ≤ 1000000000) (hw : isW ((bsOf s).getD i 0) = false) (hd : isD ((bsOf s).getD i 0) = false) :
    Calls Tryz.prog 99 #[.pointer (some ⟨g, 0, none⟩), .int .i64 (i : Int)] W fun e w' => e = .returned (tokR s i (tok1 ((bsOf s).drop i))) ∧ Below W.heap.size W w' := by
  have hlen := bs_len s
  have htok := tok1_sym (t := (bsOf s).drop (i + 1)) hw hd
  rw [← drop_cons (by rw [hlen]; exact hi)] at htok
  have hgl := h.lt
  have HSL := Lib.hid (fun V (hV : Scn V g s) => symbolLength_any V g s i hV hi hs)
  have HS := Lib.hid (show Scn (W.alloc (.cells tok0 86)) g s from h.keep (Below.heap_alloc _ _ _ hgl))
  have hal := World.alloc_heap_new W (.cells tok0 86)
  obtain ⟨n, hn⟩ : ∃ n, symLen ((bsOf s).getD i 0) ((bsOf s).drop (i + 1)) = n := ⟨_, rfl⟩
  have hn2 : n ≠ 0 → i + n ≤ s.size := fun hne => by
    have ht2 := htok
    rw [hn, if_neg hne] at ht2
    have := (tok1_len ht2).2.1
    rw [List.length_drop, hlen] at this
    omega
  rw [hn] at HSL htok
  have HT := Lib.hid htok
  have HB := Lib.hid ((Below.refl W.heap.size W).alloc (Nat.le_refl _) (.cells tok0 86))
  clear htok hn h
  obtain ⟨w1, hw1⟩ : ∃ V, W.alloc (.cells tok0 86) = V := ⟨_, rfl⟩
  have HAL : Hid (w1.heap[W.heap.size]? = some (.cells tok0 86 (0, 0))) := by rw [← hw1]; exact hal
  rw [hw1] at HS HB
  obtain ⟨t0, t1, t2, t3, tf⟩ := tok_cells HAL.out
  have f0 := tf 0
  have f1 := tf 1
  have f2 := tf 2
  have f3 := tf 3
  have hsrc := HS.out.src
  clear tf hal
  have hw1' : W.alloc (.cells #[.int .i64 0, .int .i64 0, .string ⟨#[]⟩, .int .i64 0] 86) = w1 := hw1
  clear hw1
  go_enter Tryz.func99, Tryz.ntmps99
  by_cases h0 : n = 0
  · subst h0
    have HT2 : Hid (tok1 ((bsOf s).drop i) = .bad 10) := HT
    have HSL2 : Hid (∀ V, Scn V g s → Calls Tryz.prog 125 #[.pointer (some ⟨g, 0, none⟩), .int .i64 (i : Int)] V fun e w' => e = .returned (.int .i64 0) ∧ ∃ q, w' = V.drewN q) := HSL
    clear HT HSL
    go_wp2_with (go_at_call 125
                 refine (HSL2.out w1 HS.out).mono ?_
                 rintro e w2 ⟨rfl, q, hq⟩
                 subst hq)
    refine bodyPost_ret (tok_ret rfl _ rfl rfl (tok_set (HAL.out : (w1.drewN q).heap[W.heap.size]? = some (.cells tok0 86 (0, 0))) _ _ _ _)) rfl ⟨?_, ?_⟩
    · rw [HT2.out]; rfl
    · exact tok_below (below_drewN' HB.out _) (Nat.le_refl _) _ _ _ _
  · have HT2 : Hid (tok1 ((bsOf s).drop i) = .good 3 n 0) := by
      have := HT.out
      rw [if_neg h0] at this
      exact this
    have hn0 : ((n : Int) == 0) = false := by simp [h0]
    have hle := hn2 h0
    have hle2 : (i : Int) + (n : Int) ≤ (s.size : Int) := by omega
    have hle3 : (i : Int) ≤ (i : Int) + (n : Int) := by omega
    have htn : ((i : Int) + (n : Int)).toNat = i + n := by omega
    clear HT hn2
    go_wp2_with (go_at_call 125
                 refine (HSL.out w1 HS.out).mono ?_
                 rintro e w2 ⟨rfl, q, hq⟩
                 subst hq)
    refine bodyPost_ret (tok_ret rfl _ rfl rfl (tok_set (HAL.out : (w1.drewN q).heap[W.heap.size]? = some (.cells tok0 86 (0, 0))) _ _ _ _)) rfl ⟨?_, ?_⟩
    · rw [HT2.out]; rfl
    · exact tok_below (below_drewN' HB.out _) (Nat.le_refl _) _ _ _ _
set_option maxRecDepth 100000 in
set_option maxHeartbeats 4000000 in
theorem tokenAt_any (W : World) (g : Nat) (s : ByteArray) (i : Nat) (hE : ErrV W) (h : Scn W g s) (hi : i < s.size) (hs : s.size ≤ 1000000000) :
    Calls Tryz.prog 75 #[.pointer (some ⟨g, 0, none⟩), .int .i64 (i : Int)] W fun e w' => e = .returned (tokR s i (tok1 ((bsOf s).drop i))) ∧ Below W.heap.size W w' := by
  have hgl := h.lt
  have HCA := Lib.hid (fun V (hV : Scn V g s) => classAt_any V g s i hV (by omega))
  have hal := World.alloc_heap_new W (.cells tok0 86)
  have HB := Lib.hid ((Below.refl W.heap.size W).alloc (Nat.le_refl _) (.cells tok0 86))
  have HS := Lib.hid (show Scn (W.alloc (.cells tok0 86)) g s from h.keep (Below.heap_alloc _ _ _ hgl))
  have HE := Lib.hid (hE.keep HB.out)
  have HWD := Lib.hid (fun V (hV : Scn V g s) hw => wordAt_any V g s i hV hi hs hw)
  have HND := Lib.hid (fun V (hE : ErrV V) (hV : Scn V g s) hw hd => numberAt_any V g s i hE hV hi hs hw hd)
  have HSD := Lib.hid (fun V (hV : Scn V g s) hw hd => symbolAt_any V g s i hV hi hs hw hd)
  have hWc := isW_cls s hi
  have hDc := isD_cls s hi
  obtain ⟨r, hr⟩ : ∃ r, tok1 ((bsOf s).drop i) = r := ⟨_, rfl⟩
  obtain ⟨c, hc⟩ : ∃ c, clsAt s i = c := ⟨_, rfl⟩
  rw [hr] at HWD HND HSD ⊢
  rw [hc] at HCA hWc hDc
  clear hr hc h hE
  obtain ⟨w1, hw1⟩ : ∃ V, W.alloc (.cells tok0 86) = V := ⟨_, rfl⟩
  have HAL : Hid (w1.heap[W.heap.size]? = some (.cells tok0 86 (0, 0))) := by rw [← hw1]; exact hal
  rw [hw1] at HS HB HE
  have hsz : W.heap.size < w1.heap.size := heap_lt HAL.out
  have hw1' : W.alloc (.cells #[.int .i64 0, .int .i64 0, .string ⟨#[]⟩, .int .i64 0] 86) = w1 := hw1
  clear hw1 hal
  have hor : (((c : Int) == 3) = true ∧ isW ((bsOf s).getD i 0) = true) ∨ (((c : Int) == 3) = false ∧ ((c : Int) == 4) = true ∧ isW ((bsOf s).getD i 0) = false ∧ isD ((bsOf s).getD i 0) = true) ∨ (((c : Int) == 3) = false ∧ ((c : Int) == 4) = false ∧ isW ((bsOf s).getD i 0) = false ∧ isD ((bsOf s).getD i 0) = false) := by
    rw [hWc, hDc]
    by_cases h3 : c = 3
    · subst h3
      exact .inl ⟨rfl, rfl⟩
    · by_cases h4 : c = 4
      · subst h4
        exact .inr (.inl ⟨rfl, rfl, rfl, rfl⟩)
      · exact .inr (.inr ⟨by simp; omega, by simp; omega, by simp [h3], by simp [h4]⟩)
  clear hWc hDc
  go_enter Tryz.func75, Tryz.ntmps75
  rcases hor with ⟨h3, hw⟩ | ⟨h3, h4, hw, hd⟩ | ⟨h3, h4, hw, hd⟩
  · have HF := Lib.hid (fun V (_ : ErrV V) (hV : Scn V g s) => HWD.out V hV hw)
    clear HWD HND HSD hw
    cases r with
    | bad e0 =>
      have HF' : Hid (∀ V, ErrV V → Scn V g s → Calls Tryz.prog 97 #[.pointer (some ⟨g, 0, none⟩), .int .i64 (i : Int)] V fun e w' => e = .returned (.tuple #[.agg #[.int .i64 0, .int .i64 (i : Int), .string ⟨#[]⟩, .int .i64 0], .int .i64 (e0 : Int)]) ∧ Below V.heap.size V w') := HF
      clear HF
      go_wp2_with (first
        | (go_at_call 95
           refine (HCA.out w1 HS.out).mono ?_
           rintro e w2 ⟨rfl, q, hq⟩
           subst hq)
        | (go_at_call 97
           refine (HF'.out (w1.drewN _) (HE.out.drewN _) (HS.out.keep rfl)).mono ?_
           rintro e w3 ⟨rfl, hb3⟩
           have HTK3 : Hid (w3.heap[W.heap.size]? = some (.cells tok0 86 (0, 0))) := (hb3.block _ hsz).trans HAL.out
           obtain ⟨t0, t1, t2, t3, tf⟩ := tok_cells HTK3.out
           have f0 := tf 0
           have f1 := tf 1
           have f2 := tf 2
           have f3 := tf 3
           clear tf
           have HB3 := Lib.hid ((below_drewN' HB.out _).trans (hb3.mono (by show W.heap.size ≤ w1.heap.size; omega)))
           clear hb3))
      refine bodyPost_ret (tok_ret rfl _ rfl rfl (tok_set HTK3.out _ _ _ _)) rfl ⟨rfl, tok_below HB3.out (Nat.le_refl _) _ _ _ _⟩
    | good k0 n0 v0 =>
      have HF' : Hid (∀ V, ErrV V → Scn V g s → Calls Tryz.prog 97 #[.pointer (some ⟨g, 0, none⟩), .int .i64 (i : Int)] V fun e w' => e = .returned (.tuple #[.agg #[.int .i64 (k0 : Int), .int .i64 (i : Int), .string (s.extract i (i + n0)), .int .i64 (v0 : Int)], .int .i64 0]) ∧ Below V.heap.size V w') := HF
      clear HF
      go_wp2_with (first
        | (go_at_call 95
           refine (HCA.out w1 HS.out).mono ?_
           rintro e w2 ⟨rfl, q, hq⟩
           subst hq)
        | (go_at_call 97
           refine (HF'.out (w1.drewN _) (HE.out.drewN _) (HS.out.keep rfl)).mono ?_
           rintro e w3 ⟨rfl, hb3⟩
           have HTK3 : Hid (w3.heap[W.heap.size]? = some (.cells tok0 86 (0, 0))) := (hb3.block _ hsz).trans HAL.out
           obtain ⟨t0, t1, t2, t3, tf⟩ := tok_cells HTK3.out
           have f0 := tf 0
           have f1 := tf 1
           have f2 := tf 2
           have f3 := tf 3
           clear tf
           have HB3 := Lib.hid ((below_drewN' HB.out _).trans (hb3.mono (by show W.heap.size ≤ w1.heap.size; omega)))
           clear hb3))
      refine bodyPost_ret (tok_ret rfl _ rfl rfl (tok_set HTK3.out _ _ _ _)) rfl ⟨rfl, tok_below HB3.out (Nat.le_refl _) _ _ _ _⟩
  · have HF := Lib.hid (fun V (hE : ErrV V) (hV : Scn V g s) => HND.out V hE hV hw hd)
    clear HWD HND HSD hw hd
    cases r with
    | bad e0 =>
      have HF' : Hid (∀ V, ErrV V → Scn V g s → Calls Tryz.prog 98 #[.pointer (some ⟨g, 0, none⟩), .int .i64 (i : Int)] V fun e w' => e = .returned (.tuple #[.agg #[.int .i64 0, .int .i64 (i : Int), .string ⟨#[]⟩, .int .i64 0], .int .i64 (e0 : Int)]) ∧ Below V.heap.size V w') := HF
      clear HF
      go_wp2_with (first
        | (go_at_call 95
           refine (HCA.out w1 HS.out).mono ?_
           rintro e w2 ⟨rfl, q, hq⟩
           subst hq)
        | (go_at_call 98
           refine (HF'.out (w1.drewN _) (HE.out.drewN _) (HS.out.keep rfl)).mono ?_
           rintro e w3 ⟨rfl, hb3⟩
           have HTK3 : Hid (w3.heap[W.heap.size]? = some (.cells tok0 86 (0, 0))) := (hb3.block _ hsz).trans HAL.out
           obtain ⟨t0, t1, t2, t3, tf⟩ := tok_cells HTK3.out
           have f0 := tf 0
           have f1 := tf 1
           have f2 := tf 2
           have f3 := tf 3
           clear tf
           have HB3 := Lib.hid ((below_drewN' HB.out _).trans (hb3.mono (by show W.heap.size ≤ w1.heap.size; omega)))
           clear hb3))
      refine bodyPost_ret (tok_ret rfl _ rfl rfl (tok_set HTK3.out _ _ _ _)) rfl ⟨rfl, tok_below HB3.out (Nat.le_refl _) _ _ _ _⟩
    | good k0 n0 v0 =>
      have HF' : Hid (∀ V, ErrV V → Scn V g s → Calls Tryz.prog 98 #[.pointer (some ⟨g, 0, none⟩), .int .i64 (i : Int)] V fun e w' => e = .returned (.tuple #[.agg #[.int .i64 (k0 : Int), .int .i64 (i : Int), .string (s.extract i (i + n0)), .int .i64 (v0 : Int)], .int .i64 0]) ∧ Below V.heap.size V w') := HF
      clear HF
      go_wp2_with (first
        | (go_at_call 95
           refine (HCA.out w1 HS.out).mono ?_
           rintro e w2 ⟨rfl, q, hq⟩
           subst hq)
        | (go_at_call 98
           refine (HF'.out (w1.drewN _) (HE.out.drewN _) (HS.out.keep rfl)).mono ?_
           rintro e w3 ⟨rfl, hb3⟩
           have HTK3 : Hid (w3.heap[W.heap.size]? = some (.cells tok0 86 (0, 0))) := (hb3.block _ hsz).trans HAL.out
           obtain ⟨t0, t1, t2, t3, tf⟩ := tok_cells HTK3.out
           have f0 := tf 0
           have f1 := tf 1
           have f2 := tf 2
           have f3 := tf 3
           clear tf
           have HB3 := Lib.hid ((below_drewN' HB.out _).trans (hb3.mono (by show W.heap.size ≤ w1.heap.size; omega)))
           clear hb3))
      refine bodyPost_ret (tok_ret rfl _ rfl rfl (tok_set HTK3.out _ _ _ _)) rfl ⟨rfl, tok_below HB3.out (Nat.le_refl _) _ _ _ _⟩
  · have HF := Lib.hid (fun V (_ : ErrV V) (hV : Scn V g s) => HSD.out V hV hw hd)
    clear HWD HND HSD hw hd
    cases r with
    | bad e0 =>
      have HF' : Hid (∀ V, ErrV V → Scn V g s → Calls Tryz.prog 99 #[.pointer (some ⟨g, 0, none⟩), .int .i64 (i : Int)] V fun e w' => e = .returned (.tuple #[.agg #[.int .i64 0, .int .i64 (i : Int), .string ⟨#[]⟩, .int .i64 0], .int .i64 (e0 : Int)]) ∧ Below V.heap.size V w') := HF
      clear HF
      go_wp2_with (first
        | (go_at_call 95
           refine (HCA.out w1 HS.out).mono ?_
           rintro e w2 ⟨rfl, q, hq⟩
           subst hq)
        | (go_at_call 99
           refine (HF'.out (w1.drewN _) (HE.out.drewN _) (HS.out.keep rfl)).mono ?_
           rintro e w3 ⟨rfl, hb3⟩
           have HTK3 : Hid (w3.heap[W.heap.size]? = some (.cells tok0 86 (0, 0))) := (hb3.block _ hsz).trans HAL.out
           obtain ⟨t0, t1, t2, t3, tf⟩ := tok_cells HTK3.out
           have f0 := tf 0
           have f1 := tf 1
           have f2 := tf 2
           have f3 := tf 3
           clear tf
           have HB3 := Lib.hid ((below_drewN' HB.out _).trans (hb3.mono (by show W.heap.size ≤ w1.heap.size; omega)))
           clear hb3))
      refine bodyPost_ret (tok_ret rfl _ rfl rfl (tok_set HTK3.out _ _ _ _)) rfl ⟨rfl, tok_below HB3.out (Nat.le_refl _) _ _ _ _⟩
    | good k0 n0 v0 =>
      have HF' : Hid (∀ V, ErrV V → Scn V g s → Calls Tryz.prog 99 #[.pointer (some ⟨g, 0, none⟩), .int .i64 (i : Int)] V fun e w' => e = .returned (.tuple #[.agg #[.int .i64 (k0 : Int), .int .i64 (i : Int), .string (s.extract i (i + n0)), .int .i64 (v0 : Int)], .int .i64 0]) ∧ Below V.heap.size V w') := HF
      clear HF
      go_wp2_with (first
        | (go_at_call 95
           refine (HCA.out w1 HS.out).mono ?_
           rintro e w2 ⟨rfl, q, hq⟩
           subst hq)
        | (go_at_call 99
           refine (HF'.out (w1.drewN _) (HE.out.drewN _) (HS.out.keep rfl)).mono ?_
           rintro e w3 ⟨rfl, hb3⟩
           have HTK3 : Hid (w3.heap[W.heap.size]? = some (.cells tok0 86 (0, 0))) := (hb3.block _ hsz).trans HAL.out
           obtain ⟨t0, t1, t2, t3, tf⟩ := tok_cells HTK3.out
           have f0 := tf 0
           have f1 := tf 1
           have f2 := tf 2
           have f3 := tf 3
           clear tf
           have HB3 := Lib.hid ((below_drewN' HB.out _).trans (hb3.mono (by show W.heap.size ≤ w1.heap.size; omega)))
           clear hb3))
      refine bodyPost_ret (tok_ret rfl _ rfl rfl (tok_set HTK3.out _ _ _ _)) rfl ⟨rfl, tok_below HB3.out (Nat.le_refl _) _ _ _ _⟩
end Go.Proofs.YtlfpaemfhanpiaaGreatDoor
