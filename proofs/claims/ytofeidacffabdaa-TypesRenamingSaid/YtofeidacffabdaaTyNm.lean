/-
  The reference's Names. Condition: the value is a tree; the list's strings lie in memory.
-/
import Derived.Test.YtofeidacffabdaaTySa
namespace Go.Proofs.Ytofeidacffabdaa
open Go Go.RowKit Go.Proofs Go.Shelf
attribute [local go_sem] Oper.semAt_some

theorem addN_len (l : List ByteArray) (s : ByteArray) : (TY.addN l s).length ≤ l.length + 1 := by
  unfold TY.addN
  split
  · omega
  · rw [List.length_append]; exact Nat.le_refl _
theorem foldN_len : ∀ (l acc : List ByteArray), (l.foldl TY.addN acc).length ≤ acc.length + l.length
  | [], acc => by simp
  | s :: t, acc => by
    rw [List.foldl_cons, List.length_cons]
    have h1 := foldN_len t (TY.addN acc s)
    have h2 := addN_len acc s
    omega
theorem names_len (t : TY.Nd) (acc : List ByteArray) : (TY.names t acc).length ≤ acc.length + (TY.occ t).length := foldN_len _ _
theorem occ_kids (k n : Int) (s : ByteArray) (l : List TY.Nd) : (TY.occ (.mk k n s l)).length = (if k = 1 ∨ k = 14 then 1 else 0) + ((l.map TY.occ).flatten).length := by
  rw [TY.occ_eq, List.length_append]
  split <;> rfl
/-- The names after j children. -/
def nmK (l : List TY.Nd) (j : Nat) (acc : List ByteArray) : List ByteArray := (l.take j).foldl (fun a x => TY.names x a) acc
theorem nmK_snoc {l : List TY.Nd} {j : Nat} {t : TY.Nd} (h : l[j]? = some t) (acc : List ByteArray) : nmK l (j + 1) acc = TY.names t (nmK l j acc) := by
  unfold nmK
  rw [List.take_add_one, h, List.foldl_append]
  rfl
theorem nmK_len (l : List TY.Nd) (acc : List ByteArray) : ∀ j, (nmK l j acc).length ≤ acc.length + (((l.take j).map TY.occ).flatten).length
  | 0 => by simp [nmK]
  | j + 1 => by
    have ih := nmK_len l acc j
    cases h : l[j]? with
    | none =>
      have e : l.take (j + 1) = l.take j := by
        rw [List.take_add_one, h]
        simp
      have e2 : nmK l (j + 1) acc = nmK l j acc := by unfold nmK; rw [e]
      rw [e, e2]
      exact ih
    | some t =>
      rw [nmK_snoc h, List.take_add_one, h]
      have := names_len t (nmK l j acc)
      simp only [Option.toList_some, List.map_append, List.map_cons, List.map_nil, List.flatten_append, List.length_append, List.flatten_cons, List.flatten_nil, List.append_nil]
      omega
theorem flat_take (l : List TY.Nd) (j : Nat) : (((l.take j).map TY.occ).flatten).length ≤ ((l.map TY.occ).flatten).length := by
  have h : l = l.take j ++ l.drop j := (List.take_append_drop j l).symm
  have e : ((l.map TY.occ).flatten).length = (((l.take j).map TY.occ).flatten).length + (((l.drop j).map TY.occ).flatten).length := by
    rw [← List.length_append, ← List.flatten_append, ← List.map_append, List.take_append_drop]
  omega
theorem flat_step {l : List TY.Nd} {j : Nat} {t : TY.Nd} (h : l[j]? = some t) : (((l.take j).map TY.occ).flatten).length + (TY.occ t).length ≤ ((l.map TY.occ).flatten).length := by
  have := flat_take l (j + 1)
  rw [List.take_add_one, h] at this
  simpa using this
/-- What Names does at the tree t. -/
def NmAt (t : TY.Nd) : Prop := ∀ (W : World) (hi : Nat) (v : Value) (A : Option Addr) (c n : Nat) (acc : List ByteArray), NdV W hi t v → hi ≤ W.heap.size → Stn W.heap.size W A c acc → acc.length = n → acc.length + (TY.occ t).length ≤ 100000 →
  Calls Try.prog 28 #[v, .slice A n c] W fun e w' => ∃ A' c' n', e = .returned (.slice A' n' c') ∧ (TY.names t acc).length = n' ∧ Stn w'.heap.size w' A' c' (TY.names t acc) ∧ Below W.heap.size W w'
theorem Stn.up {hi : Nat} {W V : World} {A : Option Addr} {c : Nat} {l : List ByteArray} (h : Stn hi W A c l) (hb : Below hi W V) (hh : hi ≤ V.heap.size) : Stn V.heap.size V A c l := by
  obtain ⟨h1, h2, h3⟩ := h.below hb
  exact ⟨h1, h2, h3.imp id fun ⟨q, o, e, k1, k2⟩ => ⟨q, o, e, Nat.lt_of_lt_of_le k1 hh, k2⟩⟩
set_option maxHeartbeats 8000000 in
theorem names_any : ∀ t, NmAt t := by
  intro t
  induction t using TY.Nd.ind with
  | h k n s l ih =>
  intro W hi v A c na acc hv hh hst hna hbd
  have hvo := hv.open_
  obtain ⟨A0, c0, vs, hvA, hvl, hlc, hcm, hlm, hss, hkd, hkids⟩ := hvo
  subst hvA
  obtain ⟨W1, hW1⟩ : ∃ U, W.alloc (.cells #[.int .i64 k, .int .i64 n, .string s, .slice A0 l.length c0] 25) = U := ⟨_, rfl⟩
  have hb1 : Below W.heap.size W W1 := by rw [← hW1]; exact (Below.refl _ _).alloc (Nat.le_refl _) _
  have z1 : W1.heap.size = W.heap.size + 1 := by rw [← hW1, World.size_alloc]
  have d2 : W1.cell? ⟨W.heap.size, 2, none⟩ = some (.string s) := (node_cells hW1).2.2.1
  have d0 : W1.cell? ⟨W.heap.size, 0, none⟩ = some (.int .i64 k) := (node_cells hW1).1
  have d3 : W1.cell? ⟨W.heap.size, 3, none⟩ = some (.slice A0 l.length c0) := (node_cells hW1).2.2.2
  have HW1 := Lib.hid hW1
  have HB1 := Lib.hid hb1
  have hst1 : Stn W1.heap.size W1 A c acc := hst.up hb1 (by omega)
  have HIN := Lib.hid (in_any W1 W1.heap.size A na c acc s (hna ▸ hst1.sts) (by omega))
  rw [occ_kids] at hbd
  obtain ⟨m, hm⟩ : ∃ m, l.length = m := ⟨_, rfl⟩
  have HM := Lib.hid hm
  rw [hm] at hlc hlm hvl d3 HW1 ⊢
  have HVL := Lib.hid hvl
  have HKD := Lib.hid hkd
  have HKI := Lib.hid hkids
  have HIH := Lib.hid ih
  have HST := Lib.hid hst1
  have HNA := Lib.hid hna
  have hlt : W.heap.size < W1.heap.size := by omega
  rw [TY.names_node]
  clear hm hvl hkd hkids ih hW1 hb1 hv hst hst1
  by_cases hk : k = 1 ∨ k = 14
  · rw [if_pos hk]
    rw [if_pos hk] at hbd
    by_cases hin : TY.inL acc s = true
    · have ha : TY.addN acc s = acc := by unfold TY.addN; rw [if_pos hin]
      rw [ha]
      rw [hin] at HIN
      obtain ⟨acc', hacc⟩ : ∃ x, acc = x := ⟨_, rfl⟩
      rw [hacc] at hbd HST HNA ⊢
      clear ha hin hacc
      rcases hk with rfl | rfl
      all_goals
        go_enter Try.func28, Try.ntmps28
        go_wp2_with (first
          | (rw [HW1.out]; go_at_call 34; refine HIN.out.mono ?_; clear HIN; rintro e w2 ⟨rfl, hw2⟩; have hw2 := hw2.symm; subst hw2))
        have G0 : Stn W1.heap.size W1 A c acc' := HST.out
        have GB : Below W1.heap.size W1 W1 := Below.refl _ _
        have HG0 := Lib.hid G0
        have HGB := Lib.hid GB
        have hszV := GB.size
        clear G0 GB HST
        go_loopw [1, 6] (fun z i V => ∃ (j : Nat) (A : Option Addr) (c q : Nat), j ≤ m ∧ i = .int .i64 (j : Int) ∧ z = .slice A q c ∧ Hid ((nmK l j acc').length = q) ∧ Hid (Stn V.heap.size V A c (nmK l j acc')) ∧ Hid (Below W1.heap.size W1 V)) (fun _ i _ => m - (intOf i).toNat)
        case atStart => exact ⟨0, A, c, na, by omega, rfl, rfl, HNA.out, HG0.out, HGB.out⟩
        case round =>
          clear HG0 HGB
          obtain ⟨j, A, c, q, hj, rfl, rfl, hq, hS, hBl⟩ := hrel
          have d3w := (hBl.out.cell (p := ⟨W.heap.size, 3, none⟩) hlt).trans d3
          have HBW : Hid (Below W.heap.size W wr) := HB1.out.trans (hBl.out.mono HB1.out.size)
          by_cases hjm : j < m
          · obtain ⟨t, ht⟩ : ∃ t, l[j]? = some t := ⟨l[j]'(by rw [HM.out]; exact hjm), List.getElem?_eq_getElem (by rw [HM.out]; exact hjm)⟩
            obtain ⟨vj, hvj⟩ : ∃ x, vs[j]? = some x := ⟨vs[j]'(by rw [HVL.out]; exact hjm), List.getElem?_eq_getElem (by rw [HVL.out]; exact hjm)⟩
            have hnv := HKI.out j t vj ht hvj
            obtain ⟨b, off, kj, nj, sj, Aj, lj, cj, rfl, hbh, rfl, c0', c1, c2', c3⟩ := HKD.out.tree hvj hnv
            have hbW : b < W.heap.size := by omega
            have e0 := (HBW.out.cell (p := ⟨b, off + j * 4, none⟩) hbW).trans c0'
            have e1 := (HBW.out.cell (p := ⟨b, off + j * 4 + 1, none⟩) hbW).trans c1
            have e2 := (HBW.out.cell (p := ⟨b, off + j * 4 + 2, none⟩) hbW).trans c2'
            have e3 := (HBW.out.cell (p := ⟨b, off + j * 4 + 3, none⟩) hbW).trans c3
            have h1 := nmK_len l acc' j
            have h2 := flat_step ht
            have HC := Lib.hid (HIH.out t (List.mem_of_getElem? ht) wr hi _ A c q (nmK l j acc') (hnv.under (HBW.out.mono hh) (Nat.le_refl _)) (Nat.le_trans hh HBW.out.size) hS.out hq.out (by omega))
            have HSN := Lib.hid (nmK_snoc ht acc')
            clear hnv c0' c1 c2' c3 ht hvj h1 h2
            go_wp2_with (first
              | (go_at_call 28; refine HC.out.mono ?_; clear HC; rintro e w5 ⟨A5, c5, n5, rfl, hn5, hs5, hb5⟩; have HN5 := Lib.hid hn5; have HS5 := Lib.hid hs5; have HB5 := Lib.hid (hBl.out.trans (hb5.mono hBl.out.size)); clear hb5 hn5 hs5))
            go_roundw
            case rel => exact ⟨j + 1, A5, c5, n5, by omega, by go_num, rfl, by rw [HSN.out]; exact HN5.out, by rw [HSN.out]; exact HS5.out, HB5.out⟩
            case measure => simp [intOf]; omega
          · obtain rfl : j = m := by omega
            have hfin : nmK l j acc' = l.foldl (fun a x => TY.names x a) acc' := by
              unfold nmK
              rw [List.take_of_length_le (by rw [HM.out]; exact Nat.le_refl _)]
            have HFIN := Lib.hid hfin
            clear hfin
            go_wp2_with fail
            go_ret
            rw [← HFIN.out]
            exact ⟨A, c, q, rfl, hq.out, hS.out, HBW.out⟩
    · have hin' : TY.inL acc s = false := by simpa using hin
      have ha : TY.addN acc s = acc ++ [s] := by unfold TY.addN; rw [if_neg hin]
      rw [ha]
      rw [hin'] at HIN
      obtain ⟨acc', hacc⟩ : ∃ x, acc ++ [s] = x := ⟨_, rfl⟩
      have hal : acc'.length = na + 1 := by rw [← hacc, List.length_append, HNA.out]; rfl
      rw [hacc]
      have HAC := Lib.hid hacc
      have HAL := Lib.hid hal
      obtain ⟨i0, hi0, hz0, hz1, hz2⟩ := info_parts info_str
      have HZ := Lib.hid (And.intro hi0 (And.intro hz0 (And.intro hz1 hz2)))
      have hna1 : acc.length ≤ 100000 := by omega
      have hbd' : acc'.length + ((l.map TY.occ).flatten).length ≤ 100000 := by have := HNA.out; omega
      have hna2 : na ≤ 99999 := by have := HNA.out; omega
      clear ha hin hin' hacc hbd hal hi0 hz0 hz1 hz2
      rcases hk with rfl | rfl
      all_goals
        go_enter Try.func28, Try.ntmps28
        go_wp2_with (first
          | (rw [HW1.out]; go_at_call 34; refine HIN.out.mono ?_; clear HIN; rintro e w2 ⟨rfl, hw2⟩; have hw2 := hw2.symm; subst hw2)
          | (at_builtin; refine wpList_append_stn rfl _ _ rfl W1.heap.size _ _ [] rfl ⟨rfl, .inl ⟨rfl, rfl⟩⟩ W1.heap.size A c na acc HST.out HNA.out rfl (by omega) (Nat.le_refl _) ?_; intro A6 c6 w6 hown6 hgrow6
             rw [Nat.zero_add, List.nil_append] at hown6
             have B6 := Lib.hid ((Below.refl W1.heap.size W1).grown hgrow6 (Nat.le_refl _) (fun k e => by cases e))
             have hs6 := B6.out.size
             have HO6 := Lib.hid hown6
             have x2 := (B6.out.cell (p := ⟨W.heap.size, 2, none⟩) hlt).trans d2
             clear hown6 hgrow6)
          | (at_builtin; refine wpList_append_own _ rfl _ _ 32 rfl W1.heap.size 9 i0 _ 1 16 Try.underlying32 HZ.out.1 HZ.out.2.1 HZ.out.2.2.1 HZ.out.2.2.2 rfl (by decide) _ _ _ rfl (row_below HO6.out ((Below.refl _ _).alloc (Nat.le_refl _) _)) ⟨w6.heap.size, 0, none⟩ 1 1 [.string s] rfl rfl (news_alloc w6 [.string s] _ _ rfl) (by simp [Value.oneCell']) (by simp only [maxLen]; omega) (by omega) (by rw [World.size_alloc]; omega) ?_; intro v7 w7 hown7 hgrow7 _
             obtain ⟨A7, c7, rfl, _, _⟩ := own_slice hown7
             have B7 := Lib.hid ((B6.out.alloc hs6 (.cells #[.string s] 9)).grown hgrow7 (by rw [World.size_alloc]; omega) (fun k e => (HO6.out.lt k e).1))
             have HO7 := Lib.hid hown7
             clear hown7 hgrow7))
        have hst7 : Stn w7.heap.size w7 A7 c7 acc' := Stn.of_own HAL.out (by have := HO7.out; rw [← HAC.out, List.map_append]; exact this)
        have hbd := hbd'
        clear hbd'
        have G0 : Stn w7.heap.size w7 A7 c7 acc' := hst7
        have GB : Below W1.heap.size W1 w7 := B7.out
        have HG0 := Lib.hid G0
        have HGB := Lib.hid GB
        have hszV := GB.size
        clear G0 GB HST hst7 HO6 HO7 B6 B7
        go_loopw [1, 6] (fun z i V => ∃ (j : Nat) (A : Option Addr) (c q : Nat), j ≤ m ∧ i = .int .i64 (j : Int) ∧ z = .slice A q c ∧ Hid ((nmK l j acc').length = q) ∧ Hid (Stn V.heap.size V A c (nmK l j acc')) ∧ Hid (Below W1.heap.size W1 V)) (fun _ i _ => m - (intOf i).toNat)
        case atStart => exact ⟨0, A7, c7, (na + 1), by omega, rfl, rfl, HAL.out, HG0.out, HGB.out⟩
        case round =>
          clear HG0 HGB
          obtain ⟨j, A, c, q, hj, rfl, rfl, hq, hS, hBl⟩ := hrel
          have d3w := (hBl.out.cell (p := ⟨W.heap.size, 3, none⟩) hlt).trans d3
          have HBW : Hid (Below W.heap.size W wr) := HB1.out.trans (hBl.out.mono HB1.out.size)
          by_cases hjm : j < m
          · obtain ⟨t, ht⟩ : ∃ t, l[j]? = some t := ⟨l[j]'(by rw [HM.out]; exact hjm), List.getElem?_eq_getElem (by rw [HM.out]; exact hjm)⟩
            obtain ⟨vj, hvj⟩ : ∃ x, vs[j]? = some x := ⟨vs[j]'(by rw [HVL.out]; exact hjm), List.getElem?_eq_getElem (by rw [HVL.out]; exact hjm)⟩
            have hnv := HKI.out j t vj ht hvj
            obtain ⟨b, off, kj, nj, sj, Aj, lj, cj, rfl, hbh, rfl, c0', c1, c2', c3⟩ := HKD.out.tree hvj hnv
            have hbW : b < W.heap.size := by omega
            have e0 := (HBW.out.cell (p := ⟨b, off + j * 4, none⟩) hbW).trans c0'
            have e1 := (HBW.out.cell (p := ⟨b, off + j * 4 + 1, none⟩) hbW).trans c1
            have e2 := (HBW.out.cell (p := ⟨b, off + j * 4 + 2, none⟩) hbW).trans c2'
            have e3 := (HBW.out.cell (p := ⟨b, off + j * 4 + 3, none⟩) hbW).trans c3
            have h1 := nmK_len l acc' j
            have h2 := flat_step ht
            have HC := Lib.hid (HIH.out t (List.mem_of_getElem? ht) wr hi _ A c q (nmK l j acc') (hnv.under (HBW.out.mono hh) (Nat.le_refl _)) (Nat.le_trans hh HBW.out.size) hS.out hq.out (by omega))
            have HSN := Lib.hid (nmK_snoc ht acc')
            clear hnv c0' c1 c2' c3 ht hvj h1 h2
            go_wp2_with (first
              | (go_at_call 28; refine HC.out.mono ?_; clear HC; rintro e w5 ⟨A5, c5, n5, rfl, hn5, hs5, hb5⟩; have HN5 := Lib.hid hn5; have HS5 := Lib.hid hs5; have HB5 := Lib.hid (hBl.out.trans (hb5.mono hBl.out.size)); clear hb5 hn5 hs5))
            go_roundw
            case rel => exact ⟨j + 1, A5, c5, n5, by omega, by go_num, rfl, by rw [HSN.out]; exact HN5.out, by rw [HSN.out]; exact HS5.out, HB5.out⟩
            case measure => simp [intOf]; omega
          · obtain rfl : j = m := by omega
            have hfin : nmK l j acc' = l.foldl (fun a x => TY.names x a) acc' := by
              unfold nmK
              rw [List.take_of_length_le (by rw [HM.out]; exact Nat.le_refl _)]
            have HFIN := Lib.hid hfin
            clear hfin
            go_wp2_with fail
            go_ret
            rw [← HFIN.out]
            exact ⟨A, c, q, rfl, hq.out, hS.out, HBW.out⟩
  · rw [if_neg hk]
    rw [if_neg hk] at hbd
    have e1 : (k == 1) = false := by simp; omega
    have e14 : (k == 14) = false := by simp; omega
    obtain ⟨acc', hacc⟩ : ∃ x, acc = x := ⟨_, rfl⟩
    rw [hacc] at hbd HST HNA ⊢
    clear hacc hk
    go_enter Try.func28, Try.ntmps28
    go_wp2_with fail
    rw [HW1.out]
    go_wp2_with fail
    have G0 : Stn W1.heap.size W1 A c acc' := HST.out
    have GB : Below W1.heap.size W1 W1 := Below.refl _ _
    have HG0 := Lib.hid G0
    have HGB := Lib.hid GB
    have hszV := GB.size
    clear G0 GB HIN HST
    go_loopw [1, 6] (fun z i V => ∃ (j : Nat) (A : Option Addr) (c q : Nat), j ≤ m ∧ i = .int .i64 (j : Int) ∧ z = .slice A q c ∧ Hid ((nmK l j acc').length = q) ∧ Hid (Stn V.heap.size V A c (nmK l j acc')) ∧ Hid (Below W1.heap.size W1 V)) (fun _ i _ => m - (intOf i).toNat)
    case atStart => exact ⟨0, A, c, na, by omega, rfl, rfl, HNA.out, HG0.out, HGB.out⟩
    case round =>
      clear HG0 HGB
      obtain ⟨j, A, c, q, hj, rfl, rfl, hq, hS, hBl⟩ := hrel
      have d3w := (hBl.out.cell (p := ⟨W.heap.size, 3, none⟩) hlt).trans d3
      have HBW : Hid (Below W.heap.size W wr) := HB1.out.trans (hBl.out.mono HB1.out.size)
      by_cases hjm : j < m
      · obtain ⟨t, ht⟩ : ∃ t, l[j]? = some t := ⟨l[j]'(by rw [HM.out]; exact hjm), List.getElem?_eq_getElem (by rw [HM.out]; exact hjm)⟩
        obtain ⟨vj, hvj⟩ : ∃ x, vs[j]? = some x := ⟨vs[j]'(by rw [HVL.out]; exact hjm), List.getElem?_eq_getElem (by rw [HVL.out]; exact hjm)⟩
        have hnv := HKI.out j t vj ht hvj
        obtain ⟨b, off, kj, nj, sj, Aj, lj, cj, rfl, hbh, rfl, c0', c1, c2', c3⟩ := HKD.out.tree hvj hnv
        have hbW : b < W.heap.size := by omega
        have e0 := (HBW.out.cell (p := ⟨b, off + j * 4, none⟩) hbW).trans c0'
        have e1 := (HBW.out.cell (p := ⟨b, off + j * 4 + 1, none⟩) hbW).trans c1
        have e2 := (HBW.out.cell (p := ⟨b, off + j * 4 + 2, none⟩) hbW).trans c2'
        have e3 := (HBW.out.cell (p := ⟨b, off + j * 4 + 3, none⟩) hbW).trans c3
        have h1 := nmK_len l acc' j
        have h2 := flat_step ht
        have HC := Lib.hid (HIH.out t (List.mem_of_getElem? ht) wr hi _ A c q (nmK l j acc') (hnv.under (HBW.out.mono hh) (Nat.le_refl _)) (Nat.le_trans hh HBW.out.size) hS.out hq.out (by omega))
        have HSN := Lib.hid (nmK_snoc ht acc')
        clear hnv c0' c1 c2' c3 ht hvj h1 h2
        go_wp2_with (first
          | (go_at_call 28; refine HC.out.mono ?_; clear HC; rintro e w5 ⟨A5, c5, n5, rfl, hn5, hs5, hb5⟩; have HN5 := Lib.hid hn5; have HS5 := Lib.hid hs5; have HB5 := Lib.hid (hBl.out.trans (hb5.mono hBl.out.size)); clear hb5 hn5 hs5))
        go_roundw
        case rel => exact ⟨j + 1, A5, c5, n5, by omega, by go_num, rfl, by rw [HSN.out]; exact HN5.out, by rw [HSN.out]; exact HS5.out, HB5.out⟩
        case measure => simp [intOf]; omega
      · obtain rfl : j = m := by omega
        have hfin : nmK l j acc' = l.foldl (fun a x => TY.names x a) acc' := by
          unfold nmK
          rw [List.take_of_length_le (by rw [HM.out]; exact Nat.le_refl _)]
        have HFIN := Lib.hid hfin
        clear hfin
        go_wp2_with fail
        go_ret
        rw [← HFIN.out]
        exact ⟨A, c, q, rfl, hq.out, hS.out, HBW.out⟩
end Go.Proofs.Ytofeidacffabdaa
