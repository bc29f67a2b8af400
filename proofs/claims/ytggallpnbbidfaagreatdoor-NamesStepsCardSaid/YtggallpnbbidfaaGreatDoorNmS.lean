/-
  A text is split into its first word and six numbers. Conditions: the listed tables and variables stand (TN); the text has at most 1000 bytes.
-/
import Derived.Test.YtggallpnbbidfaaGreatDoorNmT
import Derived.RegionTactic
import Derived.Lib.SmallJoins
import Derived.IntWalk
namespace Go.Proofs.YtggallpnbbidfaaGreatDoor
open Go Go.RowKit Go.Proofs
attribute [local go_sem] Oper.semAt_some

theorem cut_len (s p : NM.Bs) : (Lib.cut s p).1.length ≤ s.length ∧ (Lib.cut s p).2.1.length ≤ s.length := by
  unfold Lib.cut
  split
  · simp only [List.length_take, List.length_drop]
    omega
  · simp
theorem replaceK_len (c d : UInt8) : ∀ (k : Nat) (s : NM.Bs), (Lib.replaceK [c] [d] k s).length ≤ s.length
  | 0, s => Nat.le_refl _
  | k + 1, s => by
    rw [Lib.replaceK]
    split
    · exact Nat.le_refl _
    · rename_i h
      have h0 := Lib.index_ge s [c]
      have h1 : ¬ Lib.index s [c] = -1 := by simpa using h
      have h2 := Lib.index_room s [c] (by omega)
      have ih := replaceK_len c d k (s.drop ((Lib.index s [c]).toNat + [c].length))
      simp only [List.length_append, List.length_take, List.length_drop, List.length_singleton] at ih h2 ⊢
      omega
theorem rest_len (s : NM.Bs) : (NM.rest s).length ≤ s.length := by
  have h := (cut_len s [32]).2
  unfold NM.rest Lib.replaceAll Lib.replace
  split
  · exact h
  · exact Nat.le_trans (replaceK_len _ _ _ _) h
theorem bs_data (t : NM.Bs) : (NM.bs t).data.toList = t := by simp [NM.bs]
theorem cut_any (t : NM.Bs) (c : UInt8) (V : World) (hT : TN V) (hl : t.length ≤ 1000) :
    Calls Tryz.prog 67 #[.string (NM.bs t), .string ⟨#[c]⟩] V fun e w' => e = .returned (.tuple #[.string (NM.bs (Lib.cut t [c]).1), .string (NM.bs (Lib.cut t [c]).2.1), .bool (Lib.cut t [c]).2.2]) ∧ ∃ n, w' = V.drewN n := by
  obtain ⟨m, hm⟩ := hT.max
  have h := Tryz.strings_Cut (NM.bs t) ⟨#[c]⟩ m V (by show t.toArray.size < _; simp; omega) hm
  rw [bs_data] at h
  exact h
theorem replace_any (t : NM.Bs) (V : World) (hT : TN V) (hl : t.length ≤ 1000) :
    Calls Tryz.prog 68 #[.string (NM.bs t), .string ⟨#[32]⟩, .string ⟨#[46]⟩] V fun e w' => e = .returned (.string (NM.bs (Lib.replaceAll t [32] [46]))) ∧ Below V.heap.size V w' := by
  obtain ⟨m, hm⟩ := hT.max
  have hz : (NM.bs t).size ≤ 1000 := by show t.toArray.size ≤ _; simp; omega
  have hc := Lib.countB_le ⟨#[32]⟩ (by decide) (NM.bs t).size (NM.bs t) (Nat.le_refl _)
  have h := Tryz.strings_ReplaceAll (NM.bs t) ⟨#[32]⟩ ⟨#[46]⟩ m V (by omega) hm (by decide) (by
    have : (⟨#[46]⟩ : ByteArray).size = 1 := rfl
    rw [this]
    omega)
  rw [bs_data] at h
  exact h
theorem atoi_any (t : NM.Bs) (V : World) (hT : TN V) (hl : t.length ≤ 1000) :
    Calls Tryz.prog 69 #[.string (NM.bs t)] V fun e w' => (∃ ev, e = .returned (.tuple #[.int .i64 (NM.atoiN t), ev])) ∧ Below V.heap.size V w' := by
  have hz : (NM.bs t).size ≤ 1000 := by show t.toArray.size ≤ _; simp; omega
  unfold NM.atoiN
  cases h : Lib.atoiAll t with
  | ok v =>
    refine (Tryz.strconv_Atoi_ok (NM.bs t) (by omega) v (by rw [bs_data]; exact h) V).mono ?_
    rintro e w' ⟨rfl, hw⟩
    refine ⟨⟨_, rfl⟩, ?_⟩
    rcases hw with rfl | ⟨t, rfl⟩
    · exact Below.refl _ _
    · exact Joins.below_bytesWorld _ _ _ _ (Nat.le_refl _)
  | «syntax» =>
    obtain ⟨_, ev, h1, h2⟩ := hT.syn
    refine (Tryz.strconv_Atoi_syntax (NM.bs t) (by omega) (by rw [bs_data]; exact h) ev V h1 h2).mono ?_
    rintro e w' ⟨N, rfl, _, _, hb⟩
    exact ⟨⟨_, rfl⟩, hb⟩
  | range =>
    obtain ⟨_, ev, h1, h2⟩ := hT.rng
    refine (Tryz.strconv_Atoi_range (NM.bs t) (by omega) (by rw [bs_data]; exact h) ev V h1 h2).mono ?_
    rintro e w' ⟨N, rfl, _, _, hb⟩
    rw [bs_data]
    exact ⟨⟨_, rfl⟩, hb⟩
/-- The numbers that stand after k rounds. -/
def arr (N : List Int) (k : Nat) : Array Value := ((N.take k ++ List.replicate (6 - k) 0).map (Value.int .i64)).toArray
theorem nums_len : ∀ (k : Nat) (r : NM.Bs), (NM.nums k r).length = k
  | 0, _ => rfl
  | k + 1, r => by rw [NM.nums, List.length_cons, nums_len k]
theorem arr_size {N : List Int} (hN : N.length = 6) {k : Nat} (hk : k ≤ 6) : (arr N k).size = 6 := by
  simp [arr, hN]
  omega
theorem arr_set {N : List Int} (hN : N.length = 6) {k : Nat} (hk : k < 6) {x : Int} (hx : N[k]? = some x) : (arr N k).setIfInBounds k (.int .i64 x) = arr N (k + 1) := by
  apply Array.ext'
  have hrep : List.replicate (6 - k) (0 : Int) = 0 :: List.replicate (6 - (k + 1)) 0 := by
    rw [show 6 - k = (6 - (k + 1)) + 1 by omega, List.replicate_succ]
  unfold arr
  rw [hrep, List.take_add_one, hx]
  simp only [List.map_append, List.map_cons, Option.toList_some, List.setIfInBounds_toArray, List.append_assoc, List.singleton_append]
  rw [List.set_append_right _ _ (by simp; omega)]
  simp [Nat.min_eq_left (show k ≤ N.length by omega)]
theorem six_of {N : List Int} (h : N.length = 6) : ∃ a b c d e f, N = [a, b, c, d, e, f] := by
  match N, h with
  | [a, b, c, d, e, f], _ => exact ⟨a, b, c, d, e, f, rfl⟩
theorem arr_six (a b c d e f : Int) : arr [a, b, c, d, e, f] 6 = #[.int .i64 a, .int .i64 b, .int .i64 c, .int .i64 d, .int .i64 e, .int .i64 f] := by simp [arr]
theorem row6 {V : World} {g : Nat} {t : TypeId} {x0 x1 x2 x3 x4 x5 : Value} (h : V.heap[g]? = some (.cells #[x0, x1, x2, x3, x4, x5] t (0, 0))) : V.cell? ⟨g, 0, none⟩ = some x0 ∧ V.cell? ⟨g, 1, none⟩ = some x1 ∧ V.cell? ⟨g, 2, none⟩ = some x2 ∧ V.cell? ⟨g, 3, none⟩ = some x3 ∧ V.cell? ⟨g, 4, none⟩ = some x4 ∧ V.cell? ⟨g, 5, none⟩ = some x5 :=
  ⟨cell_of_row _ _ 0 _ _ (0, 0) h, cell_of_row _ _ 1 _ _ (0, 0) h, cell_of_row _ _ 2 _ _ (0, 0) h, cell_of_row _ _ 3 _ _ (0, 0) h, cell_of_row _ _ 4 _ _ (0, 0) h, cell_of_row _ _ 5 _ _ (0, 0) h⟩
theorem set6 {V : World} {g : Nat} {t : TypeId} {x0 x1 x2 x3 x4 x5 : Value} (h : V.heap[g]? = some (.cells #[x0, x1, x2, x3, x4, x5] t (0, 0))) (n0 n1 n2 n3 n4 n5 : Int) :
    (((((((V.setCell ⟨g, 0, none⟩ (.int .i64 n0)).setCell ⟨g, 1, none⟩ (.int .i64 n1)).setCell ⟨g, 2, none⟩ (.int .i64 n2)).setCell ⟨g, 3, none⟩ (.int .i64 n3)).setCell ⟨g, 4, none⟩ (.int .i64 n4)).setCell ⟨g, 5, none⟩ (.int .i64 n5)).drew).heap[g]? = some (.cells #[.int .i64 n0, .int .i64 n1, .int .i64 n2, .int .i64 n3, .int .i64 n4, .int .i64 n5] t (0, 0)) ∧ Below g V (((((((V.setCell ⟨g, 0, none⟩ (.int .i64 n0)).setCell ⟨g, 1, none⟩ (.int .i64 n1)).setCell ⟨g, 2, none⟩ (.int .i64 n2)).setCell ⟨g, 3, none⟩ (.int .i64 n3)).setCell ⟨g, 4, none⟩ (.int .i64 n4)).setCell ⟨g, 5, none⟩ (.int .i64 n5)).drew) := by
  refine ⟨?_, (((((((Below.refl g V).setCell (Nat.le_refl _) _).setCell (Nat.le_refl _) _).setCell (Nat.le_refl _) _).setCell (Nat.le_refl _) _).setCell (Nat.le_refl _) _).setCell (Nat.le_refl _) _).drew⟩
  simp only [World.setCell, Array.getElem?_modify, World.drew]
  simp [h]
set_option maxRecDepth 100000 in
set_option maxHeartbeats 8000000 in
theorem split_any (t : NM.Bs) (w : World) (hT : TN w) (hl : t.length ≤ 1000) :
    Calls Tryz.prog 60 #[.string (NM.bs t)] w fun e w' => e = .returned (.tuple #[.string (NM.bs (Lib.cut t [32]).1), .agg ((NM.six t).map (Value.int .i64)).toArray]) ∧ Below w.heap.size w w' := by
  have HT := Lib.hid (fun (V : World) (hV : Below w.heap.size w V) => hT.below hV)
  obtain ⟨hl1, hl2⟩ := cut_len t [32]
  have hrl := rest_len t
  have hrest : NM.rest t = Lib.replaceAll (Lib.cut t [32]).2.1 [32] [46] := rfl
  have hC := cut_any t 32
  obtain ⟨x1, hx1⟩ : ∃ x, (Lib.cut t [32]).1 = x := ⟨_, rfl⟩
  obtain ⟨x2, hx2⟩ : ∃ x, (Lib.cut t [32]).2.1 = x := ⟨_, rfl⟩
  obtain ⟨x3, hx3⟩ : ∃ x, (Lib.cut t [32]).2.2 = x := ⟨_, rfl⟩
  obtain ⟨r0, hr0⟩ : ∃ r, NM.rest t = r := ⟨_, rfl⟩
  rw [hx1] at hl1 hC
  rw [hx2] at hl2 hrest hC
  rw [hx3] at hC
  rw [hr0] at hrest hrl
  have hsix : NM.six t = NM.nums 6 r0 := by unfold NM.six; rw [hr0]
  have hN := nums_len 6 r0
  obtain ⟨N, hNN⟩ : ∃ N, NM.nums 6 r0 = N := ⟨_, rfl⟩
  rw [hsix, hNN, hx1]
  rw [hNN] at hN
  have HC := Lib.hid (fun (V : World) (hV : Below w.heap.size w V) => hC V (hT.below hV) hl)
  have HR := Lib.hid (fun (V : World) (hV : Below w.heap.size w V) => replace_any x2 V (hT.below hV) (by omega))
  rw [← hrest] at HR
  have HNN := Lib.hid hNN
  have HN := Lib.hid hN
  have a0 : arr N 0 = #[.int .i64 0, .int .i64 0, .int .i64 0, .int .i64 0, .int .i64 0, .int .i64 0] := by simp [arr]
  have HA0 := Lib.hid a0
  obtain ⟨T0, hT0⟩ : ∃ s, NM.bs t = s := ⟨_, rfl⟩
  obtain ⟨X1, hX1⟩ : ∃ s, NM.bs x1 = s := ⟨_, rfl⟩
  obtain ⟨X2, hX2⟩ : ∃ s, NM.bs x2 = s := ⟨_, rfl⟩
  rw [hT0, hX1, hX2] at HC
  rw [hX2] at HR
  rw [hT0, hX1]
  clear hsix hNN hN hx1 hx2 hx3 hr0 hrest hC hT hT0 hX1 hX2 a0
  go_enter Tryz.func60, Tryz.ntmps60
  go_wp2_with fail
  refine (HC.out _ (one_box w _)).mono ?_
  rintro e w1 ⟨rfl, q, rfl⟩
  obtain ⟨w1, hw1⟩ : ∃ U, (w.alloc (.cells #[.int .i64 0, .int .i64 0, .int .i64 0, .int .i64 0, .int .i64 0, .int .i64 0] 93)).drewN q = U := ⟨_, rfl⟩
  have hb1 : Below w.heap.size w w1 := hw1 ▸ (one_box w _).trans ((drewN_below _ q).mono (by simp))
  have k1 : w1.heap[w.heap.size]? = some (.cells #[.int .i64 0, .int .i64 0, .int .i64 0, .int .i64 0, .int .i64 0, .int .i64 0] 93 (0, 0)) := by rw [← hw1]; exact new_at rfl
  have HB1 := Lib.hid hb1
  have HK1 := Lib.hid k1
  have HW1 := Lib.hid hw1
  clear hb1 k1 hw1
  go_wp2_with fail
  rw [HW1.out]
  clear HW1
  refine (HR.out _ HB1.out).mono ?_
  rintro e w2 ⟨rfl, hb2⟩
  obtain ⟨U, hU⟩ : ∃ U, w2.alloc (.cells #[.int .i64 0, .int .i64 0, .int .i64 0, .int .i64 0, .int .i64 0, .int .i64 0] 93) = U := ⟨_, rfl⟩
  have hlt1 := heap_lt HK1.out
  have hlt2 : w.heap.size < w2.heap.size := Nat.lt_of_lt_of_le hlt1 hb2.size
  have hbU : Below w2.heap.size w2 U := hU ▸ one_box w2 _
  have kU : U.heap[w2.heap.size]? = some (.cells (arr N 0) 93 (0, 0)) := by rw [HA0.out, ← hU]; exact new_at rfl
  have hzU : w2.heap.size < U.heap.size := heap_lt kU
  have HR3 := Lib.hid (fun (V : World) (hV : Below w2.heap.size U V) => (hV.block w.heap.size (by omega)).trans ((hbU.block _ (by omega)).trans ((hb2.block _ hlt1).trans HK1.out)))
  have HB := Lib.hid (HB1.out.trans ((hb2.trans (hbU.mono hb2.size)).mono HB1.out.size))
  have HKU := Lib.hid kU
  have hNN := HNN.out
  clear hb2 hbU kU HR HC HK1 HA0
  go_wp2_with fail
  clear hU
  go_loopw [5, 18] (fun r i V => ∃ (k : Nat) (x : NM.Bs), k ≤ 6 ∧ i = .int .i64 (k : Int) ∧ r = .string (NM.bs x) ∧ Hid (NM.nums (6 - k) x = N.drop k) ∧ x.length ≤ 1000 ∧ Below w2.heap.size U V ∧ Hid (V.heap[w2.heap.size]? = some (.cells (arr N k) 93 (0, 0)))) (fun _ i _ => 6 - (intOf i).toNat)
  case atStart => exact ⟨0, r0, by omega, rfl, rfl, HNN.out, by omega, Below.refl _ _, HKU.out⟩
  case round =>
    obtain ⟨k, x, hk, rfl, rfl, hnx, hxl, hB, hG⟩ := hrel
    by_cases hlt : k < 6
    · have hn : NM.nums (6 - k) x = NM.atoiN (Lib.cut x [46]).1 :: NM.nums (6 - (k + 1)) (Lib.cut x [46]).2.1 := by
        rw [show 6 - k = (6 - (k + 1)) + 1 by omega, NM.nums]
      have hdr := hnx.out
      rw [hn] at hdr
      have hkN : k < N.length := by rw [HN.out]; exact hlt
      rw [List.drop_eq_getElem_cons hkN] at hdr
      injection hdr with hd1 hd2
      have hNk : N[k]? = some (NM.atoiN (Lib.cut x [46]).1) := by rw [List.getElem?_eq_getElem hkN, hd1]
      obtain ⟨hc1, hc2⟩ := cut_len x [46]
      have hC := cut_any x 46
      have hTr := fun (V : World) (hV : Below w.heap.size w V) => HT.out V hV
      obtain ⟨y1, hy1⟩ : ∃ y, (Lib.cut x [46]).1 = y := ⟨_, rfl⟩
      obtain ⟨y2, hy2⟩ : ∃ y, (Lib.cut x [46]).2.1 = y := ⟨_, rfl⟩
      obtain ⟨y3, hy3⟩ : ∃ y, (Lib.cut x [46]).2.2 = y := ⟨_, rfl⟩
      rw [hy1] at hNk hc1 hC
      rw [hy2] at hd2 hc2 hC
      rw [hy3] at hC
      obtain ⟨v, hv⟩ : ∃ v, NM.atoiN y1 = v := ⟨_, rfl⟩
      have hAt := fun (V : World) (hT : TN V) => atoi_any y1 V hT (by omega)
      rw [hv] at hNk hAt
      have hset := arr_set HN.out hlt hNk
      have hsz := arr_size HN.out (k := k) (by omega)
      have hBw : Below w.heap.size w wr := HB.out.trans (hB.mono (by omega))
      have HCx := Lib.hid (hC wr (hTr wr hBw) hxl)
      have HAt := Lib.hid (fun (q : Nat) => hAt (wr.drewN q) (hTr _ (hBw.trans (drewN_below _ q |>.mono hBw.size))))
      have HD2 := Lib.hid hd2
      have HSET := Lib.hid hset
      have HSZ := Lib.hid hsz
      have HBr := Lib.hid hB
      clear hn hd1 hd2 hNk hC hTr hAt hset hsz hy1 hy2 hy3 hv hkN hnx hBw hB
      go_wp2_with fail
      refine HCx.out.mono ?_
      rintro e wc ⟨rfl, q, rfl⟩
      clear HCx
      go_wp2_with fail
      refine (HAt.out q).mono ?_
      rintro e wa ⟨⟨ev, rfl⟩, hba⟩
      have hzr : w2.heap.size < wr.heap.size := heap_lt hG.out
      have kA : wa.heap[w2.heap.size]? = some (.cells (arr N k) 93 (0, 0)) := (hba.block _ hzr).trans hG.out
      have cA : ∃ u, wa.cell? ⟨w2.heap.size, k, none⟩ = some u := by
        refine ⟨(arr N k)[k]'(by rw [HSZ.out]; exact hlt), ?_⟩
        rw [cell_of_row wa _ k _ _ (0, 0) kA]
        exact Array.getElem?_eq_getElem _
      obtain ⟨u, cA⟩ := cA
      have fA : wa.frozen? ⟨w2.heap.size, k, none⟩ = false := by simp [World.frozen?, kA]
      have HBa := Lib.hid (HBr.out.trans (((drewN_below wr q).trans hba).mono (by omega)))
      have HKA := Lib.hid kA
      clear hba kA HAt hzr
      go_wp2_with fail
      go_roundw
      case rel =>
        refine ⟨k + 1, y2, by omega, by go_num, rfl, HD2.out.symm ▸ rfl, by omega, HBa.out.setCell (Nat.le_refl _) _, ?_⟩
        show (World.setCell _ _ _).heap[w2.heap.size]? = _
        rw [← HSET.out]
        simp only [World.setCell, Array.getElem?_modify]
        simp [HKA.out]
      case measure => simp [intOf]; omega
    · obtain rfl : k = 6 := by omega
      obtain ⟨n0, n1, n2, n3, n4, n5, e6⟩ := six_of HN.out
      have hG6 := hG.out
      rw [e6, arr_six] at hG6
      have hR0 := HR3.out wr hB
      obtain ⟨p0, p1, p2, p3, p4, p5⟩ := row6 hG6
      obtain ⟨q0, q1, q2, q3, q4, q5⟩ := row6 hR0
      have f0 : ∀ j, wr.frozen? ⟨w.heap.size, j, none⟩ = false := fun j => by simp [World.frozen?, hR0]
      have f0_ := f0 0
      have f1_ := f0 1
      have f2_ := f0 2
      have f3_ := f0 3
      have f4_ := f0 4
      have f5_ := f0 5
      have HBw := Lib.hid (HB.out.trans (hB.mono (by omega)))
      have HE6 := Lib.hid e6
      have HRR := Lib.hid hR0
      clear hG6 hR0 f0 hG hnx HNN HN HR3 HB HKU hNN hB e6
      go_wp2_with fail
      go_region
      obtain ⟨k6, b6⟩ := set6 HRR.out n0 n1 n2 n3 n4 n5
      obtain ⟨V6, hV6⟩ : ∃ V, ((((((wr.setCell ⟨w.heap.size, 0, none⟩ (.int .i64 n0)).setCell ⟨w.heap.size, 1, none⟩ (.int .i64 n1)).setCell ⟨w.heap.size, 2, none⟩ (.int .i64 n2)).setCell ⟨w.heap.size, 3, none⟩ (.int .i64 n3)).setCell ⟨w.heap.size, 4, none⟩ (.int .i64 n4)).setCell ⟨w.heap.size, 5, none⟩ (.int .i64 n5)).drew = V := ⟨_, rfl⟩
      rw [hV6] at k6 b6 ⊢
      clear hV6 p0 p1 p2 p3 p4 p5 q0 q1 q2 q3 q4 q5 f0_ f1_ f2_ f3_ f4_ f5_
      obtain ⟨q0, q1, q2, q3, q4, q5⟩ := row6 k6
      have HB6 := Lib.hid b6
      clear b6 k6
      go_wp2
      refine bodyPost_ret (v := .tuple #[.string X1, .agg #[.int .i64 n0, .int .i64 n1, .int .i64 n2, .int .i64 n3, .int .i64 n4, .int .i64 n5]]) (by simp [results, Tryz.results60, go_sem, *]) rfl ⟨?_, HBw.out.trans HB6.out⟩
      rw [HE6.out]
      rfl
end Go.Proofs.YtggallpnbbidfaaGreatDoor
