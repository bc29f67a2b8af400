/-
  The program's Find and Remove. Conditions: the set is sorted; the length.
-/
import Derived.Test.YtepbppckhfiplaaNwI
import Derived.Test.YtepbppckhfiplaaNwV
namespace Go.Proofs.Ytepbppckhfiplaa
open Go Go.RowKit Go.Proofs
attribute [local go_sem] Oper.semAt_some

set_option maxHeartbeats 4000000 in
set_option maxRecDepth 100000 in
theorem find_any {A : Option Addr} {n c : Nat} {l : List NW.En} (m : NM.Ms) (w : World) (h1 : Ens w A n c l) (hs : NW.Srt l) (bn : n ≤ 1000) :
    Calls Try.prog 13 #[.slice A n c, msV m] w fun e w' => e = .returned (.tuple #[enV ((NW.find l m).getD NW.z0), .bool (NW.has l m)]) ∧ Below w.heap.size w w' := by
  obtain ⟨U, hU, hb, k1, k2, hlt⟩ := two_boxes w (.cells #[.int .i64 m.c, .int .i64 m.h, .int .i64 m.t, .int .i64 m.i, .int .i64 m.p] 26) (.cells #[.int .i64 0, .int .i64 0, .int .i64 0, .int .i64 0, .int .i64 0, .int .i64 0, .int .i64 0, .int .i64 0, .int .i64 0] 28)
  have hz : EnB U (w.heap.size + 1) NW.z0 := k2
  obtain ⟨x0, x1, x2, x3, x4⟩ := row5 k1
  have HB := Lib.hid hb
  have HZ := Lib.hid hz
  have HE := Lib.hid (h1.keep hb)
  have HP := Lib.hid (position_any m U (h1.keep hb) hs (by omega))
  have HN := Lib.hid h1.len
  have HS := Lib.hid hs
  have hlo := NW.lo_le l m
  rw [h1.len] at hlo
  clear k1 k2 hb hz h1 hs
  go_enter Try.func13, Try.ntmps13
  by_cases hh : NW.has l m = true
  · obtain ⟨k, hk⟩ : ∃ k, NW.lo l m = k := ⟨_, rfl⟩
    have hkn : k < n := by
      rcases Nat.lt_or_ge k n with h | h
      · exact h
      · have := NW.has_end (l := l) (m := m) (by have := HN.out; omega)
        rw [this] at hh
        cases hh
    obtain ⟨x, hx⟩ : ∃ x, l[k]? = some x := ⟨_, List.getElem?_eq_getElem (by rw [HN.out]; exact hkn)⟩
    have hm : x.m = m := by
      have := NW.has_at HS.out (m := m) (hk.symm ▸ hx)
      rw [hh] at this
      exact of_decide_eq_true this.symm
    have hf : NW.find l m = some x := NW.find_at HS.out (hk.symm ▸ hx) hm
    rw [hk, hh] at HP
    rw [hh, hf]
    have HXX := Lib.hid hx
    clear hk hx hf hh HS hm hlo
    go_wp2_with (first
      | (go_at_call 27; (with_reducible refine HP.out.mono ?_); rintro e w1 ⟨rfl, hb1⟩; have HB1 := Lib.hid hb1; clear hb1; obtain ⟨g, hg, hgl, p0, p1, p2, p3, p4, p5, p6, p7, p8⟩ := en_at (HE.out.keep HB1.out) HXX.out; subst hg)
      | (refine store_en rfl _ _ rfl (w.heap.size + 1) _ x (HZ.out.keep HB1.out) rfl rfl ?_; intro w2 hs1 hs2 hs4))
    obtain ⟨q0, q1, q2, q3, q4, q5, q6, q7, q8⟩ := hs1.cells
    refine bodyPost_ret (v := .tuple #[enV x, .bool true]) (by simp [results, Try.results13, go_sem, *]) rfl ⟨rfl, (HB.out.trans (HB1.out.mono HB.out.size)).trans (hs4.mono (by omega))⟩
  · have hf : NW.has l m = false := by simpa using hh
    rw [hf] at HP
    rw [hf, NW.find_none hf]
    clear hh hf HS
    go_wp2_with (first
      | (go_at_call 27; (with_reducible refine HP.out.mono ?_); rintro e w1 ⟨rfl, hb1⟩; have HB1 := Lib.hid hb1; clear hb1)
      | (refine store_en rfl _ _ rfl (w.heap.size + 1) _ NW.z0 (HZ.out.keep HB1.out) rfl rfl ?_; intro w2 hs1 hs2 hs4))
    obtain ⟨q0, q1, q2, q3, q4, q5, q6, q7, q8⟩ := hs1.cells
    refine bodyPost_ret (v := .tuple #[enV NW.z0, .bool false]) (by simp [results, Try.results13, go_sem, *]) rfl ⟨rfl, (HB.out.trans (HB1.out.mono HB.out.size)).trans (hs4.mono (by omega))⟩
theorem NW.rem_eq {l : List NW.En} {m : NM.Ms} (hs : NW.Srt l) : (l.filter fun x => !NW.has l m || !decide (x = (NW.find l m).getD NW.z0)) = NW.rem l m := by
  cases hh : NW.has l m with
  | false =>
    rw [NW.rem_none hh]
    simp
  | true =>
    obtain ⟨g, hg⟩ := NW.find_ex hh
    rw [hg, ← NW.rem_prog hs hg]
    simp
set_option maxHeartbeats 4000000 in
set_option maxRecDepth 100000 in
theorem remove_any {A : Option Addr} {n c : Nat} {l : List NW.En} (m : NM.Ms) (w : World) (h1 : Ens w A n c l) (hs : NW.Srt l) (bn : n ≤ 1000) :
    Calls Try.prog 16 #[.slice A n c, msV m] w fun e w' => (∃ B c', e = .returned (.slice B (NW.rem l m).length c') ∧ Ens w' B (NW.rem l m).length c' (NW.rem l m)) ∧ Below w.heap.size w w' := by
  obtain ⟨i0, hi0, hz0, hs0, hb0⟩ := info_split4 info_en
  obtain ⟨U, hU⟩ : ∃ U, w.alloc (.cells #[.int .i64 m.c, .int .i64 m.h, .int .i64 m.t, .int .i64 m.i, .int .i64 m.p] 26) = U := ⟨_, rfl⟩
  have hb : Below w.heap.size w U := hU ▸ one_box w _
  have k1 : MsB U w.heap.size m := by rw [← hU]; exact new_at rfl
  obtain ⟨x0, x1, x2, x3, x4⟩ := k1.cells
  have HB := Lib.hid hb
  have HFI := Lib.hid (find_any m U (h1.keep hb) hs bn)
  have HL := Lib.hid h1.len
  have hrem := (NW.rem_eq (m := m) hs).symm
  obtain ⟨b, hbb⟩ : ∃ b, NW.has l m = b := ⟨_, rfl⟩
  obtain ⟨y, hy⟩ : ∃ y, (NW.find l m).getD NW.z0 = y := ⟨_, rfl⟩
  rw [hbb, hy] at HFI hrem
  obtain ⟨F, hF⟩ : ∃ F : NW.En → Bool, F = fun x => !b || !decide (x = y) := ⟨_, rfl⟩
  obtain ⟨H, hH⟩ : ∃ H : List NW.En → List NW.En, H = fun r => r.filter F := ⟨_, rfl⟩
  have hres : NW.rem l m = H l := by rw [hrem, hH, hF]
  rw [hres]
  have HF := Lib.hid hF
  have HO1 : Hid (∀ k x, l[k]? = some x → F x = true → H (l.take (k + 1)) = H (l.take k) ++ [x]) := fun k x hx hp => by rw [hH]; simp [LS.filt_in hx hp]
  have HO2 : Hid (∀ k x, l[k]? = some x → F x = false → H (l.take (k + 1)) = H (l.take k)) := fun k x hx hp => by rw [hH]; simp [LS.filt_out hx hp]
  have HO0 : Hid (H (l.take 0) = []) := by rw [hH]; rfl
  have HOL : Hid (∀ k, (H (l.take k)).length ≤ k) := fun k => by
    rw [hH]
    have h1 := List.length_filter_le F (l.take k)
    have h2 := List.length_take_le k l
    simp
    omega
  have HEU := Lib.hid (h1.keep hb)
  clear hF hH hres hrem hbb hy hb k1 hs h1
  go_enter Try.func16, Try.ntmps16
  go_upto_region 2 with (go_at_call 13; (with_reducible refine HFI.out.mono ?_); rintro e w1 ⟨rfl, hb1⟩; have HB1 := Lib.hid hb1; clear hb1)
  obtain ⟨Y, hY⟩ : ∃ Y, w1.alloc (.cells #[.int .i64 y.m.c, .int .i64 y.m.h, .int .i64 y.m.t, .int .i64 y.m.i, .int .i64 y.m.p, .int .i64 y.o, .int .i64 y.k, .int .i64 y.a, .int .i64 y.b] 28) = Y := ⟨_, rfl⟩
  rw [hY]
  have hkY : EnB Y w1.heap.size y := by rw [← hY]; exact new_at rfl
  have hbY : Below U.heap.size U Y := hY ▸ HB1.out.alloc HB1.out.size _
  have HY := Lib.hid (fun (V : World) (hV : Below Y.heap.size Y V) => (hkY.keep hV).cells)
  have HBY := Lib.hid (HB.out.trans (hbY.mono HB.out.size))
  have HX := Lib.hid (fun (V : World) (hV : Below Y.heap.size Y V) => (HEU.out.keep hbY).keep hV)
  clear hU hY hkY hbY HFI HB1 HB HEU x0 x1 x2 x3 x4
  go_wp2_with fail
  go_loopw [7, 9, 18] (fun o _ i V => ∃ k : Nat, k ≤ n ∧ i = .int .i64 (k : Int) ∧ (∃ B r, o = .slice B (H (l.take k)).length r) ∧ Hid (V.ownsRow Y.heap.size 28 9 o (H (l.take k)).length (RS.flat enE (H (l.take k)))) ∧ Hid (Below Y.heap.size Y V)) (fun _ _ i _ => n - (intOf i).toNat)
  case atStart => exact ⟨0, by omega, rfl, ⟨none, 0, by rw [HO0.out]; rfl⟩, by rw [HO0.out]; exact World.ownsRow_nil _ _ _ _, Below.refl _ _⟩
  case round =>
    obtain ⟨k, hk, rfl, ⟨B, r, rfl⟩, HO, HV⟩ := hrel
    by_cases hin : k < n
    · have dk : decide (k < n) = true := decide_eq_true hin
      obtain ⟨x, hx⟩ : ∃ x, l[k]? = some x := ⟨_, List.getElem?_eq_getElem (by rw [HL.out]; exact hin)⟩
      obtain ⟨g, hg, hgl, p0, p1, p2, p3, p4, p5, p6, p7, p8⟩ := en_at (HX.out wr HV.out) hx
      subst hg
      have HXX := Lib.hid hx
      clear hx
      have hlk := HOL.out k
      have sV := HV.out.size
      go_upto_region 6 with (fail)
      obtain ⟨R, hR⟩ : ∃ R, wr.alloc (.cells #[.int .i64 x.m.c, .int .i64 x.m.h, .int .i64 x.m.t, .int .i64 x.m.i, .int .i64 x.m.p, .int .i64 x.o, .int .i64 x.k, .int .i64 x.a, .int .i64 x.b] 28) = R := ⟨_, rfl⟩
      rw [hR]
      have hkR : EnB R wr.heap.size x := by rw [← hR]; exact new_at rfl
      have HVR := Lib.hid (show Below Y.heap.size Y R from hR ▸ HV.out.alloc sV _)
      have HOR := Lib.hid (hR ▸ HO.out.alloc _ : R.ownsRow Y.heap.size 28 9 (.slice B (H (l.take k)).length r) (H (l.take k)).length (RS.flat enE (H (l.take k))))
      obtain ⟨q0, q1, q2, q3, q4, q5, q6, q7, q8⟩ := hkR.cells
      obtain ⟨y0, y1, y2, y3, y4, y5, y6, y7, y8⟩ := HY.out R HVR.out
      clear p0 p1 p2 p3 p4 p5 p6 p7 p8 HO HV hR hkR
      have HO6 := Lib.hid (HOR.out.alloc (.cells (enE.f x).toArray 28))
      have s6 := HVR.out.size
      have hne : ∀ V, (binOp .neq 28 (enV x) (enV y)).run Try.prog V = .ok (.bool (!decide (x = y))) V := fun V => neEn_any x y V
      by_cases hp : F x = true
      · have HT := Lib.hid (HO1.out k x HXX.out hp)
        have hlen : (H (l.take (k + 1))).length = (H (l.take k)).length + 1 := by rw [HT.out]; simp
        cases b with
        | false =>
          clear hp hne HXX y0 y1 y2 y3 y4 y5 y6 y7 y8
          go_wp2_with (at_builtin; refine RgX.wpList_append_any rfl _ _ 29 rfl Y.heap.size 28 i0 _ 9 72 Try.underlying29 hi0 hz0 hs0 hb0 rfl (by decide) _ _ _ rfl HO6.out (some ⟨R.heap.size, 0, none⟩) 1 1 (enE.f x) rfl rfl (.inr ⟨_, rfl, World.news_of_block (World.alloc_heap_new R _)⟩) (enE.one _) (by simp only [maxLen]; omega) (by omega) (by simp; omega) ?_; intro B7 c7 w7 own7 gr7)
          have hb7 := (HVR.out.alloc s6 (.cells (enE.f x).toArray 28)).grown gr7 (by simp; omega) (fun b e => (HO6.out.lt b e).1)
          have HV7 := Lib.hid hb7
          have HO7 : Hid (w7.ownsRow Y.heap.size 28 9 (.slice B7 (H (l.take (k + 1))).length c7) (H (l.take (k + 1))).length (RS.flat enE (H (l.take (k + 1))))) := Lib.hid (by rw [hlen, HT.out, RS.flat_append, RS.flat_one_]; exact own7)
          rw [← hlen]
          clear hb7 gr7 own7 q0 q1 q2 q3 q4 q5 q6 q7 q8 HT hlen
          go_roundw
          case rel => exact ⟨k + 1, by omega, by go_num, ⟨B7, c7, rfl⟩, HO7.out, HV7.out⟩
          case measure => simp [intOf]; omega
        | true =>
          have dq : decide (x = y) = false := by
            rw [HF.out] at hp
            simpa using hp
          rw [dq] at hne
          clear hp HXX dq
          go_wp2_with (at_builtin; refine RgX.wpList_append_any rfl _ _ 29 rfl Y.heap.size 28 i0 _ 9 72 Try.underlying29 hi0 hz0 hs0 hb0 rfl (by decide) _ _ _ rfl HO6.out (some ⟨R.heap.size, 0, none⟩) 1 1 (enE.f x) rfl rfl (.inr ⟨_, rfl, World.news_of_block (World.alloc_heap_new R _)⟩) (enE.one _) (by simp only [maxLen]; omega) (by omega) (by simp; omega) ?_; intro B7 c7 w7 own7 gr7)
          have hb7 := (HVR.out.alloc s6 (.cells (enE.f x).toArray 28)).grown gr7 (by simp; omega) (fun b e => (HO6.out.lt b e).1)
          have HV7 := Lib.hid hb7
          have HO7 : Hid (w7.ownsRow Y.heap.size 28 9 (.slice B7 (H (l.take (k + 1))).length c7) (H (l.take (k + 1))).length (RS.flat enE (H (l.take (k + 1))))) := Lib.hid (by rw [hlen, HT.out, RS.flat_append, RS.flat_one_]; exact own7)
          rw [← hlen]
          clear hb7 gr7 own7 q0 q1 q2 q3 q4 q5 q6 q7 q8 HT hlen
          go_roundw
          case rel => exact ⟨k + 1, by omega, by go_num, ⟨B7, c7, rfl⟩, HO7.out, HV7.out⟩
          case measure => simp [intOf]; omega
      · have hp2 : F x = false := by simpa using hp
        have HT := Lib.hid (HO2.out k x HXX.out hp2)
        have hb1 : b = true := by
          rw [HF.out] at hp2
          cases b
          · simp at hp2
          · rfl
        subst hb1
        have dq : decide (x = y) = true := by
          rw [HF.out] at hp2
          simpa using hp2
        rw [dq] at hne
        clear hp hp2 HXX dq
        go_wp2_with fail
        go_roundw
        case rel => exact ⟨k + 1, by omega, by go_num, ⟨B, r, by rw [HT.out]⟩, by rw [HT.out]; exact HOR.out, HVR.out⟩
        case measure => simp [intOf]; omega
    · have dk : decide (k < n) = false := decide_eq_false hin
      have HT := Lib.hid (show l.take k = l from List.take_of_length_le (by have := HL.out; omega))
      rw [HT.out] at HO ⊢
      clear HT
      go_wp2_with fail
      go_ret
      exact ⟨⟨B, r, rfl, RS.Sl.of_own HO.out rfl⟩, HBY.out.trans (HV.out.mono HBY.out.size)⟩
end Go.Proofs.Ytepbppckhfiplaa
