/-
  The reference's Remove and To. No condition but the length.
-/
import Derived.Test.YtepbppckhfiplaaNwA
import Derived.Test.YtepbppckhfiplaaNwW
import Derived.Test.YtepbppckhfiplaaNwL
import Derived.Deep.Cut
namespace Go.Proofs.Ytepbppckhfiplaa
open Go Go.RowKit Go.Proofs
attribute [local go_sem] Oper.semAt_some

theorem info_split4 {P : Program} {t : TypeId} {z : Option Value} {s b : Nat} (h : (P.info? t).map (fun i => (i.zero, i.size, i.bytes)) = some (z, s, b)) : ∃ i, P.info? t = some i ∧ i.zero = z ∧ i.size = s ∧ i.bytes = b := by
  cases hq : P.info? t with
  | none => rw [hq] at h; cases h
  | some i =>
    rw [hq] at h
    simp only [Option.map_some, Option.some.injEq, Prod.mk.injEq] at h
    exact ⟨i, rfl, h.1, h.2.1, h.2.2⟩
set_option maxHeartbeats 4000000 in
set_option maxRecDepth 100000 in
theorem refRemove_any {A : Option Addr} {n c : Nat} {l : List NW.En} (m : NM.Ms) (w : World) (h1 : Ens w A n c l) (bn : n ≤ 100000) :
    Calls Try.prog 17 #[.slice A n c, msV m] w fun e w' => (∃ B c', e = .returned (.slice B (NW.rem l m).length c') ∧ Ens w' B (NW.rem l m).length c' (NW.rem l m)) ∧ Below w.heap.size w w' := by
  obtain ⟨i0, hi0, hz0, hs0, hb0⟩ := info_split4 info_en
  obtain ⟨U, hU⟩ : ∃ U, w.alloc (.cells #[.int .i64 m.c, .int .i64 m.h, .int .i64 m.t, .int .i64 m.i, .int .i64 m.p] 26) = U := ⟨_, rfl⟩
  have hb : Below w.heap.size w U := hU ▸ one_box w _
  have k1 : MsB U w.heap.size m := by rw [← hU]; exact new_at rfl
  have HK := Lib.hid (fun (V : World) (hV : Below U.heap.size U V) => (k1.keep hV).cells)
  have HX := Lib.hid (fun (V : World) (hV : Below U.heap.size U V) => (h1.keep hb).keep hV)
  have HB := Lib.hid hb
  clear k1 hb
  have HL := Lib.hid h1.len
  clear h1
  obtain ⟨F, hF⟩ : ∃ F : NW.En → Bool, F = fun x => !decide (x.m = m) := ⟨_, rfl⟩
  obtain ⟨H, hH⟩ : ∃ H : List NW.En → List NW.En, H = fun r => (r.filter F) := ⟨_, rfl⟩
  have hres : NW.rem l m = H l := by rw [hH, hF]; rfl
  rw [hres]
  have HF := Lib.hid hF
  have HO1 : Hid (∀ k x, l[k]? = some x → F x = true → H (l.take (k + 1)) = H (l.take k) ++ [x]) := fun k x hx hp => by rw [hH]; simp [LS.filt_in hx hp]
  have HO2 : Hid (∀ k x, l[k]? = some x → F x = false → H (l.take (k + 1)) = H (l.take k)) := fun k x hx hp => by rw [hH]; simp [LS.filt_out hx hp]
  have HO0 : Hid (H (l.take 0) = []) := by rw [hH]; rfl
  have HOL : Hid (∀ k, (H (l.take k)).length ≤ k) := fun k => by
    rw [hH]
    have h1 := List.length_filter_le F (l.take k)
    have h2 := List.length_take_le k l
    simp
    omega
  clear hF hH hres
  go_enter Try.func17, Try.ntmps17
  go_wp2_with fail
  clear hU
  go_loopw [5, 6] (fun o i V => ∃ k : Nat, k ≤ n ∧ i = .int .i64 (k : Int) ∧ (∃ B r, o = .slice B (H (l.take k)).length r) ∧ Hid (V.ownsRow U.heap.size 28 9 o (H (l.take k)).length (RS.flat enE (H (l.take k)))) ∧ Hid (Below U.heap.size U V)) (fun _ i _ => n - (intOf i).toNat)
  case atStart => exact ⟨0, by omega, rfl, ⟨none, 0, by rw [HO0.out]; rfl⟩, by rw [HO0.out]; exact World.ownsRow_nil _ _ _ _, Below.refl _ _⟩
  case round =>
    obtain ⟨k, hk, rfl, ⟨B, r, rfl⟩, HO, HV⟩ := hrel
    obtain ⟨x0, x1, x2, x3, x4⟩ := HK.out wr HV.out
    by_cases hin : k < n
    · have dk : decide (k < n) = true := decide_eq_true hin
      obtain ⟨x, hx⟩ : ∃ x, l[k]? = some x := ⟨_, List.getElem?_eq_getElem (by rw [HL.out]; exact hin)⟩
      have HXK := Lib.hid (fun (V : World) (hV : Below U.heap.size U V) => en_at (HX.out V hV) hx)
      obtain ⟨g, hg, hgl, p0, p1, p2, p3, p4, p5, p6, p7, p8⟩ := HXK.out wr HV.out
      subst hg
      have HXX := Lib.hid hx
      clear hx
      have hlk := HOL.out k
      have hne : ∀ V, (binOp .neq 26 (msV x.m) (msV m)).run Try.prog V = .ok (.bool (!decide (x.m = m))) V := fun V => neM_any x.m m V
      by_cases hxy : x.m = m
      · have dq : decide (x.m = m) = true := decide_eq_true hxy
        simp only [dq, Bool.not_true] at hne
        have HT := Lib.hid (HO2.out k x HXX.out (by rw [HF.out]; simp [hxy]))
        clear HXX
        go_wp2_with (go_quiet (fail))
        go_roundw
        case rel => exact ⟨k + 1, by omega, by go_num, ⟨B, r, by rw [HT.out]⟩, by rw [HT.out]; exact HO.out, HV.out.trans ((drewN_below wr _).mono HV.out.size)⟩
        case measure => simp [intOf]; omega
      · have dq : decide (x.m = m) = false := decide_eq_false hxy
        simp only [dq, Bool.not_false] at hne
        have HT := Lib.hid (HO1.out k x HXX.out (by rw [HF.out]; simp [hxy]))
        clear HXX
        go_upto_region 6 with (go_quiet (fail))
        clear p0 p1 p2 p3 p4 p5 p6 p7 p8 x0 x1 x2 x3 x4 
        have hv6 : Below U.heap.size U (wr.drewN nq) := HV.out.trans ((drewN_below wr nq).mono HV.out.size)
        have ho6 : (wr.drewN nq).ownsRow U.heap.size 28 9 (.slice B (H (l.take k)).length r) (H (l.take k)).length (RS.flat enE (H (l.take k))) := HO.out
        obtain ⟨w6, h6⟩ : ∃ W, W = wr.drewN nq := ⟨_, rfl⟩
        rw [← h6] at hv6 ho6 ⊢
        have HV6 := Lib.hid hv6
        have HO6 := Lib.hid (ho6.alloc (.cells (enE.f (x)).toArray 28))
        have s6 := HV6.out.size
        clear hv6 ho6 HO h6
        obtain ⟨g_, hg_, hgl6, p0, p1, p2, p3, p4, p5, p6, p7, p8⟩ := HXK.out w6 HV6.out
        obtain rfl : g = g_ := by injection hg_ with hg_; injection hg_
        clear hg_
        go_wp2_with (at_builtin; refine RgX.wpList_append_any rfl _ _ 29 rfl U.heap.size 28 i0 _ 9 72 Try.underlying29 hi0 hz0 hs0 hb0 rfl (by decide) _ _ _ rfl HO6.out (some ⟨w6.heap.size, 0, none⟩) 1 1 (enE.f (x)) rfl rfl (.inr ⟨_, rfl, World.news_of_block (World.alloc_heap_new w6 _)⟩) (enE.one _) (by simp only [maxLen]; omega) (by omega) (by simp; omega) ?_; intro B7 c7 w7 own7 gr7)
        have hb7 := (HV6.out.alloc s6 (.cells (enE.f (x)).toArray 28)).grown gr7 (by simp; omega) (fun b e => (HO6.out.lt b e).1)
        have HV7 := Lib.hid hb7
        have hlen : (H (l.take (k + 1))).length = (H (l.take k)).length + 1 := by rw [HT.out]; simp
        have HO7 : Hid (w7.ownsRow U.heap.size 28 9 (.slice B7 (H (l.take (k + 1))).length c7) (H (l.take (k + 1))).length (RS.flat enE (H (l.take (k + 1))))) := Lib.hid (by rw [hlen, HT.out, RS.flat_append, RS.flat_one_]; exact own7)
        rw [← hlen]
        clear hb7 gr7 own7 p0 p1 p2 p3 p4 p5 p6 p7 p8 HT hlen
        go_roundw
        case rel => exact ⟨k + 1, by omega, by go_num, ⟨B7, c7, rfl⟩, HO7.out, HV7.out⟩
        case measure => simp [intOf]; omega
    · have dk : decide (k < n) = false := decide_eq_false hin
      have HT := Lib.hid (show l.take k = l from List.take_of_length_le (by have := HL.out; omega))
      rw [HT.out] at HO ⊢
      clear HT
      go_wp2_with fail
      go_ret
      exact ⟨⟨B, r, rfl, RS.Sl.of_own HO.out rfl⟩, HB.out.trans (HV.out.mono HB.out.size)⟩
set_option maxHeartbeats 4000000 in
set_option maxRecDepth 100000 in
theorem refTo_any {A : Option Addr} {n c : Nat} {l : List NW.En} (v : Int) (w : World) (h1 : Ens w A n c l) (bn : n ≤ 100000) :
    Calls Try.prog 23 #[.slice A n c, .int .i64 v] w fun e w' => (∃ B c', e = .returned (.slice B (NW.toL l v).length c') ∧ Mss w' B (NW.toL l v).length c' (NW.toL l v)) ∧ Below w.heap.size w w' := by
  obtain ⟨i0, hi0, hz0, hs0, hb0⟩ := info_split4 info_ms
  have HX := Lib.hid (fun (V : World) (hV : Below w.heap.size w V) => h1.keep hV)
  have HB := Lib.hid (Below.refl w.heap.size w)
  have HL := Lib.hid h1.len
  clear h1
  obtain ⟨F, hF⟩ : ∃ F : NW.En → Bool, F = fun x => decide (x.o = v) := ⟨_, rfl⟩
  obtain ⟨H, hH⟩ : ∃ H : List NW.En → List NM.Ms, H = fun r => (r.filter F).map (·.m) := ⟨_, rfl⟩
  have hres : NW.toL l v = H l := by rw [hH, hF]; rfl
  rw [hres]
  have HF := Lib.hid hF
  have HO1 : Hid (∀ k x, l[k]? = some x → F x = true → H (l.take (k + 1)) = H (l.take k) ++ [x.m]) := fun k x hx hp => by rw [hH]; simp [LS.filt_in hx hp]
  have HO2 : Hid (∀ k x, l[k]? = some x → F x = false → H (l.take (k + 1)) = H (l.take k)) := fun k x hx hp => by rw [hH]; simp [LS.filt_out hx hp]
  have HO0 : Hid (H (l.take 0) = []) := by rw [hH]; rfl
  have HOL : Hid (∀ k, (H (l.take k)).length ≤ k) := fun k => by
    rw [hH]
    have h1 := List.length_filter_le F (l.take k)
    have h2 := List.length_take_le k l
    simp
    omega
  clear hF hH hres
  go_enter Try.func23, Try.ntmps23
  go_wp2_with fail
  go_loopw [5, 6] (fun o i V => ∃ k : Nat, k ≤ n ∧ i = .int .i64 (k : Int) ∧ (∃ B r, o = .slice B (H (l.take k)).length r) ∧ Hid (V.ownsRow w.heap.size 26 5 o (H (l.take k)).length (RS.flat msE (H (l.take k)))) ∧ Hid (Below w.heap.size w V)) (fun _ i _ => n - (intOf i).toNat)
  case atStart => exact ⟨0, by omega, rfl, ⟨none, 0, by rw [HO0.out]; rfl⟩, by rw [HO0.out]; exact World.ownsRow_nil _ _ _ _, Below.refl _ _⟩
  case round =>
    obtain ⟨k, hk, rfl, ⟨B, r, rfl⟩, HO, HV⟩ := hrel
    by_cases hin : k < n
    · have dk : decide (k < n) = true := decide_eq_true hin
      obtain ⟨x, hx⟩ : ∃ x, l[k]? = some x := ⟨_, List.getElem?_eq_getElem (by rw [HL.out]; exact hin)⟩
      have HXK := Lib.hid (fun (V : World) (hV : Below w.heap.size w V) => en_at (HX.out V hV) hx)
      obtain ⟨g, hg, hgl, p0, p1, p2, p3, p4, p5, p6, p7, p8⟩ := HXK.out wr HV.out
      subst hg
      have HXX := Lib.hid hx
      clear hx
      have hlk := HOL.out k
      skip
      by_cases hxy : ¬ x.o = v
      · have dq : (x.o == v) = false := by simpa using hxy
        have HT := Lib.hid (HO2.out k x HXX.out (by rw [HF.out]; simp [hxy]))
        clear HXX
        go_wp2_with (go_quiet (fail))
        go_roundw
        case rel => exact ⟨k + 1, by omega, by go_num, ⟨B, r, by rw [HT.out]⟩, by rw [HT.out]; exact HO.out, HV.out⟩
        case measure => simp [intOf]; omega
      · have dq : (x.o == v) = true := by simpa using hxy
        have HT := Lib.hid (HO1.out k x HXX.out (by rw [HF.out]; simpa using hxy))
        clear HXX
        go_upto_region 6 with (go_quiet (fail))
        clear p0 p1 p2 p3 p4 p5 p6 p7 p8 
        have hv6 : Below w.heap.size w (wr) := HV.out
        have ho6 : (wr).ownsRow w.heap.size 26 5 (.slice B (H (l.take k)).length r) (H (l.take k)).length (RS.flat msE (H (l.take k))) := HO.out
        obtain ⟨w6, h6⟩ : ∃ W, W = wr := ⟨_, rfl⟩
        rw [← h6] at hv6 ho6 ⊢
        have HV6 := Lib.hid hv6
        have HO6 := Lib.hid (ho6.alloc (.cells (msE.f (x.m)).toArray 26))
        have s6 := HV6.out.size
        clear hv6 ho6 HO h6
        obtain ⟨g_, hg_, hgl6, p0, p1, p2, p3, p4, p5, p6, p7, p8⟩ := HXK.out w6 HV6.out
        obtain rfl : g = g_ := by injection hg_ with hg_; injection hg_
        clear hg_
        go_wp2_with (at_builtin; refine RgX.wpList_append_any rfl _ _ 43 rfl w.heap.size 26 i0 _ 5 40 Try.underlying43 hi0 hz0 hs0 hb0 rfl (by decide) _ _ _ rfl HO6.out (some ⟨w6.heap.size, 0, none⟩) 1 1 (msE.f (x.m)) rfl rfl (.inr ⟨_, rfl, World.news_of_block (World.alloc_heap_new w6 _)⟩) (msE.one _) (by simp only [maxLen]; omega) (by omega) (by simp; omega) ?_; intro B7 c7 w7 own7 gr7)
        have hb7 := (HV6.out.alloc s6 (.cells (msE.f (x.m)).toArray 26)).grown gr7 (by simp; omega) (fun b e => (HO6.out.lt b e).1)
        have HV7 := Lib.hid hb7
        have hlen : (H (l.take (k + 1))).length = (H (l.take k)).length + 1 := by rw [HT.out]; simp
        have HO7 : Hid (w7.ownsRow w.heap.size 26 5 (.slice B7 (H (l.take (k + 1))).length c7) (H (l.take (k + 1))).length (RS.flat msE (H (l.take (k + 1))))) := Lib.hid (by rw [hlen, HT.out, RS.flat_append, RS.flat_one_]; exact own7)
        rw [← hlen]
        clear hb7 gr7 own7 p0 p1 p2 p3 p4 p5 p6 p7 p8 HT hlen
        go_roundw
        case rel => exact ⟨k + 1, by omega, by go_num, ⟨B7, c7, rfl⟩, HO7.out, HV7.out⟩
        case measure => simp [intOf]; omega
    · have dk : decide (k < n) = false := decide_eq_false hin
      have HT := Lib.hid (show l.take k = l from List.take_of_length_le (by have := HL.out; omega))
      rw [HT.out] at HO ⊢
      clear HT
      go_wp2_with fail
      go_ret
      exact ⟨⟨B, r, rfl, RS.Sl.of_own HO.out rfl⟩, HB.out.trans (HV.out.mono HB.out.size)⟩
end Go.Proofs.Ytepbppckhfiplaa
