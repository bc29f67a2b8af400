/-
  The program's To. No condition but the length.
-/
import Derived.Test.YtepbppckhfiplaaNwV
namespace Go.Proofs.Ytepbppckhfiplaa
open Go Go.RowKit Go.Proofs
attribute [local go_sem] Oper.semAt_some

set_option maxHeartbeats 4000000 in
set_option maxRecDepth 100000 in
theorem to_any {A : Option Addr} {n c : Nat} {l : List NW.En} (v : Int) (w : World) (h1 : Ens w A n c l) (bn : n ≤ 100000) :
    Calls Try.prog 22 #[.slice A n c, .int .i64 v] w fun e w' => (∃ B c', e = .returned (.slice B (NW.toL l v).length c') ∧ Mss w' B (NW.toL l v).length c' (NW.toL l v)) ∧ Below w.heap.size w w' := by
  obtain ⟨i0, hi0, hz0, hs0, hb0⟩ := info_split4 info_ms
  have HX := Lib.hid (fun (V : World) (hV : Below w.heap.size w V) => h1.keep hV)
  have HL := Lib.hid h1.len
  clear h1
  obtain ⟨F, hF⟩ : ∃ F : NW.En → Bool, F = fun x => decide (x.o = v) := ⟨_, rfl⟩
  obtain ⟨H, hH⟩ : ∃ H : List NW.En → List NM.Ms, H = fun r => (r.filter F).map (·.m) := ⟨_, rfl⟩
  have hres : NW.toL l v = H l := by rw [hH, hF]; rfl
  rw [hres]
  have HF := Lib.hid hF
  have HO1 : Hid (∀ k x, l[k]? = some x → F x = true → H (l.take (k + 1)) = H (l.take k) ++ [x.m]) := fun k x hx hp => by rw [hH]; simp [LS.filt_in hx hp]
  have HO2 : Hid (∀ k x, l[k]? = some x → F x = false → H (l.take (k + 1)) = H (l.take k)) := fun k x hx hp => by rw [hH]; simp [LS.filt_out hx hp]
  have HO0 : Hid (H (l.take 0) = []) := by rw [hH]; rfl
  have HOL : Hid (∀ k, (H (l.take k)).length ≤ k) := fun k => by
    rw [hH]
    have h1 := List.length_filter_le F (l.take k)
    have h2 := List.length_take_le k l
    simp
    omega
  clear hF hH hres
  go_enter Try.func22, Try.ntmps22
  go_wp2_with fail
  go_loopw [5, 7, 10] (fun o _ i V => ∃ k : Nat, k ≤ n ∧ i = .int .i64 (k : Int) ∧ (∃ B r, o = .slice B (H (l.take k)).length r) ∧ Hid (V.ownsRow w.heap.size 26 5 o (H (l.take k)).length (RS.flat msE (H (l.take k)))) ∧ Hid (Below w.heap.size w V)) (fun _ _ i _ => n - (intOf i).toNat)
  case atStart => exact ⟨0, by omega, rfl, ⟨none, 0, by rw [HO0.out]; rfl⟩, by rw [HO0.out]; exact World.ownsRow_nil _ _ _ _, Below.refl _ _⟩
  case round =>
    obtain ⟨k, hk, rfl, ⟨B, r, rfl⟩, HO, HV⟩ := hrel
    by_cases hin : k < n
    · have dk : decide (k < n) = true := decide_eq_true hin
      obtain ⟨x, hx⟩ : ∃ x, l[k]? = some x := ⟨_, List.getElem?_eq_getElem (by rw [HL.out]; exact hin)⟩
      obtain ⟨g, hg, hgl, p0, p1, p2, p3, p4, p5, p6, p7, p8⟩ := en_at (HX.out wr HV.out) hx
      subst hg
      have HXX := Lib.hid hx
      clear hx
      have hlk := HOL.out k
      have sV := HV.out.size
      go_upto_region 5 with (fail)
      obtain ⟨U, hU⟩ : ∃ U, wr.alloc (.cells #[.int .i64 x.m.c, .int .i64 x.m.h, .int .i64 x.m.t, .int .i64 x.m.i, .int .i64 x.m.p, .int .i64 x.o, .int .i64 x.k, .int .i64 x.a, .int .i64 x.b] 28) = U := ⟨_, rfl⟩
      rw [hU]
      have hkU : EnB U wr.heap.size x := by rw [← hU]; exact new_at rfl
      have HVU := Lib.hid (show Below w.heap.size w U from hU ▸ HV.out.alloc sV _)
      have HOU := Lib.hid (hU ▸ HO.out.alloc _ : U.ownsRow w.heap.size 26 5 (.slice B (H (l.take k)).length r) (H (l.take k)).length (RS.flat msE (H (l.take k))))
      obtain ⟨q0, q1, q2, q3, q4, q5, q6, q7, q8⟩ := hkU.cells
      clear p0 p1 p2 p3 p4 p5 p6 p7 p8 HO HV hU hkU
      by_cases hxy : ¬ x.o = v
      · have dq : (x.o == v) = false := by simpa using hxy
        have HT := Lib.hid (HO2.out k x HXX.out (by rw [HF.out]; simp [hxy]))
        clear HXX
        go_wp2_with fail
        go_roundw
        case rel => exact ⟨k + 1, by omega, by go_num, ⟨B, r, by rw [HT.out]⟩, by rw [HT.out]; exact HOU.out, HVU.out⟩
        case measure => simp [intOf]; omega
      · have dq : (x.o == v) = true := by simpa using hxy
        have HT := Lib.hid (HO1.out k x HXX.out (by rw [HF.out]; simpa using hxy))
        have HO6 := Lib.hid (HOU.out.alloc (.cells (msE.f x.m).toArray 26))
        have s6 := HVU.out.size
        clear HXX
        go_wp2_with (at_builtin; refine RgX.wpList_append_any rfl _ _ 43 rfl w.heap.size 26 i0 _ 5 40 Try.underlying43 hi0 hz0 hs0 hb0 rfl (by decide) _ _ _ rfl HO6.out (some ⟨U.heap.size, 0, none⟩) 1 1 (msE.f x.m) rfl rfl (.inr ⟨_, rfl, World.news_of_block (World.alloc_heap_new U _)⟩) (msE.one _) (by simp only [maxLen]; omega) (by omega) (by simp; omega) ?_; intro B7 c7 w7 own7 gr7)
        have hb7 := (HVU.out.alloc s6 (.cells (msE.f x.m).toArray 26)).grown gr7 (by simp; omega) (fun b e => (HO6.out.lt b e).1)
        have HV7 := Lib.hid hb7
        have hlen : (H (l.take (k + 1))).length = (H (l.take k)).length + 1 := by rw [HT.out]; simp
        have HO7 : Hid (w7.ownsRow w.heap.size 26 5 (.slice B7 (H (l.take (k + 1))).length c7) (H (l.take (k + 1))).length (RS.flat msE (H (l.take (k + 1))))) := Lib.hid (by rw [hlen, HT.out, RS.flat_append, RS.flat_one_]; exact own7)
        rw [← hlen]
        clear hb7 gr7 own7 q0 q1 q2 q3 q4 q5 q6 q7 q8 HT hlen
        go_roundw
        case rel => exact ⟨k + 1, by omega, by go_num, ⟨B7, c7, rfl⟩, HO7.out, HV7.out⟩
        case measure => simp [intOf]; omega
    · have dk : decide (k < n) = false := decide_eq_false hin
      have HT := Lib.hid (show l.take k = l from List.take_of_length_le (by have := HL.out; omega))
      rw [HT.out] at HO ⊢
      clear HT
      go_wp2_with fail
      go_ret
      exact ⟨⟨B, r, rfl, RS.Sl.of_own HO.out rfl⟩, HV.out⟩
end Go.Proofs.Ytepbppckhfiplaa
