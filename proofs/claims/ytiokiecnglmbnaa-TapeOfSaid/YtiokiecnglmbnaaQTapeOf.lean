/-
  The walk of the law TapeOf. No condition beyond the argument's reading.
  The statement TapeOf: for every input the law answers true and leaves its arguments as they were. No condition is added. The frame of this proof was written after the guide's program, the walk is the text LawTapeOf's.
-/
import Derived.Test.YtiokiecnglmbnaaK54
import Derived.Test.YtiokiecnglmbnaaK58
import Derived.Test.YtiokiecnglmbnaaK24
import Derived.Test.YtiokiecnglmbnaaK3
import Derived.Test.YtiokiecnglmbnaaRows
import Derived.WalkKit
import Derived.ProofKit
import Derived.OpenShut
import Derived.ShutString
import Derived.ChangeOld
import Derived.Below
import Derived.Deep.Grids

namespace Go.Proofs.Ytiokiecnglmbnaa.LawTapeOf
open Go Go.RowKit Go.Proofs Go.Proofs.Ytiokiecnglmbnaa
attribute [local go_sem] Oper.semAt_some

theorem info_step : (Try.prog.info? 51).map (fun i => (i.zero, i.size, i.bytes)) = some (some (.agg #[.int .i64 0, .int .i64 0, .int .i64 0, .int .i64 0, .int .i64 0, .int .i64 0, .int .i64 0, .int .i64 0, .slice none 0 0, .bool false, .slice none 0 0]), 11, 120) := by kernel_rfl
theorem asks_grow {W W' : World} {base L n : Nat} {B : Option Addr} {m c : Nat} {l : List (NM.Qu × Int)} {v : Value} {xs : List Value} (h : AsksOwn W base B m c l) (ho : W.ownsRow L 51 11 v n xs) (hg : W.grownBy W' v.ownBlock) : AsksOwn W' base B m c l := by
  refine ⟨h.1, ?_⟩
  rcases ho.2 with ⟨rfl, _⟩ | ⟨g, cap, cur, rfl, _, hh, _⟩
  · exact h.2.kept hg (by cases hv : (Value.slice B m c).ownBlock <;> simp [Value.ownBlock])
  · exact h.2.kept hg (own_ne h.2 hh (by decide))
theorem flat_l_le : ∀ {R : List Rec}, (∀ r ∈ R, r.l.length ≤ 100) → (R.flatMap (·.l)).length ≤ 100 * R.length
  | [], _ => Nat.le_refl _
  | r :: R, h => by
    have h1 := h r (List.mem_cons_self ..)
    have h2 := flat_l_le (R := R) fun x hx => h x (List.mem_cons_of_mem _ hx)
    rw [List.flatMap_cons, List.length_append, List.length_cons]
    omega
set_option maxHeartbeats 16000000 in
set_option maxRecDepth 100000 in
theorem walk (a0 : Option Addr) (len0 cap0 : Nat) (w : World) (w0 : Grid w a0 len0) :
    Calls Try.prog 4 #[.slice a0 len0 cap0] w fun e w' => e = .returned (.bool true) ∧ Below w.heap.size w w' := by
  obtain ⟨iS, hiS, hzS, hsS, hbS⟩ := info_splitE info_step
  have HG := Lib.hid w0
  clear w0
  go_enter Try.func4, Try.ntmps4
  go_wp2_with fail
  go_loopw [3, 4] (fun run i V => ∃ (k c : Nat) (A : Option Addr) (R : List Rec), k ≤ len0 ∧ k ≤ 8 ∧ i = .int .i64 (k : Int) ∧ run = .slice A k c ∧ Hid (R.length = k ∧ V.ownsRow w.heap.size 51 11 (.slice A k c) k (R.flatMap stC)) ∧ Hid (∀ r ∈ R, AsksOwn V w.heap.size r.B r.l.length r.c r.l ∧ r.l.length ≤ 100) ∧ Hid (Below w.heap.size w V)) (fun _ i _ => 8 - (intOf i).toNat)
  case atStart => exact ⟨0, 0, none, [], by omega, by omega, rfl, rfl, ⟨rfl, World.ownsRow_nil _ _ _ _⟩, (fun r hr => by cases hr), Below.refl _ _⟩
  case round =>
    obtain ⟨k, c, A, R, hk, hk8, rfl, rfl, HO, HA, HV⟩ := hrel
    by_cases hgo : k < len0 ∧ k < 8
    · obtain ⟨hin, hin8⟩ := hgo
      have dk : decide (k < len0) = true := decide_eq_true hin
      have dk2 : decide ((k : Int) < (len0 : Int)) = true := decide_eq_true (by omega)
      have dk3 : decide ((k : Int) < 8) = true := decide_eq_true (by omega)
      have dk4 : decide (k < 8) = true := decide_eq_true hin8
      have hki : (k : Int) < (len0 : Int) := by omega
      obtain ⟨b, off, hab, hbl, hrows⟩ := HG.out (by omega)
      obtain ⟨A', L, C, Z, hcell, hrow⟩ := hrows k hin
      subst hab
      have c0 := (HV.out.cell (p := ⟨b, off + k, none⟩) hbl).trans hcell
      have HIN := Lib.hid (ints_any A' L C _ 20 (by decide) (by decide) wr (hrow.slc.below HV.out))
      have hz64 : ∀ x ∈ (Z.take L).take (20 : Int).toNat, I64 x := fun x hx => i64_of hrow.ints.2.2.2 x (List.mem_of_mem_take hx)
      obtain ⟨zz, hzz⟩ : ∃ z, (Z.take L).take (20 : Int).toNat = z := ⟨_, rfl⟩
      rw [hzz] at HIN hz64
      obtain ⟨⟨xk, xn, xa, ⟨xc, xh, xt, xi, xp⟩⟩, hev⟩ : ∃ e, NM.stepEv zz = e := ⟨_, rfl⟩
      obtain ⟨al, hal⟩ : ∃ l, NM.stepAsks zz (NM.stepN zz) = l := ⟨_, rfl⟩
      have hll : NM.stepN zz = al.length := by rw [← hal]; exact (NM.stepAsks_len _ _).symm
      have hl3 : al.length ≤ 3 := by rw [← hll]; exact NM.stepN_le zz
      have HST := Lib.hid (fun (V : World) {A1 : Option Addr} {n1 c1 : Nat} (hz : Ints .i64 V.heap.size V A1 n1 zz) => show Calls Try.prog 25 #[.slice A1 n1 c1] V fun e w' => ∃ B2 c2, e = .returned (.agg #[.int .i64 xk, .int .i64 xn, .int .i64 xa, .int .i64 xc, .int .i64 xh, .int .i64 xt, .int .i64 xi, .int .i64 xp, .slice B2 al.length c2, .bool false, .slice none 0 0]) ∧ AsksOwn w' V.heap.size B2 al.length c2 al ∧ Below V.heap.size V w' from by
        have h := stepOf_any (c := c1) V hz hz64
        unfold StepR at h
        rw [hev, hal, hll] at h
        exact h)
      clear hrows hcell hrow hz64 hzz hev hal hll
      go_wp2_with (first
        | (go_at_call 26; refine HIN.out.mono ?_; clear HIN; rintro e w4 ⟨A4, n4, c4, rfl, _, m2, _, m4⟩; have H4 := Lib.hid (And.intro m2.ints m4); clear m2 m4)
        | (go_at_call 25; refine (HST.out w4 H4.out.1).mono ?_; clear HST; rintro e w5 ⟨B2, c2, rfl, m1, m2⟩
           have b5 : Below wr.heap.size wr w5 := H4.out.2.trans (m2.mono H4.out.2.size)
           have hlo4 : w.heap.size ≤ w4.heap.size := by have := HV.out.size; have := H4.out.2.size; omega
           have H5 := Lib.hid (And.intro (show AsksOwn w5 w.heap.size B2 al.length c2 al from ⟨m1.1, own_base m1.2 hlo4⟩) b5)
           clear m1 m2 b5 hlo4)
        | (at_builtin; refine wpList_append_lies _ rfl (.tmp 15) (.tmp 22) 43 rfl w.heap.size 51 iS _ 11 120 Try.underlying43 hiS hzS hsS hbS rfl (by decide) (.slice A k c) k (R.flatMap stC) (by simp [Act.eval]) (own_belowW (own_belowW HO.out.2 H5.out.2) (one_box w5 _)) ⟨w5.heap.size, 0, none⟩ 1 1 (stC ⟨⟨xk, xn, xa, ⟨xc, xh, xt, xi, xp⟩⟩, B2, c2, al⟩) (by simp [Act.eval]) rfl (World.news_of_block (World.alloc_heap_new w5 _)) (by simp [stC, Value.oneCell']) (by decide) (by simp only [maxLen]; omega) (by omega) (by have := HV.out.size; have := H5.out.2.size; simp; omega) _ rfl ?_
           intro g7 c7 w7 hown7 hgr7 _ _
           have hbx : Below w5.heap.size w5 (w5.alloc (.cells #[.int .i64 xk, .int .i64 xn, .int .i64 xa, .int .i64 xc, .int .i64 xh, .int .i64 xt, .int .i64 xi, .int .i64 xp, .slice B2 al.length c2, .bool false, .slice none 0 0] 51)) := one_box w5 _
           have hwb := H5.out.2.trans (hbx.mono H5.out.2.size)
           have ho0 := own_belowW HO.out.2 hwb
           have hob : ∀ b, (Value.slice A k c).ownBlock = some b → w.heap.size ≤ b := fun b hb => own_lo ho0 hb
           have hv7 := (HV.out.trans (hwb.mono HV.out.size)).grown hgr7 (by have := HV.out.size; have := hwb.size; omega) (fun b e => hob b e)
           have ha7 : ∀ r ∈ R ++ [(⟨⟨xk, xn, xa, ⟨xc, xh, xt, xi, xp⟩⟩, B2, c2, al⟩ : Rec)], AsksOwn w7 w.heap.size r.B r.l.length r.c r.l ∧ r.l.length ≤ 100 := by
             intro r hr
             rcases List.mem_append.1 hr with hr | hr
             · obtain ⟨p1, p2⟩ := HA.out r hr
               exact ⟨asks_grow ⟨p1.1, own_belowW p1.2 hwb⟩ ho0 hgr7, p2⟩
             · rw [List.mem_singleton.1 hr]
               exact ⟨asks_grow ⟨H5.out.1.1, own_belowW H5.out.1.2 hbx⟩ ho0 hgr7, by show al.length ≤ 100; omega⟩
           have H7 := Lib.hid (And.intro (show (R ++ [(⟨⟨xk, xn, xa, ⟨xc, xh, xt, xi, xp⟩⟩, B2, c2, al⟩ : Rec)]).length = k + 1 ∧ w7.ownsRow w.heap.size 51 11 (.slice (some ⟨g7, 0, none⟩) (k + 1) c7) (k + 1) ((R ++ [(⟨⟨xk, xn, xa, ⟨xc, xh, xt, xi, xp⟩⟩, B2, c2, al⟩ : Rec)]).flatMap stC) from ⟨by rw [List.length_append, HO.out.1]; rfl, by rw [List.flatMap_append, show [(⟨⟨xk, xn, xa, ⟨xc, xh, xt, xi, xp⟩⟩, B2, c2, al⟩ : Rec)].flatMap stC = stC ⟨⟨xk, xn, xa, ⟨xc, xh, xt, xi, xp⟩⟩, B2, c2, al⟩ by simp]; exact hown7⟩) (And.intro ha7 hv7))
           clear hbx hwb ho0 hob hv7 ha7 hown7 hgr7))
      go_roundw
      case rel => exact ⟨k + 1, c7, _, _, by omega, by omega, by go_num, rfl, H7.out.1, H7.out.2.1, H7.out.2.2⟩
      case measure => simp [intOf]; omega
    · have HRN := Lib.hid (Run.of_own HO.out.2 HO.out.1 (fun r hr => ⟨AsksOwn.asks (HA.out r hr).1, (HA.out r hr).2⟩))
      have hfl := flat_l_le (R := R) (fun r hr => (HA.out r hr).2)
      have hrl := HO.out.1
      have hnl := TP.norm_len (R.flatMap (·.l))
      have HOF := Lib.hid (of_any wr HRN.out (by omega))
      have HRF := Lib.hid (fun (V : World) (hV : Below wr.heap.size wr V) => refOf_any V (HRN.out.keep hV) hk8)
      clear HO HA HG
      by_cases hin : k < len0
      · have dk : decide (k < len0) = true := decide_eq_true hin
        have dk2 : decide ((k : Int) < (len0 : Int)) = true := decide_eq_true (by omega)
        have h8 : ¬ k < 8 := fun h => hgo ⟨hin, h⟩
        have dk3 : decide ((k : Int) < 8) = false := decide_eq_false (by omega)
        have dk4 : decide (k < 8) = false := decide_eq_false h8
        clear hgo
        go_wp2_with (first
          | (go_at_call 27; refine HOF.out.mono ?_; clear HOF; rintro e w1 ⟨⟨v, rfl, E1, n1, d1, A1, m1, f1, rfl, ht⟩, hb1⟩
             have HT1 := Lib.hid (And.intro (show TapeIs wr.heap.size w1 E1 n1 d1 A1 m1 f1 (R.map (·.ev)) (TP.normA (R.flatMap (·.l))) from ht) hb1)
             clear ht hb1)
          | (go_at_call 28; refine (HRF.out w1 HT1.out.2).mono ?_; clear HRF; rintro e w2 ⟨⟨_, E2, d2, A2, m2, f2, rfl, rfl, ht2⟩, hb2⟩
             have hl1 := HT1.out.1.1.1
             have hl2 := HT1.out.1.1.2
             rw [List.length_map] at hl1
             have HSM := Lib.hid (same_good (c1 := d1) (d1 := f1) (c2 := d2) (d2 := f2) w2 ((HT1.out.1.tin (by omega) (by omega)).keep hb2) ht2)
             have HB2 := Lib.hid (HT1.out.2.trans (hb2.mono HT1.out.2.size))
             clear ht2 hb2)
          | (go_at_call 16; refine HSM.out.mono ?_; clear HSM; rintro e w3 ⟨rfl, hb3⟩; have HB3 := Lib.hid (HB2.out.trans (hb3.mono HB2.out.size)); clear hb3)
          | (go_at_call 24; refine (lives_any w3).mono ?_; rintro e w4 ⟨rfl, hb4⟩; have HB4 := Lib.hid (HB3.out.trans (hb4.mono HB3.out.size)); clear hb4))
        go_ret
        exact ⟨rfl, HV.out.trans (HB4.out.mono HV.out.size)⟩
      · have dk : decide (k < len0) = false := decide_eq_false hin
        have dk2 : decide ((k : Int) < (len0 : Int)) = false := decide_eq_false (by omega)
        clear hgo
        go_wp2_with (first
          | (go_at_call 27; refine HOF.out.mono ?_; clear HOF; rintro e w1 ⟨⟨v, rfl, E1, n1, d1, A1, m1, f1, rfl, ht⟩, hb1⟩
             have HT1 := Lib.hid (And.intro (show TapeIs wr.heap.size w1 E1 n1 d1 A1 m1 f1 (R.map (·.ev)) (TP.normA (R.flatMap (·.l))) from ht) hb1)
             clear ht hb1)
          | (go_at_call 28; refine (HRF.out w1 HT1.out.2).mono ?_; clear HRF; rintro e w2 ⟨⟨_, E2, d2, A2, m2, f2, rfl, rfl, ht2⟩, hb2⟩
             have hl1 := HT1.out.1.1.1
             have hl2 := HT1.out.1.1.2
             rw [List.length_map] at hl1
             have HSM := Lib.hid (same_good (c1 := d1) (d1 := f1) (c2 := d2) (d2 := f2) w2 ((HT1.out.1.tin (by omega) (by omega)).keep hb2) ht2)
             have HB2 := Lib.hid (HT1.out.2.trans (hb2.mono HT1.out.2.size))
             clear ht2 hb2)
          | (go_at_call 16; refine HSM.out.mono ?_; clear HSM; rintro e w3 ⟨rfl, hb3⟩; have HB3 := Lib.hid (HB2.out.trans (hb3.mono HB2.out.size)); clear hb3)
          | (go_at_call 24; refine (lives_any w3).mono ?_; rintro e w4 ⟨rfl, hb4⟩; have HB4 := Lib.hid (HB3.out.trans (hb4.mono HB3.out.size)); clear hb4))
        go_ret
        exact ⟨rfl, HV.out.trans (HB4.out.mono HV.out.size)⟩
end Go.Proofs.Ytiokiecnglmbnaa.LawTapeOf

namespace Go.Proofs.Ytiokiecnglmbnaa.tapeOf
open Go.ChangeShapes Go.WideShapes Go.ChangeAt Go.RowKit Go.Proofs Go.Proofs.Ytiokiecnglmbnaa
open Go.ChangeMaps (open_string shut_string)
open Go.Deep (open_bools)
set_option linter.unusedVariables false

theorem own : ownKnob Try.prog.godebug = none := by kernel_rfl
theorem laidOut : laidOutB Try.prog = true := by kernel_rfl
theorem walk (a0 : Option Addr) (len0 cap0 : Nat) (w : World) (w0 : Grid w a0 len0) :
    Calls Try.prog 4 #[.slice a0 len0 cap0] w fun e w' => e = .returned (.bool true) ∧ Below w.heap.size w w' := by
  exact LawTapeOf.walk a0 len0 cap0 w w0
set_option maxRecDepth 100000 in
theorem lifted (os : Os) (started : os.Started) (H : Type) (enc : TypeId × Value → H) :
    ReturnsInHanded {} Try.checked os 4 .any (Rows.tapeOfSpec.pre6 enc Try.prog Try.f4 Rows.tapeOfRow.domain false) (Rows.tapeOfSpec.post enc Try.prog Try.f4 false true false false) := by
  refine returnsInHanded_of_change (C := Try.checked) own started (by kernel_rfl) Try.func4
    (ChangeSpec.witness6 (enc := enc) (C := Try.checked) false ⟨#[], #[.slice none 0 0], []⟩ 8 (by kernel_rfl) (by kernel_rfl) (by kernel_rfl) (by kernel_rfl)) ?_
  intro W base args ds gs before hval0 hW hcnd _
  have hval : ∀ (j : Nat) t v, Try.f4.params[j]? = some t → args[j]? = some v → Value.okWide Try.prog W .any base t v := hval0
  have hW' := hW
  obtain ⟨p, q, hA0, hV, rfl, hfz, hnd⟩ := hW
  have hA : DataW.TrodAll enc Try.prog W 0 (fun _ => true) true Try.f4.params.toList args.toList ds p := hA0
  rw [Try.params4] at hA hval
  obtain ⟨v0, vs0, d0, ds0, p0, q0, hargs, rfl, rfl, h0, r0⟩ := trodAll_cons hA
  obtain ⟨rfl, rfl, rfl⟩ := trodAll_nil r0
  obtain rfl : args = #[v0] := by cases args; simp_all
  obtain ⟨rfl, rfl⟩ := trodVars_none hV
  obtain ⟨a0, len0, cap0, rfl⟩ := okWide_slice Try.underlying42 (hval 0 42 v0 rfl rfl)
  have k0 := h0
  have lt0 : ∀ x ∈ p0, x.block < W.heap.size := by obtain ⟨m, hm⟩ := k0; exact DataW.trod_lt m _ _ _ hm
  have w0 : Grid W a0 len0 := open_grid h0
  clear hA0 hval0
  refine (walk a0 len0 cap0 W w0).mono fun e W' ⟨he, bel⟩ => ?_
  subst he
  exact ⟨_, rfl, _, _, _, [], _, [], hW', trodAll_mk1 (shut_bool Try.underlying4 _), (trodAll_cons_mk (Below.trod laidOut (by kernel_rfl) (of_decide_eq_true (by kernel_rfl)) k0 bel lt0) trodAll_mk0), rfl, bel.frame _, fun h => by cases h⟩

theorem over : Rows.tapeOfRow.holds Try.pinned (OpenSpec.ofChange Rows.tapeOfSpec) :=
  OpenClaim.holds_of_wide 4 Try.f4 rfl rfl rfl rfl rfl rfl rfl ⟨rfl, rfl, rfl, rfl, rfl⟩ rfl rfl rfl rfl rfl (by kernel_rfl) Try.func4 (by kernel_rfl)
    (of_decide_eq_true (by kernel_rfl)) (by unfold Func.isWrapper; first | (rw [if_pos (by decide +kernel)]; kernel_rfl) | (rw [if_neg (by decide +kernel)]; exact ⟨rfl, rfl⟩))
    (fun os started H enc _ => lifted os started H enc)

theorem proved : Rows.TapeOfSaid := over
end Go.Proofs.Ytiokiecnglmbnaa.tapeOf
