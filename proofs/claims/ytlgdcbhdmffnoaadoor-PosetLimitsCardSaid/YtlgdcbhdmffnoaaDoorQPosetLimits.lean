/-
  The walk of PosetLimits: a length below 0 or above 5000 is refused, whatever the pairs are.
  The tied card of the statement PosetLimits: for every input the law answers true and leaves its arguments as they were; the condition is the listed table of math/bits, which the card ties to the program's text. The frame of this proof was written by hand after the guide's program, the walk is the text LawPosetLimits's.
-/
import Derived.Test.YtlgdcbhdmffnoaaDoorK14
import Derived.Test.YtlgdcbhdmffnoaaDoorK24
import Derived.Test.YtlgdcbhdmffnoaaDoorRows
import Derived.Test.YtlgdcbhdmffnoaaDoorCards
import Derived.Test.YtlgdcbhdmffnoaaDoorTie
import Derived.Test.YtlgdcbhdmffnoaaDoorK3
import Derived.SevenTiedPlain
import Derived.SevenTiedAt
import Derived.WalkKit
import Derived.ProofKit
import Derived.OpenShut
import Derived.ShutString
import Derived.ChangeOld
import Derived.Below

namespace Go.Proofs.YtlgdcbhdmffnoaaDoor.LawPosetLimits
open Go Go.RowKit Go.Proofs Go.Proofs.YtlgdcbhdmffnoaaDoor

set_option maxHeartbeats 4000000 in
theorem walk (a0 : Int) (a1 : Option Addr) (len1 cap1 : Nat) (w : World) (w0 : (Lit.int .i64 a0).wf = true) (w1 : IsSl a1 len1 cap1) (hT : Tab w) :
    Calls Tryd.prog 4 #[.int .i64 a0, .slice a1 len1 cap1] w fun e w' => e = .returned (.bool true) ∧ Below w.heap.size w w' := by
  have hn : I64 a0 := by have := bounds_i64 w0; unfold I64; omega
  obtain ⟨n0, n1⟩ := hn
  obtain ⟨h1, h2⟩ := w1.le
  have hLV := lives_a w w hT (Below.refl _ _)
  have HLV := Lib.hid hLV
  unfold maxLen at h2
  have hsl : (min len1 5 : Nat) ≤ cap1 := by omega
  have HN := Lib.hid (fun (n : Int) (v : Value) (h : n < 0 ∨ 5000 < n) => new_arg n v w h)
  clear hLV hT w1 w0
  by_cases h0 : 0 ≤ a0
  · have hd0 : decide (0 ≤ a0) = true := decide_eq_true h0
    have hd0n : ¬ a0 < 0 := by omega
    by_cases h5 : a0 ≤ 5000
    · have hd5 : decide (a0 ≤ 5000) = true := decide_eq_true h5
      have hlt : a0 - 5000 - 1 < 0 := by omega
      have HN2 := Lib.hid (fun v => HN.out (a0 - 5000 - 1) v (by omega))
      simp only [if_pos hlt] at HN2
      clear HN
      go_enter Tryd.func4, Tryd.ntmps4
      go_wp2_with (first
        | (go_at_call 15; refine (HN2.out _).mono ?_; clear HN2; rintro e w' ⟨rfl, rfl⟩)
        | (go_at_call 17; refine HLV.out.mono ?_; clear HLV; rintro e w3 ⟨rfl, hb3⟩))
      all_goals
        go_ret
        exact ⟨rfl, hb3⟩
    · have hd5 : decide (a0 ≤ 5000) = false := decide_eq_false h5
      have HN2 := Lib.hid (fun v => HN.out a0 v (by omega))
      simp only [if_neg hd0n] at HN2
      clear HN
      go_enter Tryd.func4, Tryd.ntmps4
      go_wp2_with (first
        | (go_at_call 15; refine (HN2.out _).mono ?_; clear HN2; rintro e w' ⟨rfl, rfl⟩)
        | (go_at_call 17; refine HLV.out.mono ?_; clear HLV; rintro e w3 ⟨rfl, hb3⟩))
      all_goals
        go_ret
        exact ⟨rfl, hb3⟩
  · have hd0 : decide (0 ≤ a0) = false := decide_eq_false h0
    have hlt : a0 < 0 := by omega
    have HN2 := Lib.hid (fun v => HN.out a0 v (by omega))
    simp only [if_pos hlt] at HN2
    clear HN
    go_enter Tryd.func4, Tryd.ntmps4
    go_wp2_with (first
      | (go_at_call 15; refine (HN2.out _).mono ?_; clear HN2; rintro e w' ⟨rfl, rfl⟩)
      | (go_at_call 17; refine HLV.out.mono ?_; clear HLV; rintro e w3 ⟨rfl, hb3⟩))
    all_goals
      go_ret
      exact ⟨rfl, hb3⟩
end Go.Proofs.YtlgdcbhdmffnoaaDoor.LawPosetLimits

namespace Go.Proofs.YtlgdcbhdmffnoaaDoor.posetLimits
open Go.ChangeShapes Go.WideShapes Go.ChangeAt Go.RowKit
open Go.ChangeMaps (open_string shut_string)
set_option linter.unusedVariables false

theorem own : ownKnob Tryd.prog.godebug = none := by kernel_rfl
theorem laidOut : laidOutB Tryd.prog = true := by kernel_rfl
theorem walk (a0 : Int) (a1 : Option Addr) (len1 cap1 : Nat) (w : World) (w0 : (Lit.int .i64 a0).wf = true) (w1 : IsSl a1 len1 cap1) (hT : Tab w) :
    Calls Tryd.prog 4 #[.int .i64 a0, .slice a1 len1 cap1] w fun e w' => e = .returned (.bool true) ∧ Below w.heap.size w w' := by
  exact LawPosetLimits.walk a0 a1 len1 cap1 w w0 w1 hT

set_option maxRecDepth 100000 in
theorem lifted (os : Os) (started : os.Started) (H : Type) (enc : TypeId × Value → H) :
    ReturnsInHanded {} Tryd.checked os 4 .any (fun w args => (Rows.posetLimitsSpec.pre enc Tryd.prog Tryd.f4 [] false w args ∧ laidMetH Tryd.prog laidT w) ∧ sizedMet enc Tryd.prog Tryd.f4 (OpenSpec.ofChange Rows.posetLimitsSpec) false w args)
      (Rows.posetLimitsSpec.post enc Tryd.prog Tryd.f4 false true false false) := by
  refine returnsInHanded_of_change_and (C := Tryd.checked) (X := fun w _ => laidMetH Tryd.prog laidT w) (fun _ _ _ hh h => h.of_heap hh) own started (by kernel_rfl) Tryd.func4
    (ChangeSpec.witness_shaped (enc := enc) (C := Tryd.checked) (os := os) (X := fun w _ => laidMetH Tryd.prog laidT w) false (World.doorLaid Tryd.prog 14 os) #[.int .i64 0, .slice none 0 0] 8 rfl (World.shaped_of_RefB (by kernel_rfl) (by kernel_rfl)) (by kernel_rfl) (by kernel_rfl) (by kernel_rfl) (door_met os _)) ?_
  intro W base args ds gs before hval0 hW _ _ hL _
  have hval : ∀ (j : Nat) t v, Tryd.f4.params[j]? = some t → args[j]? = some v → Value.okWide Tryd.prog W .any base t v := hval0
  have hW' := hW
  obtain ⟨p, q, hA0, hV, rfl, hfz, hnd⟩ := hW
  have hA : DataW.TrodAll enc Tryd.prog W 0 (fun _ => true) true Tryd.f4.params.toList args.toList ds p := hA0
  rw [Tryd.params4] at hA hval
  obtain ⟨v0, vs0, d0, ds0, p0, q0, hargs, rfl, rfl, h0, r0⟩ := trodAll_cons hA
  obtain ⟨v1, vs1, d1, ds1, p1, q1, rfl, rfl, rfl, h1, r1⟩ := trodAll_cons r0
  obtain ⟨rfl, rfl, rfl⟩ := trodAll_nil r1
  obtain rfl : args = #[v0, v1] := by cases args; simp_all
  obtain ⟨rfl, rfl⟩ := trodVars_none hV
  obtain ⟨a0, rfl, rfl, rfl, w0⟩ := open_int Tryd.underlying3 (hval 0 3 v0 rfl rfl) h0
  obtain ⟨a1, len1, cap1, rfl⟩ := okWide_slice Tryd.underlying25 (hval 1 25 v1 rfl rfl)
  have k1 := h1
  have lt1 : ∀ x ∈ p1, x.block < W.heap.size := by obtain ⟨m, hm⟩ := k1; exact DataW.trod_lt m _ _ _ hm
  have w1 := open_sl h1
  clear hA0 hval0
  refine (walk a0 a1 len1 cap1 W w0 w1 (of_laid hL)).mono fun e W' ⟨he, bel⟩ => ?_
  subst he
  exact ⟨_, rfl, _, _, _, [], _, [], hW', trodAll_mk1 (shut_bool Tryd.underlying4 _), (trodAll_cons_mk (shut_int Tryd.underlying3 w0) (trodAll_cons_mk (Below.trod laidOut (by kernel_rfl) (of_decide_eq_true (by kernel_rfl)) k1 bel lt1) trodAll_mk0)), rfl, bel.frame _, fun h => by cases h⟩

theorem over : Rows.posetLimitsRow.holds Tryd.pinned (OpenSpec.ofChange Rows.posetLimitsSpec) :=
  OpenClaim.holds_of_wide 4 Tryd.f4 rfl rfl rfl rfl rfl rfl rfl ⟨rfl, rfl, rfl, rfl, rfl⟩ rfl rfl rfl rfl rfl (by kernel_rfl) Tryd.func4 (by kernel_rfl)
    (of_decide_eq_true (by kernel_rfl)) (by unfold Func.isWrapper; first | (rw [if_pos (by decide +kernel)]; kernel_rfl) | (rw [if_neg (by decide +kernel)]; exact ⟨rfl, rfl⟩))
    (fun os started H enc _ => lifted os started H enc)

/-! ### THE CARD -/
theorem cardHolds : Rows.PosetLimitsCardSaid :=
  Claim7.holds_tied_plain_at .later [] [.data] true (true, "69b8748036c1ab40a488c13c974df10cd19b3b935a840f5165b1f86c23c10982") true
    over (fun _ h => by cases h) (by kernel_rfl) (fun _ h => by cases h) posetLimits_row_tie rfl ⟨rfl, rfl⟩ (by kernel_rfl) rfl
    (fun f fn hf hfn => by
      obtain rfl : f = 4 := Option.some.inj ((show Tryd.prog.funcNamed "simproof/simprooflaw04.PosetLimits" = some 4 by kernel_rfl).symm.trans hf) |>.symm
      obtain rfl : fn = Tryd.f4 := (Option.some.inj (Tryd.func4.symm.trans hfn)).symm
      exact ⟨by kernel_rfl, fun j t ht => by
        rw [Tryd.params4] at ht
        have hm : t ∈ [3, 25] := by simpa using Array.mem_of_getElem? ht
        have hall : ([3, 25].all fun u => !Tryd.prog.wantsStandIn u) = true := by kernel_rfl
        exact (show Tryd.prog.wantsStandIn t = false by simpa using List.all_eq_true.1 hall t hm)⟩)
    (by kernel_rfl)
end Go.Proofs.YtlgdcbhdmffnoaaDoor.posetLimits
