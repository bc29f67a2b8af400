/-
  The walk of LexerSymbols. Condition: strconv.ErrRange holds an error or nil.
  The tied card of the statement LexerSymbols: for every input the law answers true and leaves its arguments as they were; the condition is the listed table of math/bits, which the card ties to the program's text. The frame of this proof was written by the guide's program, the walk is the text LawLexerSymbols's.
-/
import Derived.Test.YtiejhgdjkfhmoaaDoorK13
import Derived.Test.YtiejhgdjkfhmoaaDoorRows
import Derived.Test.YtiejhgdjkfhmoaaDoorCards
import Derived.Test.YtiejhgdjkfhmoaaDoorTie
import Derived.Test.YtiejhgdjkfhmoaaDoorK8
import Derived.SevenTiedPlain
import Derived.SevenTiedAt
import Derived.WalkKit
import Derived.ProofKit
import Derived.OpenShut
import Derived.ShutString
import Derived.ChangeOld
import Derived.Below

namespace Go.Proofs.YtiejhgdjkfhmoaaDoor.LawLexerSymbols
open Go Go.RowKit Go.Proofs Go.Proofs.YtiejhgdjkfhmoaaDoor Go.Proofs.YtiejhgdjkfhmoaaDoor.LX

set_option maxRecDepth 100000 in
set_option maxHeartbeats 4000000 in
theorem walk (a0 a1 : Int) (w : World) (_w0 : (Lit.int .u8 a0).wf = true) (_w1 : (Lit.int .u8 a1).wf = true) (hT : ErrV w) :
    Calls Tryd.prog 8 #[.int .u8 a0, .int .u8 a1] w fun e w' => e = .returned (.bool true) ∧ Below w.heap.size w w' := by
  have kc := fun (W : World) (x y : Int) => conv_two W x y
  have hE : ∀ s : ByteArray, s.size ≤ 1000000000 → ∀ V, Gd w V → Calls Tryd.prog 12 #[.string s] V fun e w' => e = .returned (.bool true) ∧ Gd w w' := fun s hs V h => equal_gd s hs V h
  have HE := Lib.hid hE
  have HL := Lib.hid (fun (V : World) (h : Gd w V) => lives_gd (w := w) V h)
  have G0 := Lib.hid (Gd.refl hT)
  clear hT hE
  go_enter Tryd.func8, Tryd.ntmps8
  go_wp2_with fail
  generalize hs : strOf _ = s
  have hz : s.size = 2 := by rw [← hs, strOf_size]; rfl
  have HE1 := Lib.hid (HE.out s (by omega))
  have HE2 := Lib.hid (HE.out (s ++ ⟨#[32]⟩) (by rw [ByteArray.size_append, hz]; decide))
  have HE3 := Lib.hid (HE.out (⟨#[97]⟩ ++ s) (by rw [ByteArray.size_append, hz]; decide))
  have HE4 := Lib.hid (HE.out (s ++ ⟨#[61]⟩ ++ s) (by rw [ByteArray.size_append, ByteArray.size_append, hz]; decide))
  have hz2 : s.size ≤ 2 := by omega
  clear hs hz HE kc
  refine (HE1.out _ (G0.out.alloc _)).mono ?_
  rintro e v1 ⟨rfl, G1⟩
  go_wp2_with (first
    | (go_at_call 12; ((with_reducible refine (HE2.out _ ?_).mono ?_); focus (exact G1)); rintro e v2 ⟨rfl, G2⟩; clear HE2)
    | (go_at_call 12; ((with_reducible refine (HE3.out _ ?_).mono ?_); focus (exact G2)); rintro e v3 ⟨rfl, G3⟩; clear HE3)
    | (go_at_call 12; ((with_reducible refine (HE4.out _ ?_).mono ?_); focus (exact G3)); rintro e v4 ⟨rfl, G4⟩; clear HE4)
    | (go_at_call 14; ((with_reducible refine (HL.out _ ?_).mono ?_); focus (exact G4)); rintro e v5 ⟨rfl, G5⟩))
  go_ret
  exact ⟨rfl, G5.1⟩
end Go.Proofs.YtiejhgdjkfhmoaaDoor.LawLexerSymbols

namespace Go.Proofs.YtiejhgdjkfhmoaaDoor.lexerSymbols
open Go.ChangeShapes Go.WideShapes Go.ChangeAt Go.RowKit
open Go.ChangeMaps (open_string shut_string)
set_option linter.unusedVariables false

theorem own : ownKnob Tryd.prog.godebug = none := by kernel_rfl
theorem laidOut : laidOutB Tryd.prog = true := by kernel_rfl

/-- WHAT THE WALK IS TOLD OF A SLICE OF INTEGERS THAT CAME IN: it is nil; or it leads to a row of 'cap' cells, the numbers 'zs' (the first 'len' are its elements, the rest its spare room), each fitting its kind. -/
def IsRow (k : IntKind) (w : World) (a : Option Addr) (len cap : Nat) (zs : List Int) : Prop :=
  (a = none ∧ len = 0 ∧ cap = 0 ∧ zs = []) ∨
  ∃ x, a = some x ∧ len ≤ cap ∧ cap ≤ maxLen ∧ zs.length = cap ∧ (∀ i, i < zs.length → w.cell? (x.add i) = some (.int k (zs.getD i 0))) ∧ ∀ n ∈ zs, (Lit.int k n).wf = true

/-! ### STEP 1: THE WALK: the Go text returns true, AND WRITES NOTHING THAT WAS THERE: 'Below w.heap.size w w'' (Derived/Below.lean: '.refl', '.alloc', '.drew', '.setCell' at a new block, '.trans'). Open each 'IsRow' by 'rcases' AHEAD of 'go_enter'; part every test ahead of the walk. -/
theorem walk (a0 : Int) (a1 : Int) (w : World) (w0 : (Lit.int .u8 a0).wf = true) (w1 : (Lit.int .u8 a1).wf = true) (hT : ErrV w) :
    Calls Tryd.prog 8 #[.int .u8 a0, .int .u8 a1] w fun e w' => e = .returned (.bool true) ∧ Below w.heap.size w w' := by
  exact LawLexerSymbols.walk a0 a1 w w0 w1 hT

/-! ### THE ROW's STEP: WRITTEN OUT: LEAVE IT -/
set_option maxRecDepth 100000 in
theorem lifted (os : Os) (started : os.Started) (H : Type) (enc : TypeId × Value → H) :
    ReturnsInHanded {} Tryd.checked os 8 .any (fun w args => (Rows.lexerSymbolsSpec.pre enc Tryd.prog Tryd.f8 [] false w args ∧ laidMetH Tryd.prog laidT w) ∧ sizedMet enc Tryd.prog Tryd.f8 (OpenSpec.ofChange Rows.lexerSymbolsSpec) false w args)
      (Rows.lexerSymbolsSpec.post enc Tryd.prog Tryd.f8 false true false false) := by
  refine returnsInHanded_of_change_and (C := Tryd.checked) (X := fun w _ => laidMetH Tryd.prog laidT w) (fun _ _ _ hh h => h.of_heap hh) own started (by kernel_rfl) Tryd.func8
    (ChangeSpec.witness_shaped (enc := enc) (C := Tryd.checked) (os := os) (X := fun w _ => laidMetH Tryd.prog laidT w) false (World.doorLaid Tryd.prog 200 os) #[.int .u8 0, .int .u8 0] 8 rfl (World.shaped_of_RefB (by kernel_rfl) (by kernel_rfl)) (by kernel_rfl) (by kernel_rfl) (by kernel_rfl) (door_met os _)) ?_
  intro W base args ds gs before hval0 hW _ _ hL _
  have hval : ∀ (j : Nat) t v, Tryd.f8.params[j]? = some t → args[j]? = some v → Value.okWide Tryd.prog W .any base t v := hval0
  have hW' := hW
  obtain ⟨p, q, hA0, hV, rfl, hfz, hnd⟩ := hW
  have hA : DataW.TrodAll enc Tryd.prog W 0 (fun _ => true) true Tryd.f8.params.toList args.toList ds p := hA0
  rw [Tryd.params8] at hA hval
  obtain ⟨v0, vs0, d0, ds0, p0, q0, hargs, rfl, rfl, h0, r0⟩ := trodAll_cons hA
  obtain ⟨v1, vs1, d1, ds1, p1, q1, rfl, rfl, rfl, h1, r1⟩ := trodAll_cons r0
  obtain ⟨rfl, rfl, rfl⟩ := trodAll_nil r1
  obtain rfl : args = #[v0, v1] := by cases args; simp_all
  obtain ⟨rfl, rfl⟩ := trodVars_none hV
  obtain ⟨a0, rfl, rfl, rfl, w0⟩ := open_int Tryd.underlying5 (hval 0 5 v0 rfl rfl) h0
  obtain ⟨a1, rfl, rfl, rfl, w1⟩ := open_int Tryd.underlying5 (hval 1 5 v1 rfl rfl) h1
  clear hA0 hval0
  refine (walk a0 a1 W w0 w1 (of_laid hL)).mono fun e W' ⟨he, bel⟩ => ?_
  subst he
  exact ⟨_, rfl, _, _, _, [], _, [], hW', trodAll_mk1 (shut_bool Tryd.underlying4 _), (trodAll_cons_mk (shut_int Tryd.underlying5 w0) (trodAll_cons_mk (shut_int Tryd.underlying5 w1) trodAll_mk0)), rfl, bel.frame _, fun h => by cases h⟩

theorem over : Rows.lexerSymbolsRow.holds Tryd.pinned (OpenSpec.ofChange Rows.lexerSymbolsSpec) :=
  OpenClaim.holds_of_wide 8 Tryd.f8 rfl rfl rfl rfl rfl rfl rfl ⟨rfl, rfl, rfl, rfl, rfl⟩ rfl rfl rfl rfl rfl (by kernel_rfl) Tryd.func8 (by kernel_rfl)
    (of_decide_eq_true (by kernel_rfl)) (by unfold Func.isWrapper; first | (rw [if_pos (by decide +kernel)]; kernel_rfl) | (rw [if_neg (by decide +kernel)]; exact ⟨rfl, rfl⟩))
    (fun os started H enc _ => lifted os started H enc)


/-! ### THE CARD -/
theorem cardHolds : Rows.LexerSymbolsCardSaid :=
  Claim7.holds_tied_plain_at .later [] [.data, .data, .data, .sentinel, .sentinel] true (true, "c237112ac9046ed8453b948d641b8cfa5582db3bd5080ec09f337f3eca4931db") true
    over (fun _ h => by cases h) (by kernel_rfl) (fun _ h => by cases h) lexerSymbols_row_tie rfl ⟨rfl, rfl⟩ (by kernel_rfl) rfl
    (fun f fn hf hfn => by
      obtain rfl : f = 8 := Option.some.inj ((show Tryd.prog.funcNamed "simproof/simprooflaw05.LexerSymbols" = some 8 by kernel_rfl).symm.trans hf) |>.symm
      obtain rfl : fn = Tryd.f8 := (Option.some.inj (Tryd.func8.symm.trans hfn)).symm
      exact ⟨by kernel_rfl, fun j t ht => by
        rw [Tryd.params8] at ht
        have hm : t ∈ [5, 5] := by simpa using Array.mem_of_getElem? ht
        have hall : ([5, 5].all fun u => !Tryd.prog.wantsStandIn u) = true := by kernel_rfl
        exact (show Tryd.prog.wantsStandIn t = false by simpa using List.all_eq_true.1 hall t hm)⟩)
    (by kernel_rfl)
end Go.Proofs.YtiejhgdjkfhmoaaDoor.lexerSymbols
