/-
  The walk of LexerTokens. Condition: strconv.ErrRange holds an error or nil.
  The tied card of the statement LexerTokens: for every input the law answers true and leaves its arguments as they were; the condition is the listed table of math/bits, which the card ties to the program's text. The frame of this proof was written by the guide's program, the walk is the text LawLexerTokens's.
-/
import Derived.RegionTactic
import Derived.Test.YtiejhgdjkfhmoaaDoorK16
import Derived.Test.YtiejhgdjkfhmoaaDoorK13
import Derived.Test.YtiejhgdjkfhmoaaDoorRows
import Derived.Test.YtiejhgdjkfhmoaaDoorCards
import Derived.Test.YtiejhgdjkfhmoaaDoorTie
import Derived.Test.YtiejhgdjkfhmoaaDoorK8
import Derived.SevenTiedPlain
import Derived.SevenTiedAt
import Derived.WalkKit
import Derived.ProofKit
import Derived.OpenShut
import Derived.ShutString
import Derived.ChangeOld
import Derived.Below

namespace Go.Proofs.YtiejhgdjkfhmoaaDoor.LawLexerTokens
open Go Go.RowKit Go.Proofs Go.Proofs.YtiejhgdjkfhmoaaDoor Go.Proofs.YtiejhgdjkfhmoaaDoor.LX

theorem conv_one_drew (W : World) (x : Int) : (convert 25 9 (.slice (some ⟨W.heap.size, 0, none⟩) 1 1)).run Tryd.prog (W.alloc (.cells #[.int .u8 x] 5)).drew = .ok (.string (strOf [x])) (W.alloc (.cells #[.int .u8 x] 5)).drew :=
  conv_str _ _ 1 1 [x] rfl fun j v hj => by
    have hk : (W.alloc (.cells #[.int .u8 x] 5)).drew.heap[W.heap.size]? = some (.cells #[.int .u8 x] 5 (0, 0)) := World.alloc_heap_new W (.cells #[.int .u8 x] 5)
    rw [cell_of_row _ _ j _ _ (0, 0) hk, List.getElem?_toArray]
    exact hj
set_option maxRecDepth 100000 in
set_option maxHeartbeats 4000000 in
theorem walk (a0 : ByteArray) (a1 : Option Addr) (len1 cap1 : Nat) (z1 : List Int) (a2 a3 : Int) (w : World) (_w0 : a0.size ≤ maxLen) (w1 : Row .i64 w a1 len1 cap1 z1) (w2 : (Lit.int .i64 a2).wf = true) (_w3 : (Lit.int .u8 a3).wf = true) (hT : ErrV w) :
    Calls Tryd.prog 3 #[.string a0, .slice a1 len1 cap1, .int .i64 a2, .int .u8 a3] w fun e w' => e = .returned (.bool true) ∧ Below w.heap.size w w' := by
  obtain ⟨hx, _, _, hz⟩ := w1.ints
  have HTX := Lib.hid (text_any len1 cap1 a1 _ w hx (i64_of hz))
  have ha2 : I64 a2 := by have := bounds_i64 w2; unfold I64; omega
  have kc1 := fun (W : World) (x : Int) => conv_one W x
  have kc2 := fun (W : World) (x : Int) => conv_one_drew W x
  have HE := Lib.hid (fun (s : ByteArray) (hs : s.size ≤ 1000000000) (V : World) (h : Gd w V) => equal_gd s hs V h)
  have HL := Lib.hid (fun (V : World) (h : Gd w V) => lives_gd (w := w) V h)
  have G0 := Lib.hid (Gd.refl hT)
  have HS : Hid (∀ V : World, Calls Tryd.prog 13 #[.string a0, .int .i64 100] V fun e w' => e = .returned (.string (a0.extract 0 100)) ∧ V = w') := fun V => short_any a0 100 (by omega) (by omega) V
  have HA2 := Lib.hid ha2
  have HE1 := Lib.hid (HE.out (a0.extract 0 100) (by rw [ByteArray.size_extract]; omega))
  clear hT w1 w2 hx hz ha2
  go_enter Tryd.func3, Tryd.ntmps3
  go_wp2_with fail
  refine HTX.out.mono ?_
  rintro e v1 ⟨⟨s, rfl, hs⟩, hb1⟩
  have G1 := Lib.hid (G0.out.next hb1)
  clear hb1 HTX
  have HE2 := Lib.hid (HE.out s (by omega))
  by_cases h0 : s.size = 0
  · have e0 : decide ((0 : Int) < (s.size : Int)) = false := decide_eq_false (by omega)
    have hz0 : s.size ≤ 0 := by omega
    clear h0 hs HE
    go_wp2_with (first
      | (go_at_call 13; refine (HS.out _).mono ?_; rintro e v2 ⟨rfl, rfl⟩)
      | (go_at_call 12; ((with_reducible refine (HE1.out _ ?_).mono ?_); focus (exact G1.out)); rintro e v3 ⟨rfl, G3⟩; clear HE1)
      | (go_at_call 12; ((with_reducible refine (HE2.out _ ?_).mono ?_); focus (exact G3)); rintro e v4 ⟨rfl, G4⟩)
      | (go_at_call 12; ((with_reducible refine (HE2.out _ ?_).mono ?_); focus (exact G4)); rintro e v5 ⟨rfl, G5⟩)
      | (go_at_call 14; ((with_reducible refine (HL.out _ ?_).mono ?_); focus (exact G5)); rintro e v6 ⟨rfl, G6⟩))
    go_ret
    exact ⟨rfl, G6.1⟩
  · have e0 : decide ((0 : Int) < (s.size : Int)) = true := decide_eq_true (by omega)
    have HAR := Lib.hid (around_any a2 (s.size : Int) HA2.out (by omega) (by omega))
    obtain ⟨r0, r1⟩ := around_in a2 (s.size : Int) (by omega)
    obtain ⟨k, hk⟩ := Int.eq_ofNat_of_zero_le r0
    rw [hk] at HAR r1
    have hks : k < s.size := by omega
    clear h0 r0 r1 hk
    go_wp2_with (go_at_call 11; refine (HAR.out _).mono ?_; rintro e v2 ⟨rfl, rfl⟩)
    have hx2 : (strOf [a3]).size = 1 := strOf_size [a3]
    have hx1 : (s.extract 0 k).size = k := by rw [ByteArray.size_extract]; omega
    have hx3 : (s.extract (k + 1) s.size).size = s.size - (k + 1) := by rw [ByteArray.size_extract]; omega
    have HE3 := Lib.hid (HE.out (s.extract 0 k ++ strOf [a3] ++ s.extract (k + 1) s.size) (by rw [ByteArray.size_append, ByteArray.size_append, hx1, hx2, hx3]; omega))
    go_region
    all_goals
      go_wp2_with (first
        | (go_at_call 13; refine (HS.out _).mono ?_; rintro e v2 ⟨rfl, rfl⟩)
        | (go_at_call 12; ((with_reducible refine (HE1.out _ ?_).mono ?_); focus (exact (G1.out.alloc _).drew)); rintro e v3 ⟨rfl, G3⟩; clear HE1)
        | (go_at_call 12; ((with_reducible refine (HE2.out _ ?_).mono ?_); focus (exact G3)); rintro e v4 ⟨rfl, G4⟩; clear HE2)
        | (go_at_call 12; ((with_reducible refine (HE3.out _ ?_).mono ?_); focus (exact G4)); rintro e v5 ⟨rfl, G5⟩; clear HE3)
        | (go_at_call 14; ((with_reducible refine (HL.out _ ?_).mono ?_); focus (exact G5)); rintro e v6 ⟨rfl, G6⟩))
      go_ret
      exact ⟨rfl, G6.1⟩
end Go.Proofs.YtiejhgdjkfhmoaaDoor.LawLexerTokens

namespace Go.Proofs.YtiejhgdjkfhmoaaDoor.lexerTokens
open Go.ChangeShapes Go.WideShapes Go.ChangeAt Go.RowKit
open Go.ChangeMaps (open_string shut_string)
set_option linter.unusedVariables false

theorem own : ownKnob Tryd.prog.godebug = none := by kernel_rfl
theorem laidOut : laidOutB Tryd.prog = true := by kernel_rfl

/-- WHAT THE WALK IS TOLD OF A SLICE OF INTEGERS THAT CAME IN: it is nil; or it leads to a row of 'cap' cells, the numbers 'zs' (the first 'len' are its elements, the rest its spare room), each fitting its kind. -/
def IsRow (k : IntKind) (w : World) (a : Option Addr) (len cap : Nat) (zs : List Int) : Prop :=
  (a = none ∧ len = 0 ∧ cap = 0 ∧ zs = []) ∨
  ∃ x, a = some x ∧ len ≤ cap ∧ cap ≤ maxLen ∧ zs.length = cap ∧ (∀ i, i < zs.length → w.cell? (x.add i) = some (.int k (zs.getD i 0))) ∧ ∀ n ∈ zs, (Lit.int k n).wf = true

/-! ### STEP 1: THE WALK: the Go text returns true, AND WRITES NOTHING THAT WAS THERE: 'Below w.heap.size w w'' (Derived/Below.lean: '.refl', '.alloc', '.drew', '.setCell' at a new block, '.trans'). Open each 'IsRow' by 'rcases' AHEAD of 'go_enter'; part every test ahead of the walk. -/
theorem walk (a0 : ByteArray) (a1 : Option Addr) (len1 cap1 : Nat) (z1 : List Int) (a2 : Int) (a3 : Int) (w : World) (w0 : a0.size ≤ maxLen) (w1 : IsRow .i64 w a1 len1 cap1 z1) (w2 : (Lit.int .i64 a2).wf = true) (w3 : (Lit.int .u8 a3).wf = true) (hT : ErrV w) :
    Calls Tryd.prog 3 #[.string a0, .slice a1 len1 cap1, .int .i64 a2, .int .u8 a3] w fun e w' => e = .returned (.bool true) ∧ Below w.heap.size w w' := by
  exact LawLexerTokens.walk a0 a1 len1 cap1 z1 a2 a3 w w0 w1 w2 w3 hT

/-! ### THE ROW's STEP: WRITTEN OUT: LEAVE IT -/
set_option maxRecDepth 100000 in
theorem lifted (os : Os) (started : os.Started) (H : Type) (enc : TypeId × Value → H) :
    ReturnsInHanded {} Tryd.checked os 3 .any (fun w args => (Rows.lexerTokensSpec.pre enc Tryd.prog Tryd.f3 [] false w args ∧ laidMetH Tryd.prog laidT w) ∧ sizedMet enc Tryd.prog Tryd.f3 (OpenSpec.ofChange Rows.lexerTokensSpec) false w args)
      (Rows.lexerTokensSpec.post enc Tryd.prog Tryd.f3 false true false false) := by
  refine returnsInHanded_of_change_and (C := Tryd.checked) (X := fun w _ => laidMetH Tryd.prog laidT w) (fun _ _ _ hh h => h.of_heap hh) own started (by kernel_rfl) Tryd.func3
    (ChangeSpec.witness_shaped (enc := enc) (C := Tryd.checked) (os := os) (X := fun w _ => laidMetH Tryd.prog laidT w) false (World.doorLaid Tryd.prog 200 os) #[.string ByteArray.empty, .slice none 0 0, .int .i64 0, .int .u8 0] 8 rfl (World.shaped_of_RefB (by kernel_rfl) (by kernel_rfl)) (by kernel_rfl) (by kernel_rfl) (by kernel_rfl) (door_met os _)) ?_
  intro W base args ds gs before hval0 hW _ _ hL _
  have hval : ∀ (j : Nat) t v, Tryd.f3.params[j]? = some t → args[j]? = some v → Value.okWide Tryd.prog W .any base t v := hval0
  have hW' := hW
  obtain ⟨p, q, hA0, hV, rfl, hfz, hnd⟩ := hW
  have hA : DataW.TrodAll enc Tryd.prog W 0 (fun _ => true) true Tryd.f3.params.toList args.toList ds p := hA0
  rw [Tryd.params3] at hA hval
  obtain ⟨v0, vs0, d0, ds0, p0, q0, hargs, rfl, rfl, h0, r0⟩ := trodAll_cons hA
  obtain ⟨v1, vs1, d1, ds1, p1, q1, rfl, rfl, rfl, h1, r1⟩ := trodAll_cons r0
  obtain ⟨v2, vs2, d2, ds2, p2, q2, rfl, rfl, rfl, h2, r2⟩ := trodAll_cons r1
  obtain ⟨v3, vs3, d3, ds3, p3, q3, rfl, rfl, rfl, h3, r3⟩ := trodAll_cons r2
  obtain ⟨rfl, rfl, rfl⟩ := trodAll_nil r3
  obtain rfl : args = #[v0, v1, v2, v3] := by cases args; simp_all
  obtain ⟨rfl, rfl⟩ := trodVars_none hV
  obtain ⟨a0, rfl, rfl, rfl, w0⟩ := open_string Tryd.underlying9 (hval 0 9 v0 rfl rfl) h0
  obtain ⟨a1, len1, cap1, rfl⟩ := okWide_slice Tryd.underlying22 (hval 1 22 v1 rfl rfl)
  have k1 := h1
  have lt1 : ∀ x ∈ p1, x.block < W.heap.size := by obtain ⟨m, hm⟩ := k1; exact DataW.trod_lt m _ _ _ hm
  obtain ⟨z1, w1⟩ : ∃ zs, IsRow .i64 W a1 len1 cap1 zs := by
    obtain ⟨fuel, hf⟩ := h1
    rcases open_ints Tryd.underlying22 Tryd.underlying3 (by kernel_rfl) hf with ⟨hcs, _⟩ | ⟨x, l, c, zs, hcs, _, hl, hm, hz, _, hcell, hwz⟩
    · simp [Value.cells] at hcs
      obtain ⟨rfl, rfl, rfl⟩ := hcs
      exact ⟨[], .inl ⟨rfl, rfl, rfl, rfl⟩⟩
    · simp [Value.cells] at hcs
      obtain ⟨rfl, rfl, rfl⟩ := hcs
      exact ⟨zs, .inr ⟨_, rfl, hl, hm, by simpa using hz, hcell, hwz⟩⟩
  obtain ⟨a2, rfl, rfl, rfl, w2⟩ := open_int Tryd.underlying3 (hval 2 3 v2 rfl rfl) h2
  obtain ⟨a3, rfl, rfl, rfl, w3⟩ := open_int Tryd.underlying5 (hval 3 5 v3 rfl rfl) h3
  clear hA0 hval0
  refine (walk a0 a1 len1 cap1 z1 a2 a3 W w0 w1 w2 w3 (of_laid hL)).mono fun e W' ⟨he, bel⟩ => ?_
  subst he
  exact ⟨_, rfl, _, _, _, [], _, [], hW', trodAll_mk1 (shut_bool Tryd.underlying4 _), (trodAll_cons_mk (shut_string Tryd.underlying9 w0) (trodAll_cons_mk (Below.trod laidOut (by kernel_rfl) (of_decide_eq_true (by kernel_rfl)) k1 bel lt1) (trodAll_cons_mk (shut_int Tryd.underlying3 w2) (trodAll_cons_mk (shut_int Tryd.underlying5 w3) trodAll_mk0)))), rfl, bel.frame _, fun h => by cases h⟩

theorem over : Rows.lexerTokensRow.holds Tryd.pinned (OpenSpec.ofChange Rows.lexerTokensSpec) :=
  OpenClaim.holds_of_wide 3 Tryd.f3 rfl rfl rfl rfl rfl rfl rfl ⟨rfl, rfl, rfl, rfl, rfl⟩ rfl rfl rfl rfl rfl (by kernel_rfl) Tryd.func3 (by kernel_rfl)
    (of_decide_eq_true (by kernel_rfl)) (by unfold Func.isWrapper; first | (rw [if_pos (by decide +kernel)]; kernel_rfl) | (rw [if_neg (by decide +kernel)]; exact ⟨rfl, rfl⟩))
    (fun os started H enc _ => lifted os started H enc)


/-! ### THE CARD -/
theorem cardHolds : Rows.LexerTokensCardSaid :=
  Claim7.holds_tied_plain_at .later [] [.data, .data, .data, .sentinel, .sentinel] true (true, "c237112ac9046ed8453b948d641b8cfa5582db3bd5080ec09f337f3eca4931db") true
    over (fun _ h => by cases h) (by kernel_rfl) (fun _ h => by cases h) lexerTokens_row_tie rfl ⟨rfl, rfl⟩ (by kernel_rfl) rfl
    (fun f fn hf hfn => by
      obtain rfl : f = 3 := Option.some.inj ((show Tryd.prog.funcNamed "simproof/simprooflaw05.LexerTokens" = some 3 by kernel_rfl).symm.trans hf) |>.symm
      obtain rfl : fn = Tryd.f3 := (Option.some.inj (Tryd.func3.symm.trans hfn)).symm
      exact ⟨by kernel_rfl, fun j t ht => by
        rw [Tryd.params3] at ht
        have hm : t ∈ [9, 22, 3, 5] := by simpa using Array.mem_of_getElem? ht
        have hall : ([9, 22, 3, 5].all fun u => !Tryd.prog.wantsStandIn u) = true := by kernel_rfl
        exact (show Tryd.prog.wantsStandIn t = false by simpa using List.all_eq_true.1 hall t hm)⟩)
    (by kernel_rfl)
end Go.Proofs.YtiejhgdjkfhmoaaDoor.lexerTokens
