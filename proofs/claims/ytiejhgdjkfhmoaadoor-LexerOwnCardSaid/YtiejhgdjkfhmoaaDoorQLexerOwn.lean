/-
  The walk of LexerOwn. Condition: strconv.ErrRange holds an error or nil.
  The tied card of the statement LexerOwn: for every input the law answers true and leaves its arguments as they were; the condition is the listed table of math/bits, which the card ties to the program's text. The frame of this proof was written by the guide's program, the walk is the text LawLexerOwn's.
-/
import Derived.Test.YtiejhgdjkfhmoaaDoorK13
import Derived.Test.YtiejhgdjkfhmoaaDoorRows
import Derived.Test.YtiejhgdjkfhmoaaDoorCards
import Derived.Test.YtiejhgdjkfhmoaaDoorTie
import Derived.Test.YtiejhgdjkfhmoaaDoorK8
import Derived.SevenTiedPlain
import Derived.SevenTiedAt
import Derived.WalkKit
import Derived.ProofKit
import Derived.OpenShut
import Derived.ShutString
import Derived.ChangeOld
import Derived.Below

namespace Go.Proofs.YtiejhgdjkfhmoaaDoor.LawLexerOwn
open Go Go.RowKit Go.Proofs Go.Proofs.YtiejhgdjkfhmoaaDoor Go.Proofs.YtiejhgdjkfhmoaaDoor.LX

theorem lexF_kind : ∀ (f o : Nat) (L : List UInt8), ∀ t ∈ outT (lexF f o L), t.kind ≤ 3
  | 0, _, _, t, h => by cases h
  | f + 1, o, L, t, h => by
    rw [lexF] at h
    cases hs : skip L with
    | nil =>
      rw [hs] at h
      simp only [outT, List.mem_singleton] at h
      rw [h]
      exact Nat.zero_le _
    | cons c u =>
      rw [hs] at h
      simp only at h
      cases hr : tok1 (c :: u) with
      | bad e => rw [hr] at h; cases h
      | good k n v =>
        rw [hr] at h
        simp only at h
        have ih := lexF_kind f (o + (L.length - (c :: u).length) + n) ((c :: u).drop n)
        cases hx : lexF f (o + (L.length - (c :: u).length) + n) ((c :: u).drop n) with
        | err p e => rw [hx] at h; cases h
        | ok us =>
          rw [hx] at h ih
          simp only [Out.pre, outT, List.singleton_append, List.mem_cons] at h
          rcases h with rfl | h
          · exact (tok1_len hr).2.2.2
          · exact ih t h
theorem row_form {W : World} {lo : Nat} {T : TypeId} {A : Option Addr} {n c : Nat} {ts : List LX.Tok} (h : TRow W lo T (.slice A n c) ts) : ∃ g, 0 < ts.length → A = some ⟨g, 0, none⟩ ∧ lo ≤ g ∧ ∃ C, W.heap[g]? = some (.cells C T (0, 0)) ∧ 4 * ts.length ≤ C.size := by
  rcases h.2 with ⟨_, h0⟩ | ⟨g, cap, cur, e, h1, h2, h3, _, h5, _⟩
  · exact ⟨0, fun h => absurd h (by omega)⟩
  · injection e with e1 _ _
    exact ⟨g, fun _ => ⟨e1, h1, cur, h2, by omega⟩⟩
theorem cell_some {W : World} {g : Nat} {C : Array Value} {T : TypeId} (h : W.heap[g]? = some (.cells C T (0, 0))) {i : Nat} (hi : i < C.size) : ∃ v, W.cell? ⟨g, i, none⟩ = some v :=
  ⟨C[i], by rw [cell_of_row W g i C T (0, 0) h, Array.getElem?_eq_getElem hi]⟩

set_option maxRecDepth 100000 in
set_option maxHeartbeats 4000000 in
theorem walk (a0 : Option Addr) (len0 cap0 : Nat) (z0 : List Int) (w : World) (w0 : Row .i64 w a0 len0 cap0 z0) (hT : ErrV w) :
    Calls Tryd.prog 9 #[.slice a0 len0 cap0] w fun e w' => e = .returned (.bool true) ∧ Below w.heap.size w w' := by
  obtain ⟨hx, _, _, hz⟩ := w0.ints
  have HTX := Lib.hid (text_any len0 cap0 a0 _ w hx (i64_of hz))
  have HL := Lib.hid (fun (V : World) (h : Gd w V) => lives_gd (w := w) V h)
  have HT := Lib.hid hT
  clear hT w0 hx hz
  go_enter Tryd.func9, Tryd.ntmps9
  go_wp2_with fail
  refine HTX.out.mono ?_
  rintro e v1 ⟨⟨s, rfl, hs⟩, hb1⟩
  have G1 := Lib.hid ((Gd.refl HT.out).next hb1)
  clear hb1 HTX
  have htl := lex_len s
  have HK := Lib.hid (lexF_kind ((bsOf s).length + 1) 0 (bsOf s))
  have HTK := Lib.hid (fun (V : World) (h : Gd w V) => toks_gd s (by omega) V h)
  have HE := Lib.hid (fun (V : World) (h : Gd w V) => equal_gd s (by omega) V h)
  rw [show lexF ((bsOf s).length + 1) 0 (bsOf s) = lex (bsOf s) from rfl] at HK
  obtain ⟨ts, hts⟩ : ∃ x, outT (lex (bsOf s)) = x := ⟨_, rfl⟩
  obtain ⟨p, hp⟩ : ∃ x, outP (lex (bsOf s)) = x := ⟨_, rfl⟩
  obtain ⟨k, hk⟩ : ∃ x, outC (lex (bsOf s)) = x := ⟨_, rfl⟩
  rw [hts] at HK htl
  rw [hts, hp, hk] at HTK
  have nk : ((k : Int) != (k : Int)) = false := by simp
  have nl : ((ts.length : Int) != (ts.length : Int)) = false := by simp
  clear hts hp hk
  go_wp2_with (
    go_at_call 15
    refine (HTK.out _ G1.out).mono ?_
    rintro e v2 ⟨⟨A2, c2, rfl, ht2⟩, hb2, hg2⟩
    have HT2 := Lib.hid ht2
    have G2 := Lib.hid hg2
    clear ht2 hb2 hg2)
  obtain ⟨g, hg⟩ := row_form HT2.out
  have HG := Lib.hid hg
  have hz1 := G1.out.1.size
  clear hg HT2
  go_loopw [7] (fun i V => ∃ j : Nat, j ≤ ts.length ∧ i = .int .i64 (j : Int) ∧ Hid (0 < ts.length → ∃ C, V.heap[g]? = some (.cells C 36 (0, 0)) ∧ 4 * ts.length ≤ C.size) ∧ Below w.heap.size w V) (fun i _ => ts.length - (intOf i).toNat)
  case atStart => exact ⟨0, Nat.zero_le _, rfl, (fun h => (HG.out h).2.2 : 0 < ts.length → _), G2.out.1⟩
  case round =>
    obtain ⟨j, hj, rfl, HC, hB⟩ := hrel
    obtain ⟨wo, hwo⟩ : ∃ W, W = wr := ⟨_, rfl⟩
    subst hwo
    by_cases hlt : j < ts.length
    · obtain ⟨C, hC, hCz⟩ := HC.out (by omega)
      obtain ⟨hA, hlo, _⟩ := HG.out (by omega)
      subst hA
      obtain ⟨u0, q0⟩ := cell_some hC (i := j * 4) (by omega)
      obtain ⟨u1, q1⟩ := cell_some hC (i := j * 4 + 1) (by omega)
      obtain ⟨u2, q2⟩ := cell_some hC (i := j * 4 + 2) (by omega)
      obtain ⟨u3, q3⟩ := cell_some hC (i := j * 4 + 3) (by omega)
      have f0 : wo.frozen? ⟨g, j * 4, none⟩ = false := by simp [World.frozen?, hC]
      have f1 : wo.frozen? ⟨g, j * 4 + 1, none⟩ = false := by simp [World.frozen?, hC]
      have f2 : wo.frozen? ⟨g, j * 4 + 2, none⟩ = false := by simp [World.frozen?, hC]
      have f3 : wo.frozen? ⟨g, j * 4 + 3, none⟩ = false := by simp [World.frozen?, hC]
      have HC2 := Lib.hid hC
      have hwg : w.heap.size ≤ g := by omega
      clear hC HC
      go_wp2_with fail
      go_roundw
      case rel => exact ⟨j + 1, by omega, by go_num, (fun _ => ⟨_, row_set (row_set (row_set (row_set HC2.out _) _) _) _, by simp only [Array.size_setIfInBounds]; exact hCz⟩ : 0 < ts.length → _), (((hB.setCell (p := ⟨g, j * 4, none⟩) hwg _).setCell (p := ⟨g, j * 4 + 1, none⟩) hwg _).setCell (p := ⟨g, j * 4 + 2, none⟩) hwg _).setCell (p := ⟨g, j * 4 + 3, none⟩) hwg _⟩
      case measure => simp [intOf]; omega
    · obtain rfl : j = ts.length := by omega
      have G3 : Hid (Gd w wo) := ⟨hB, HT.out.keep hB⟩
      clear HC hB HG
      go_wp2_with (
        go_at_call 15
        refine (HTK.out _ G3.out).mono ?_
        rintro e v4 ⟨⟨A4, c4, rfl, ht4⟩, hb4, hg4⟩
        have HT4 := Lib.hid ht4
        have G4 := Lib.hid hg4
        clear ht4 hb4 hg4 HTK)
      go_loopw [11] (fun i V => ∃ j : Nat, j ≤ ts.length ∧ i = .int .i64 (j : Int) ∧ Below v4.heap.size v4 V) (fun i _ => ts.length - (intOf i).toNat)
      case atStart => exact ⟨0, Nat.zero_le _, rfl, Below.refl _ _⟩
      case round =>
        obtain ⟨q, hq, rfl, hB⟩ := hrel
        by_cases hlt : q < ts.length
        · obtain ⟨g4, rfl, hg4⟩ := tRow_blk HT4.out (by omega)
          obtain ⟨t, ht⟩ : ∃ t, ts[q]? = some t := ⟨ts[q], List.getElem?_eq_getElem hlt⟩
          have c0 := ((hg4.below hB).cells q t ht).1
          have hk3 := HK.out t (List.mem_of_getElem? ht)
          obtain ⟨x, hx⟩ : ∃ x, t.kind = x := ⟨_, rfl⟩
          rw [hx] at c0 hk3
          have n9 : ((x : Int) == 9) = false := by simp; omega
          clear ht hg4 hx
          go_wp2_with fail
          go_roundw
          case rel => exact ⟨q + 1, by omega, by go_num, hB⟩
          case measure => simp [intOf]; omega
        · have G5 := Lib.hid (G4.out.next hB)
          clear hB
          go_wp2_with (first
            | (go_at_call 12; ((with_reducible refine (HE.out _ ?_).mono ?_); focus (exact G5.out)); rintro e v6 ⟨rfl, G6⟩)
            | (go_at_call 14; ((with_reducible refine (HL.out _ ?_).mono ?_); focus (exact G6)); rintro e v7 ⟨rfl, G7⟩))
          go_ret
          exact ⟨rfl, G7.1⟩
end Go.Proofs.YtiejhgdjkfhmoaaDoor.LawLexerOwn

namespace Go.Proofs.YtiejhgdjkfhmoaaDoor.lexerOwn
open Go.ChangeShapes Go.WideShapes Go.ChangeAt Go.RowKit
open Go.ChangeMaps (open_string shut_string)
set_option linter.unusedVariables false

theorem own : ownKnob Tryd.prog.godebug = none := by kernel_rfl
theorem laidOut : laidOutB Tryd.prog = true := by kernel_rfl

/-- WHAT THE WALK IS TOLD OF A SLICE OF INTEGERS THAT CAME IN: it is nil; or it leads to a row of 'cap' cells, the numbers 'zs' (the first 'len' are its elements, the rest its spare room), each fitting its kind. -/
def IsRow (k : IntKind) (w : World) (a : Option Addr) (len cap : Nat) (zs : List Int) : Prop :=
  (a = none ∧ len = 0 ∧ cap = 0 ∧ zs = []) ∨
  ∃ x, a = some x ∧ len ≤ cap ∧ cap ≤ maxLen ∧ zs.length = cap ∧ (∀ i, i < zs.length → w.cell? (x.add i) = some (.int k (zs.getD i 0))) ∧ ∀ n ∈ zs, (Lit.int k n).wf = true

/-! ### STEP 1: THE WALK: the Go text returns true, AND WRITES NOTHING THAT WAS THERE: 'Below w.heap.size w w'' (Derived/Below.lean: '.refl', '.alloc', '.drew', '.setCell' at a new block, '.trans'). Open each 'IsRow' by 'rcases' AHEAD of 'go_enter'; part every test ahead of the walk. -/
theorem walk (a0 : Option Addr) (len0 cap0 : Nat) (z0 : List Int) (w : World) (w0 : IsRow .i64 w a0 len0 cap0 z0) (hT : ErrV w) :
    Calls Tryd.prog 9 #[.slice a0 len0 cap0] w fun e w' => e = .returned (.bool true) ∧ Below w.heap.size w w' := by
  exact LawLexerOwn.walk a0 len0 cap0 z0 w w0 hT

/-! ### THE ROW's STEP: WRITTEN OUT: LEAVE IT -/
set_option maxRecDepth 100000 in
theorem lifted (os : Os) (started : os.Started) (H : Type) (enc : TypeId × Value → H) :
    ReturnsInHanded {} Tryd.checked os 9 .any (fun w args => (Rows.lexerOwnSpec.pre enc Tryd.prog Tryd.f9 [] false w args ∧ laidMetH Tryd.prog laidT w) ∧ sizedMet enc Tryd.prog Tryd.f9 (OpenSpec.ofChange Rows.lexerOwnSpec) false w args)
      (Rows.lexerOwnSpec.post enc Tryd.prog Tryd.f9 false true false false) := by
  refine returnsInHanded_of_change_and (C := Tryd.checked) (X := fun w _ => laidMetH Tryd.prog laidT w) (fun _ _ _ hh h => h.of_heap hh) own started (by kernel_rfl) Tryd.func9
    (ChangeSpec.witness_shaped (enc := enc) (C := Tryd.checked) (os := os) (X := fun w _ => laidMetH Tryd.prog laidT w) false (World.doorLaid Tryd.prog 200 os) #[.slice none 0 0] 8 rfl (World.shaped_of_RefB (by kernel_rfl) (by kernel_rfl)) (by kernel_rfl) (by kernel_rfl) (by kernel_rfl) (door_met os _)) ?_
  intro W base args ds gs before hval0 hW _ _ hL _
  have hval : ∀ (j : Nat) t v, Tryd.f9.params[j]? = some t → args[j]? = some v → Value.okWide Tryd.prog W .any base t v := hval0
  have hW' := hW
  obtain ⟨p, q, hA0, hV, rfl, hfz, hnd⟩ := hW
  have hA : DataW.TrodAll enc Tryd.prog W 0 (fun _ => true) true Tryd.f9.params.toList args.toList ds p := hA0
  rw [Tryd.params9] at hA hval
  obtain ⟨v0, vs0, d0, ds0, p0, q0, hargs, rfl, rfl, h0, r0⟩ := trodAll_cons hA
  obtain ⟨rfl, rfl, rfl⟩ := trodAll_nil r0
  obtain rfl : args = #[v0] := by cases args; simp_all
  obtain ⟨rfl, rfl⟩ := trodVars_none hV
  obtain ⟨a0, len0, cap0, rfl⟩ := okWide_slice Tryd.underlying22 (hval 0 22 v0 rfl rfl)
  have k0 := h0
  have lt0 : ∀ x ∈ p0, x.block < W.heap.size := by obtain ⟨m, hm⟩ := k0; exact DataW.trod_lt m _ _ _ hm
  obtain ⟨z0, w0⟩ : ∃ zs, IsRow .i64 W a0 len0 cap0 zs := by
    obtain ⟨fuel, hf⟩ := h0
    rcases open_ints Tryd.underlying22 Tryd.underlying3 (by kernel_rfl) hf with ⟨hcs, _⟩ | ⟨x, l, c, zs, hcs, _, hl, hm, hz, _, hcell, hwz⟩
    · simp [Value.cells] at hcs
      obtain ⟨rfl, rfl, rfl⟩ := hcs
      exact ⟨[], .inl ⟨rfl, rfl, rfl, rfl⟩⟩
    · simp [Value.cells] at hcs
      obtain ⟨rfl, rfl, rfl⟩ := hcs
      exact ⟨zs, .inr ⟨_, rfl, hl, hm, by simpa using hz, hcell, hwz⟩⟩
  clear hA0 hval0
  refine (walk a0 len0 cap0 z0 W w0 (of_laid hL)).mono fun e W' ⟨he, bel⟩ => ?_
  subst he
  exact ⟨_, rfl, _, _, _, [], _, [], hW', trodAll_mk1 (shut_bool Tryd.underlying4 _), (trodAll_cons_mk (Below.trod laidOut (by kernel_rfl) (of_decide_eq_true (by kernel_rfl)) k0 bel lt0) trodAll_mk0), rfl, bel.frame _, fun h => by cases h⟩

theorem over : Rows.lexerOwnRow.holds Tryd.pinned (OpenSpec.ofChange Rows.lexerOwnSpec) :=
  OpenClaim.holds_of_wide 9 Tryd.f9 rfl rfl rfl rfl rfl rfl rfl ⟨rfl, rfl, rfl, rfl, rfl⟩ rfl rfl rfl rfl rfl (by kernel_rfl) Tryd.func9 (by kernel_rfl)
    (of_decide_eq_true (by kernel_rfl)) (by unfold Func.isWrapper; first | (rw [if_pos (by decide +kernel)]; kernel_rfl) | (rw [if_neg (by decide +kernel)]; exact ⟨rfl, rfl⟩))
    (fun os started H enc _ => lifted os started H enc)


/-! ### THE CARD -/
theorem cardHolds : Rows.LexerOwnCardSaid :=
  Claim7.holds_tied_plain_at .later [] [.data, .data, .data, .sentinel, .sentinel] true (true, "c237112ac9046ed8453b948d641b8cfa5582db3bd5080ec09f337f3eca4931db") true
    over (fun _ h => by cases h) (by kernel_rfl) (fun _ h => by cases h) lexerOwn_row_tie rfl ⟨rfl, rfl⟩ (by kernel_rfl) rfl
    (fun f fn hf hfn => by
      obtain rfl : f = 9 := Option.some.inj ((show Tryd.prog.funcNamed "simproof/simprooflaw05.LexerOwn" = some 9 by kernel_rfl).symm.trans hf) |>.symm
      obtain rfl : fn = Tryd.f9 := (Option.some.inj (Tryd.func9.symm.trans hfn)).symm
      exact ⟨by kernel_rfl, fun j t ht => by
        rw [Tryd.params9] at ht
        have hm : t ∈ [22] := by simpa using Array.mem_of_getElem? ht
        have hall : ([22].all fun u => !Tryd.prog.wantsStandIn u) = true := by kernel_rfl
        exact (show Tryd.prog.wantsStandIn t = false by simpa using List.all_eq_true.1 hall t hm)⟩)
    (by kernel_rfl)
end Go.Proofs.YtiejhgdjkfhmoaaDoor.lexerOwn
