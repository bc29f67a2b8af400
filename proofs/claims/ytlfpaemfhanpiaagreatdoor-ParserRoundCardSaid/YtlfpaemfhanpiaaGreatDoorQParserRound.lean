/-
  The walk of ParserRound: a generated program's canonical source is parsed to it, and is its own canonical source. Condition: strconv.ErrRange holds an error or nil; the table of powers of ten stands.
  The tied card of the statement ParserRound: for every input the law answers true and leaves its arguments as they were; the condition is the listed table of math/bits, which the card ties to the program's text. The frame of this proof was written by the guide's program, the walk is the text LawParserRound's.
-/
import Derived.RegionTactic
import Derived.Test.YtlfpaemfhanpiaaGreatDoorK34
import Derived.Test.YtlfpaemfhanpiaaGreatDoorK13
import Derived.Test.YtlfpaemfhanpiaaGreatDoorK14
import Derived.Test.YtlfpaemfhanpiaaGreatDoorK33
import Derived.Test.YtlfpaemfhanpiaaGreatDoorK42
import Derived.Test.YtlfpaemfhanpiaaGreatDoorK10
import Derived.Test.YtlfpaemfhanpiaaGreatDoorRows
import Derived.Test.YtlfpaemfhanpiaaGreatDoorCards
import Derived.Test.YtlfpaemfhanpiaaGreatDoorTie
import Derived.SevenTiedPlain
import Derived.SevenTiedAt
import Derived.WalkKit
import Derived.ProofKit
import Derived.OpenShut
import Derived.ShutString
import Derived.ChangeOld
import Derived.Below

namespace Go.Proofs.YtlfpaemfhanpiaaGreatDoor.LawParserRound
open Go Go.RowKit Go.Proofs Go.Proofs.YtlfpaemfhanpiaaGreatDoor
attribute [local go_sem] Oper.semAt_some

theorem wu_of {u : PS.Un} (h : PP.WP u) (hl : (PP.print u).length ≤ 100000) (hn : PP.print u ≠ []) : WU u := by
  have nm : ∀ s, PP.nmOk s = true → s ≠ [] := fun s hs e => by rw [e] at hs; exact absurd hs (by decide)
  refine ⟨fun s hs => nm s (h.names.nm s (by simp [hs])), fun s hs => nm s (h.names.nm s (by simp [hs])), fun x hx => ?_, hl, hn⟩
  obtain ⟨h1, d, _, h2⟩ := h.hd x hx
  exact ⟨by omega, d, h2⟩
theorem unit_ne (zs : List Int) : PP.print (PG.unit zs) ≠ [] := fun e => by
  have h : PP.tU (PG.unit zs) = [PS.wDurable] ++ (PP.tN [[100], [100, 100, 49]] ++ [PS.ySemi] ++ PP.tD PS.wVolatile (PG.unit zs).vol ++ (PG.unit zs).on.flatMap (PP.tH false)) := rfl
  have := joins_mono [] [PS.wDurable] (PP.tN [[100], [100, 100, 49]] ++ [PS.ySemi] ++ PP.tD PS.wVolatile (PG.unit zs).vol ++ (PG.unit zs).on.flatMap (PP.tH false))
  rw [← h] at this
  have e : PP.joins [] (PP.tU (PG.unit zs)) = [] := e
  rw [e] at this
  exact absurd this (by decide)
theorem UV3.shape {lo : Nat} {W : World} {u : PS.Un} {v : Value} (h : UV3 lo W u v) : ∃ x y z, v = .agg #[x, y, z] := by
  obtain ⟨x, y, A, c, cs, rfl, _⟩ := h
  exact ⟨_, _, _, rfl⟩
theorem u_row {W : World} {u : PS.Un} {lo : Nat} {x y z : Value} (h : UV3 lo W u (.agg #[x, y, z])) : (∃ A m c, x = .slice A m c) ∧ (∃ A m c, y = .slice A m c) ∧ ∃ A m c, z = .slice A m c := by
  obtain ⟨x', y', A, c, cs, e, hx, hy, _⟩ := h
  injection e with e
  injection e with e
  injection e with e1 e
  injection e with e2 e
  injection e with e3 _
  subst e1 e2 e3
  obtain ⟨A1, c1, rfl, _⟩ := hx.form
  obtain ⟨A2, c2, rfl, _⟩ := hy.form
  exact ⟨⟨_, _, _, rfl⟩, ⟨_, _, _, rfl⟩, ⟨_, _, _, rfl⟩⟩
theorem TL.below {w V : World} (h : TL w) (hb : Below w.heap.size w V) : TL V := ⟨h.1.keep hb, tab_keep h.2 (hb.block _ (tab_lt h.2))⟩
set_option maxRecDepth 100000 in
set_option maxHeartbeats 4000000 in
theorem walk (a0 : Option Addr) (len0 cap0 : Nat) (z0 : List Int) (w : World) (w0 : Row .i64 w a0 len0 cap0 z0) (hT : TL w) :
    Calls Tryz.prog 5 #[.slice a0 len0 cap0] w fun e w' => e = .returned (.bool true) ∧ Below w.heap.size w w' := by
  obtain ⟨_, _, _, hz⟩ := w0.ints
  have HP := Lib.hid (Program_any a0 len0 cap0 _ w w0.slc (i64_of hz))
  obtain ⟨zs, hzs⟩ : ∃ zs, z0.take len0 = zs := ⟨_, rfl⟩
  rw [hzs] at HP
  have hWP := PP.unit_ok zs
  have hln := PP.print_len zs
  have hne := unit_ne zs
  have hWU := Lib.hid (wu_of hWP (by omega) hne)
  have hpp := PP.print_parse hWP (by omega)
  have hon : (PG.unit zs).on.length ≤ 4 := by
    have : ∀ (L : List Int) (q h p : Nat), (PG.onG L q h p).length ≤ q := by
      intro L q
      induction q with
      | zero => intro h p; simp [PG.onG]
      | succ q ih =>
        intro h p
        unfold PG.onG
        split
        · have := ih (h + 1) (PG.blockG L (PG.genS L 2) 3 (p + 3)).2
          simp only [List.length_cons]
          omega
        · have := ih (h + 1) (p + 1)
          omega
    exact this _ 4 0 0
  have hdl : (PG.unit zs).dur.length = 2 := rfl
  have hvl : (PG.unit zs).vol.length = 2 := rfl
  obtain ⟨u, hu⟩ : ∃ u, PG.unit zs = u := ⟨_, rfl⟩
  rw [hu] at HP hWU hpp hln hon hdl hvl
  obtain ⟨R, hR⟩ : ∃ R, PP.print u = R := ⟨_, rfl⟩
  have HPR := Lib.hid (fun (V : World) (lo : Nat) (v : Value) (h : UV3 lo V u v) (hV : TL V) => print_any u hWU.out V lo v h (TB.start hV.2))
  rw [hR] at HPR hpp hln
  have HPA := Lib.hid (fun (V : World) (hV : TL V) => Parse_any (PS.bs R) (by show R.toArray.size ≤ _; simp; omega) V hV.1)
  have hbR : bsOf (PS.bs R) = R := by simp [bsOf]
  rw [hbR, hpp] at HPA
  have HSM := Lib.hid (fun (V : World) (lo lo' : Nat) (v v' : Value) (h : UV3 lo V u v) (h' : UV3 lo' V u v') => same_any V lo lo' u u v v' h h' (by omega) (by omega) (by omega))
  rw [eqU_t rfl] at HSM
  have HLV := Lib.hid (fun (V : World) (hV : TL V) => lives_any V hV.1)
  obtain ⟨S, hS⟩ : ∃ S, PS.bs R = S := ⟨_, rfl⟩
  rw [hS] at HPR HPA
  have HT := Lib.hid hT
  clear hz hzs hWP hln hne hpp hon hdl hvl hu hR hbR hS hT w0
  go_enter Tryz.func5, Tryz.ntmps5
  go_wp2_with fail
  refine HP.out.mono ?_
  clear HP
  rintro e w1 ⟨v, rfl, hv, hb1⟩
  obtain ⟨x, y, z, rfl⟩ := UV3.shape hv
  obtain ⟨⟨A1, m1, c1, rfl⟩, ⟨A2, m2, c2, rfl⟩, ⟨A3, m3, c3, rfl⟩⟩ := u_row hv
  obtain ⟨W1, hW1⟩ : ∃ U, w1.alloc (.cells #[.slice A1 m1 c1, .slice A2 m2 c2, .slice A3 m3 c3] 26) = U := ⟨_, rfl⟩
  have hb2 : Below w1.heap.size w1 W1 := by rw [← hW1]; exact (Below.refl _ _).alloc (Nat.le_refl _) _
  have z1 : W1.heap.size = w1.heap.size + 1 := by rw [← hW1, World.size_alloc]
  have k1 : W1.heap[w1.heap.size]? = some (.cells #[.slice A1 m1 c1, .slice A2 m2 c2, .slice A3 m3 c3] 26 (0, 0)) := by rw [← hW1]; exact World.alloc_heap_new w1 _
  have K1 := Lib.hid (fun (V : World) (h : Below W1.heap.size W1 V) => show V.cell? ⟨w1.heap.size, 0, none⟩ = some (.slice A1 m1 c1) ∧ V.cell? ⟨w1.heap.size, 1, none⟩ = some (.slice A2 m2 c2) ∧ V.cell? ⟨w1.heap.size, 2, none⟩ = some (.slice A3 m3 c3) from by
    have hk := (h.block w1.heap.size (by omega)).trans k1
    exact ⟨cell_of_row _ _ 0 _ _ (0, 0) hk, cell_of_row _ _ 1 _ _ (0, 0) hk, cell_of_row _ _ 2 _ _ (0, 0) hk⟩)
  have B1 := Lib.hid (hb1.trans (hb2.mono hb1.size))
  have V1 := Lib.hid (UV3.keep hv (fun q _ h2 => hb2.block q h2) hb2.size)
  have T1 := Lib.hid (TL.below HT.out B1.out)
  have HW1 := Lib.hid hW1
  obtain ⟨a0', a1', a2'⟩ := K1.out W1 (Below.refl _ _)
  clear hv hb1 hb2 k1 hW1 z1
  go_wp2_with fail
  rw [HW1.out]
  refine (HPR.out W1 _ _ V1.out T1.out).mono ?_
  rintro e w2 ⟨rfl, hb3⟩
  have B2 := Lib.hid hb3
  have T2 := Lib.hid (TL.below T1.out hb3)
  clear hb3 a0' a1' a2'
  go_wp2_with fail
  refine (HPA.out w2 T2.out).mono ?_
  clear HPA
  rintro e w3 ⟨hb4, v', rfl, hv'⟩
  obtain ⟨x', y', z', rfl⟩ := UV3.shape hv'
  obtain ⟨⟨A4, m4, c4, rfl⟩, ⟨A5, m5, c5, rfl⟩, ⟨A6, m6, c6, rfl⟩⟩ := u_row hv'
  obtain ⟨W3, hW3⟩ : ∃ U, w3.alloc (.cells #[.slice A4 m4 c4, .slice A5 m5 c5, .slice A6 m6 c6] 26) = U := ⟨_, rfl⟩
  have hb5 : Below w3.heap.size w3 W3 := by rw [← hW3]; exact (Below.refl _ _).alloc (Nat.le_refl _) _
  have z3 : W3.heap.size = w3.heap.size + 1 := by rw [← hW3, World.size_alloc]
  have k3 : W3.heap[w3.heap.size]? = some (.cells #[.slice A4 m4 c4, .slice A5 m5 c5, .slice A6 m6 c6] 26 (0, 0)) := by rw [← hW3]; exact World.alloc_heap_new w3 _
  have K3 := Lib.hid (fun (V : World) (h : Below W3.heap.size W3 V) => show V.cell? ⟨w3.heap.size, 0, none⟩ = some (.slice A4 m4 c4) ∧ V.cell? ⟨w3.heap.size, 1, none⟩ = some (.slice A5 m5 c5) ∧ V.cell? ⟨w3.heap.size, 2, none⟩ = some (.slice A6 m6 c6) from by
    have hk := (h.block w3.heap.size (by omega)).trans k3
    exact ⟨cell_of_row _ _ 0 _ _ (0, 0) hk, cell_of_row _ _ 1 _ _ (0, 0) hk, cell_of_row _ _ 2 _ _ (0, 0) hk⟩)
  have s2 := B2.out.size
  have s4 := hb4.size
  have hb6 : Below w2.heap.size w2 W3 := hb4.trans (hb5.mono s4)
  have B3 := Lib.hid (B2.out.trans (hb6.mono s2))
  have V3 := Lib.hid (UV3.keep hv' (fun q _ h2 => hb5.block q h2) hb5.size)
  have U3 := Lib.hid (UV3.keep V1.out (fun q _ h2 => B3.out.block q h2) B3.out.size)
  have T3 := Lib.hid (TL.below T2.out hb6)
  have HW3 := Lib.hid hW3
  obtain ⟨d0, d1, d2⟩ := K1.out W3 B3.out
  obtain ⟨e0, e1, e2⟩ := K3.out W3 (Below.refl _ _)
  clear hv' hb4 hb5 hb6 k3 z3 s2 s4 HW3
  go_wp2_with fail
  refine (HSM.out W3 _ _ _ _ U3.out V3.out).mono ?_
  rintro e w4 ⟨rfl, hb7⟩
  have B4 := Lib.hid hb7
  have V4 := Lib.hid (UV3.keep V3.out (fun q _ h2 => hb7.block q h2) hb7.size)
  have T4 := Lib.hid (TL.below T3.out hb7)
  obtain ⟨f0, f1, f2⟩ := K3.out w4 hb7
  clear hb7 d0 d1 d2 e0 e1 e2 hW3
  go_wp2_with fail
  refine (HPR.out w4 _ _ V4.out T4.out).mono ?_
  rintro e w5 ⟨rfl, hb8⟩
  have B5 := Lib.hid (B4.out.trans (hb8.mono B4.out.size))
  have T5 := Lib.hid (TL.below T4.out hb8)
  clear hb8 f0 f1 f2
  go_wp2_with fail
  refine (HLV.out w5 T5.out).mono ?_
  rintro e w6 ⟨rfl, hb9⟩
  have B6 := Lib.hid (B5.out.trans (hb9.mono B5.out.size))
  clear hb9
  go_wp2_with fail
  go_ret
  exact ⟨rfl, B1.out.trans ((B3.out.trans (B6.out.mono B3.out.size)).mono B1.out.size)⟩
end Go.Proofs.YtlfpaemfhanpiaaGreatDoor.LawParserRound

namespace Go.Proofs.YtlfpaemfhanpiaaGreatDoor.parserRound
open Go.ChangeShapes Go.WideShapes Go.ChangeAt Go.RowKit
open Go.ChangeMaps (open_string shut_string)
set_option linter.unusedVariables false

theorem own : ownKnob Tryz.prog.godebug = none := by kernel_rfl
theorem laidOut : laidOutB Tryz.prog = true := by kernel_rfl

/-- WHAT THE WALK IS TOLD OF A SLICE OF INTEGERS THAT CAME IN: it is nil; or it leads to a row of 'cap' cells, the numbers 'zs' (the first 'len' are its elements, the rest its spare room), each fitting its kind. -/
def IsRow (k : IntKind) (w : World) (a : Option Addr) (len cap : Nat) (zs : List Int) : Prop :=
  (a = none ∧ len = 0 ∧ cap = 0 ∧ zs = []) ∨
  ∃ x, a = some x ∧ len ≤ cap ∧ cap ≤ maxLen ∧ zs.length = cap ∧ (∀ i, i < zs.length → w.cell? (x.add i) = some (.int k (zs.getD i 0))) ∧ ∀ n ∈ zs, (Lit.int k n).wf = true

/-! ### STEP 1: THE WALK: the Go text returns true, AND WRITES NOTHING THAT WAS THERE: 'Below w.heap.size w w'' (Derived/Below.lean: '.refl', '.alloc', '.drew', '.setCell' at a new block, '.trans'). Open each 'IsRow' by 'rcases' AHEAD of 'go_enter'; part every test ahead of the walk. -/
theorem walk (a0 : Option Addr) (len0 cap0 : Nat) (z0 : List Int) (w : World) (w0 : IsRow .i64 w a0 len0 cap0 z0) (hT : TL w) :
    Calls Tryz.prog 5 #[.slice a0 len0 cap0] w fun e w' => e = .returned (.bool true) ∧ Below w.heap.size w w' := by
  exact LawParserRound.walk a0 len0 cap0 z0 w w0 hT

/-! ### THE ROW's STEP: WRITTEN OUT: LEAVE IT -/
set_option maxRecDepth 100000 in
theorem lifted (os : Os) (started : os.Started) (H : Type) (enc : TypeId × Value → H) :
    ReturnsInHanded {} Tryz.checked os 5 .any (fun w args => (Rows.parserRoundSpec.pre enc Tryz.prog Tryz.f5 [] false w args ∧ laidMetH Tryz.prog laidT w) ∧ sizedMet enc Tryz.prog Tryz.f5 (OpenSpec.ofChange Rows.parserRoundSpec) false w args)
      (Rows.parserRoundSpec.post enc Tryz.prog Tryz.f5 false true false false) := by
  refine returnsInHanded_of_change_and (C := Tryz.checked) (X := fun w _ => laidMetH Tryz.prog laidT w) (fun _ _ _ hh h => h.of_heap hh) own started (by kernel_rfl) Tryz.func5
    (ChangeSpec.witness_shaped (enc := enc) (C := Tryz.checked) (os := os) (X := fun w _ => laidMetH Tryz.prog laidT w) false (World.doorLaid Tryz.prog 200 os) #[.slice none 0 0] 8 rfl (World.shaped_of_RefB (by kernel_rfl) (by kernel_rfl)) (by kernel_rfl) (by kernel_rfl) (by kernel_rfl) (door_met os _)) ?_
  intro W base args ds gs before hval0 hW _ _ hL _
  have hval : ∀ (j : Nat) t v, Tryz.f5.params[j]? = some t → args[j]? = some v → Value.okWide Tryz.prog W .any base t v := hval0
  have hW' := hW
  obtain ⟨p, q, hA0, hV, rfl, hfz, hnd⟩ := hW
  have hA : DataW.TrodAll enc Tryz.prog W 0 (fun _ => true) true Tryz.f5.params.toList args.toList ds p := hA0
  rw [Tryz.params5] at hA hval
  obtain ⟨v0, vs0, d0, ds0, p0, q0, hargs, rfl, rfl, h0, r0⟩ := trodAll_cons hA
  obtain ⟨rfl, rfl, rfl⟩ := trodAll_nil r0
  obtain rfl : args = #[v0] := by cases args; simp_all
  obtain ⟨rfl, rfl⟩ := trodVars_none hV
  obtain ⟨a0, len0, cap0, rfl⟩ := okWide_slice Tryz.underlying22 (hval 0 22 v0 rfl rfl)
  have k0 := h0
  have lt0 : ∀ x ∈ p0, x.block < W.heap.size := by obtain ⟨m, hm⟩ := k0; exact DataW.trod_lt m _ _ _ hm
  obtain ⟨z0, w0⟩ : ∃ zs, IsRow .i64 W a0 len0 cap0 zs := by
    obtain ⟨fuel, hf⟩ := h0
    rcases open_ints Tryz.underlying22 Tryz.underlying3 (by kernel_rfl) hf with ⟨hcs, _⟩ | ⟨x, l, c, zs, hcs, _, hl, hm, hz, _, hcell, hwz⟩
    · simp [Value.cells] at hcs
      obtain ⟨rfl, rfl, rfl⟩ := hcs
      exact ⟨[], .inl ⟨rfl, rfl, rfl, rfl⟩⟩
    · simp [Value.cells] at hcs
      obtain ⟨rfl, rfl, rfl⟩ := hcs
      exact ⟨zs, .inr ⟨_, rfl, hl, hm, by simpa using hz, hcell, hwz⟩⟩
  clear hA0 hval0
  refine (walk a0 len0 cap0 z0 W w0 (of_laid hL)).mono fun e W' ⟨he, bel⟩ => ?_
  subst he
  exact ⟨_, rfl, _, _, _, [], _, [], hW', trodAll_mk1 (shut_bool Tryz.underlying4 _), (trodAll_cons_mk (Below.trod laidOut (by kernel_rfl) (of_decide_eq_true (by kernel_rfl)) k0 bel lt0) trodAll_mk0), rfl, bel.frame _, fun h => by cases h⟩

theorem over : Rows.parserRoundRow.holds Tryz.pinned (OpenSpec.ofChange Rows.parserRoundSpec) :=
  OpenClaim.holds_of_wide 5 Tryz.f5 rfl rfl rfl rfl rfl rfl rfl ⟨rfl, rfl, rfl, rfl, rfl⟩ rfl rfl rfl rfl rfl (by kernel_rfl) Tryz.func5 (by kernel_rfl)
    (of_decide_eq_true (by kernel_rfl)) (by unfold Func.isWrapper; first | (rw [if_pos (by decide +kernel)]; kernel_rfl) | (rw [if_neg (by decide +kernel)]; exact ⟨rfl, rfl⟩))
    (fun os started H enc _ => lifted os started H enc)


/-! ### THE CARD -/
theorem cardHolds : Rows.ParserRoundCardSaid :=
  Claim7.holds_tied_plain_at .later [] [.data, .data, .data, .sentinel, .sentinel] true (true, "fd9eb7fad378b262926bc26d9e9dd09f51ab44a87eea3f24d860f1ba452d3abe") true
    over (fun _ h => by cases h) (by kernel_rfl) (fun _ h => by cases h) parserRound_row_tie rfl ⟨rfl, rfl⟩ (by kernel_rfl) rfl
    (fun f fn hf hfn => by
      obtain rfl : f = 5 := Option.some.inj ((show Tryz.prog.funcNamed "simproof/simprooflaw06.ParserRound" = some 5 by kernel_rfl).symm.trans hf) |>.symm
      obtain rfl : fn = Tryz.f5 := (Option.some.inj (Tryz.func5.symm.trans hfn)).symm
      exact ⟨by kernel_rfl, fun j t ht => by
        rw [Tryz.params5] at ht
        have hm : t ∈ [22] := by simpa using Array.mem_of_getElem? ht
        have hall : ([22].all fun u => !Tryz.prog.wantsStandIn u) = true := by kernel_rfl
        exact (show Tryz.prog.wantsStandIn t = false by simpa using List.all_eq_true.1 hall t hm)⟩)
    (by kernel_rfl)
end Go.Proofs.YtlfpaemfhanpiaaGreatDoor.parserRound
