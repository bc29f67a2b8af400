/-
  The walk of LexerSpaces. Condition: strconv.ErrRange holds an error or nil.
  The tied card of the statement LexerSpaces: for every input the law answers true and leaves its arguments as they were; the condition is the listed table of math/bits, which the card ties to the program's text. The frame of this proof was written by the guide's program, the walk is the text LawLexerSpaces's.
-/
import Derived.RegionTactic
import Derived.Test.YtiejhgdjkfhmoaaDoorK13
import Derived.Test.YtiejhgdjkfhmoaaDoorRows
import Derived.Test.YtiejhgdjkfhmoaaDoorCards
import Derived.Test.YtiejhgdjkfhmoaaDoorTie
import Derived.Test.YtiejhgdjkfhmoaaDoorK8
import Derived.SevenTiedPlain
import Derived.SevenTiedAt
import Derived.WalkKit
import Derived.ProofKit
import Derived.OpenShut
import Derived.ShutString
import Derived.ChangeOld
import Derived.Below

namespace Go.Proofs.YtiejhgdjkfhmoaaDoor.LawLexerSpaces
open Go Go.RowKit Go.Proofs Go.Proofs.YtiejhgdjkfhmoaaDoor Go.Proofs.YtiejhgdjkfhmoaaDoor.LX

theorem lexF_txt : ∀ (f o : Nat) (L : List UInt8), ∀ t ∈ outT (lexF f o L), t.text.length ≤ L.length
  | 0, _, _, t, h => by cases h
  | f + 1, o, L, t, h => by
    have hl := skipS_len false L
    rw [lexF] at h
    cases hs : skip L with
    | nil =>
      rw [hs] at h
      simp only [outT, List.mem_singleton] at h
      rw [h]
      exact Nat.zero_le _
    | cons c u =>
      rw [hs] at h
      rw [show skipS false L = c :: u from hs] at hl
      simp only at h
      cases hr : tok1 (c :: u) with
      | bad e => rw [hr] at h; cases h
      | good k n v =>
        rw [hr] at h
        simp only at h
        have h1 := tok1_len hr
        have ih := lexF_txt f (o + (L.length - (c :: u).length) + n) ((c :: u).drop n)
        cases hx : lexF f (o + (L.length - (c :: u).length) + n) ((c :: u).drop n) with
        | err p e => rw [hx] at h; cases h
        | ok us =>
          rw [hx] at h ih
          simp only [Out.pre, outT, List.singleton_append, List.mem_cons] at h
          rcases h with rfl | h
          · show ((c :: u).take n).length ≤ _
            rw [List.length_take]
            omega
          · have := ih t h
            rw [List.length_drop] at this
            omega
theorem joinT_snoc : ∀ (sps : List (List UInt8)) (ts : List LX.Tok) (sp : List UInt8) (t : LX.Tok), sps.length = ts.length → joinT (sps ++ [sp]) (ts ++ [t]) = joinT sps ts ++ sp ++ t.text
  | [], [], sp, t, _ => by simp [joinT]
  | a :: l, b :: m, sp, t, h => by
    show a ++ (b.text ++ joinT (l ++ [sp]) (m ++ [t])) = a ++ (b.text ++ joinT l m) ++ sp ++ t.text
    rw [joinT_snoc l m sp t (by simpa using h)]
    simp only [List.append_assoc]
  | [], _ :: _, _, _, h => by simp at h
  | _ :: _, [], _, _, h => by simp at h
def spcs : List (List UInt8) := [[32], [10], [9, 32], [35, 120, 61, 49, 10], [32, 35, 10, 35, 10]]
theorem spcs_ok : ∀ x ∈ spcs, Spc x := by
  intro x hx
  simp only [spcs, List.mem_cons, List.not_mem_nil, or_false] at hx
  rcases hx with rfl | rfl | rfl | rfl | rfl
  · exact ⟨⟨_, _, rfl, by unfold stopc; decide⟩, fun y => by simp [skip, skipS, isB]⟩
  · exact ⟨⟨_, _, rfl, by unfold stopc; decide⟩, fun y => by simp [skip, skipS, isB]⟩
  · exact ⟨⟨_, _, rfl, by unfold stopc; decide⟩, fun y => by simp [skip, skipS, isB]⟩
  · exact ⟨⟨_, _, rfl, by unfold stopc; decide⟩, fun y => by simp [skip, skipS]⟩
  · exact ⟨⟨_, _, rfl, by unfold stopc; decide⟩, fun y => by simp [skip, skipS, isB]⟩
def C5 : Array Value := #[.string ⟨#[32]⟩, .string ⟨#[10]⟩, .string ⟨#[9, 32]⟩, .string ⟨#[35, 120, 61, 49, 10]⟩, .string ⟨#[32, 35, 10, 35, 10]⟩]
theorem c5_at {k : Nat} (h : k < 5) : ∃ s : ByteArray, C5[k]? = some (.string s) ∧ s.size ≤ 5 ∧ bsOf s ∈ spcs := by
  obtain rfl | rfl | rfl | rfl | rfl : k = 0 ∨ k = 1 ∨ k = 2 ∨ k = 3 ∨ k = 4 := by omega
  · exact ⟨⟨#[32]⟩, rfl, by decide, by decide⟩
  · exact ⟨⟨#[10]⟩, rfl, by decide, by decide⟩
  · exact ⟨⟨#[9, 32]⟩, rfl, by decide, by decide⟩
  · exact ⟨⟨#[35, 120, 61, 49, 10]⟩, rfl, by decide, by decide⟩
  · exact ⟨⟨#[32, 35, 10, 35, 10]⟩, rfl, by decide, by decide⟩
theorem lex_joined {s out : ByteArray} {ts : List LX.Tok} (h : lex (bsOf s) = .ok ts) {sps : List (List UInt8)} (hl : sps.length = ts.length) (hm : ∀ x ∈ sps, x ∈ spcs) (ho : bsOf out = joinT sps ts) : ∃ us, lex (bsOf out) = .ok us ∧ us.map (fun t => (t.kind, t.text, t.num)) = ts.map (fun t => (t.kind, t.text, t.num)) := by
  rw [ho]
  exact lexF_join ts 0 sps _ 0 (lex_chain h) hl (fun x hx => spcs_ok x (hm x hx)) (Nat.lt_succ_self _)
theorem lex_err {s : ByteArray} {p c : Nat} (h : lex (bsOf s) = .err p c) : c ≠ 0 := by
  have hl := items_lex s
  rw [h] at hl
  obtain ⟨ts, _, hc⟩ := hl
  exact hc

set_option maxRecDepth 100000 in
set_option maxHeartbeats 8000000 in
theorem walk (a0 : Option Addr) (len0 cap0 : Nat) (z0 : List Int) (a1 : Option Addr) (len1 cap1 : Nat) (z1 : List Int) (w : World) (w0 : Row .i64 w a0 len0 cap0 z0) (w1 : Row .i64 w a1 len1 cap1 z1) (hT : ErrV w) :
    Calls Tryd.prog 5 #[.slice a0 len0 cap0, .slice a1 len1 cap1] w fun e w' => e = .returned (.bool true) ∧ Below w.heap.size w w' := by
  obtain ⟨hx, _, _, hz⟩ := w0.ints
  obtain ⟨hx1, _, hcm, hz1⟩ := w1.ints
  obtain ⟨zs, hzs⟩ : ∃ zs, z1.take len1 = zs := ⟨_, rfl⟩
  rw [hzs] at hx1 hz1
  have HTX := Lib.hid (text_any len0 cap0 a0 _ w hx (i64_of hz))
  have HL := Lib.hid (fun (V : World) (h : Gd w V) => lives_gd (w := w) V h)
  have HTK := Lib.hid (fun (s : ByteArray) (hs : s.size ≤ 1000000000) (V : World) (h : Gd w V) => toks_gd s hs V h)
  have G0 := Lib.hid (Gd.refl hT)
  have HX1 := Lib.hid hx1
  have HZ1 := Lib.hid (i64_of hz1)
  have hlz := hx1.len
  clear hT w0 w1 hx hx1 hz hz1 hzs
  go_enter Tryd.func5, Tryd.ntmps5
  go_wp2_with fail
  refine HTX.out.mono ?_
  rintro e v1 ⟨⟨s, rfl, hs⟩, hb1⟩
  have G1 := Lib.hid (G0.out.next hb1)
  clear hb1 HTX
  have hs5 : s.size ≤ 1000000000 := by omega
  have ht := fun (V : World) (h : Gd w V) => HTK.out s hs5 V h
  cases hL : lex (bsOf s) with
  | err p c =>
    rw [hL] at ht
    have hc := lex_err hL
    have HT : Hid (∀ V : World, Gd w V → Calls Tryd.prog 15 #[.string s] V fun e w' => (∃ A cp, e = .returned (.tuple #[.slice A 0 cp, .int .i64 (p : Int), .int .i64 (c : Int)]) ∧ TRow w' V.heap.size 36 (.slice A 0 cp) []) ∧ Below V.heap.size V w' ∧ Gd w w') := ht
    have c1 : ((c : Int) != 0) = true := by simp; omega
    clear hL hc HTK ht
    go_wp2_with (first
      | (go_at_call 15; refine (HT.out _ G1.out).mono ?_; rintro e v3 ⟨⟨A3, c3, rfl, _⟩, _, G3⟩)
      | (go_at_call 14; ((with_reducible refine (HL.out _ ?_).mono ?_); focus (exact G3)); rintro e v4 ⟨rfl, G4⟩))
    go_ret
    exact ⟨rfl, G4.1⟩
  | ok ts =>
    rw [hL] at ht
    have HT : Hid (∀ V : World, Gd w V → Calls Tryd.prog 15 #[.string s] V fun e w' => (∃ A cp, e = .returned (.tuple #[.slice A ts.length cp, .int .i64 0, .int .i64 0]) ∧ TRow w' V.heap.size 36 (.slice A ts.length cp) ts) ∧ Below V.heap.size V w' ∧ Gd w w') := ht
    have HJ := Lib.hid (fun (out : ByteArray) (sps : List (List UInt8)) (h1 : sps.length = ts.length) (h2 : ∀ x ∈ sps, x ∈ spcs) (h3 : bsOf out = joinT sps ts) => lex_joined hL h1 h2 h3)
    have htl := lex_len s
    rw [hL] at htl
    have htl : ts.length ≤ s.size + 1 := htl
    have htx : ∀ t ∈ ts, t.text.length ≤ s.size := by
      have := lexF_txt ((bsOf s).length + 1) 0 (bsOf s)
      rw [show lexF ((bsOf s).length + 1) 0 (bsOf s) = lex (bsOf s) from rfl, hL, bs_len] at this
      exact this
    have HTX := Lib.hid htx
    clear hL ht htx
    go_wp2_with (go_at_call 15; refine (HT.out _ G1.out).mono ?_; rintro e v3 ⟨⟨A3, c3, rfl, ht3⟩, hb3, G3⟩; have HT3 := Lib.hid ht3; clear ht3 hb3 HT)
    have hz3 := G3.1.size
    go_loopw [8, 9] (fun o i V => ∃ (j : Nat) (S : ByteArray), j ≤ ts.length ∧ i = .int .i64 (j : Int) ∧ o = .string S ∧ S.size ≤ 1005 * j ∧ Hid (∃ sps : List (List UInt8), sps.length = j ∧ (∀ x ∈ sps, x ∈ spcs) ∧ bsOf S = joinT sps (ts.take j)) ∧ Below v3.heap.size v3 V) (fun _ i _ => ts.length - (intOf i).toNat)
    case atStart => exact ⟨0, ⟨#[]⟩, Nat.zero_le _, rfl, rfl, by show 0 ≤ _; omega, ⟨[], rfl, (fun x h => by cases h), rfl⟩, Below.refl _ _⟩
    case round =>
      obtain ⟨j, S, hj, rfl, rfl, hSz, HSP, hB⟩ := hrel
      obtain ⟨wo, hwo⟩ : ∃ W, W = wr := ⟨_, rfl⟩
      subst hwo
      by_cases hlt : j < ts.length
      · obtain ⟨g, hA3, hg⟩ := tRow_blk HT3.out (by omega)
        subst hA3
        have hg := hg.below hB
        have lg := hg.lt
        obtain ⟨t, ht⟩ : ∃ t, ts[j]? = some t := ⟨ts[j], List.getElem?_eq_getElem hlt⟩
        obtain ⟨_, _, b2, _⟩ := hg.cells j t ht
        have htz := HTX.out t (List.mem_of_getElem? ht)
        obtain ⟨tt, f4⟩ : ∃ x : ByteArray, ⟨t.text.toArray⟩ = x := ⟨_, rfl⟩
        rw [f4] at b2
        have htb : bsOf tt = t.text := by rw [← f4]
        have httz : tt.size ≤ 1000 := by rw [← bs_len, htb]; omega
        have HST := Lib.hid (show ∀ sp : ByteArray, bsOf sp ∈ spcs → ∃ sps : List (List UInt8), sps.length = j + 1 ∧ (∀ x ∈ sps, x ∈ spcs) ∧ bsOf (S ++ sp ++ tt) = joinT sps (ts.take (j + 1)) from fun sp hsp => by
          obtain ⟨sps, k1, k2, k3⟩ := HSP.out
          refine ⟨sps ++ [bsOf sp], by simp [k1], fun x hx => ?_, ?_⟩
          · rcases List.mem_append.1 hx with hx | hx
            · exact k2 x hx
            · rw [List.mem_singleton] at hx
              rw [hx]; exact hsp
          · rw [List.take_add_one, ht]
            show bsOf (S ++ sp ++ tt) = joinT (sps ++ [bsOf sp]) (ts.take j ++ [t])
            have hbb : bsOf (S ++ sp ++ tt) = bsOf S ++ bsOf sp ++ bsOf tt := by
              show (S ++ sp ++ tt).data.toList = _
              rw [ByteArray.data_append, ByteArray.data_append, Array.toList_append, Array.toList_append]
            rw [joinT_snoc _ _ _ _ (by rw [k1, List.length_take]; omega), hbb, k3, htb])
        have HB := Lib.hid hB
        by_cases hsp : j < len1
        · obtain ⟨b, off, hA, hb, hc⟩ := HX1.out.at_ (by omega)
          subst hA
          have hcell := hc j hsp
          have hcell := (G3.1.cell (p := ⟨b, off + j, none⟩) hb).trans hcell
          have hcell := (hB.cell (p := ⟨b, off + j, none⟩) (by show b < _; omega)).trans hcell
          have hi64 := HZ1.out _ (getD_mem (l := zs) (j := j) (by omega))
          obtain ⟨z, hzz⟩ : ∃ z, zs[j]?.getD 0 = z := ⟨_, rfl⟩
          rw [hzz] at hcell hi64
          have HAR := Lib.hid (around_any z 5 hi64 (by omega) (by omega))
          obtain ⟨y0, y1⟩ := around_in z 5 (by omega)
          obtain ⟨k, hk⟩ := Int.eq_ofNat_of_zero_le y0
          rw [hk] at HAR y1
          have hk5 : k < 5 := by omega
          obtain ⟨sp, e1, e2, e3⟩ := c5_at hk5
          have HST2 := Lib.hid (HST.out sp e3)
          have hcn : (wo.alloc (.cells #[.string ⟨#[32]⟩, .string ⟨#[10]⟩, .string ⟨#[9, 32]⟩, .string ⟨#[35, 120, 61, 49, 10]⟩, .string ⟨#[32, 35, 10, 35, 10]⟩] 9)).drew.cell? ⟨wo.heap.size, k, none⟩ = some (.string sp) := by
            have hkk : (wo.alloc (.cells C5 9)).drew.heap[wo.heap.size]? = some (.cells C5 9 (0, 0)) := World.alloc_heap_new wo (.cells C5 9)
            have := cell_of_row _ _ k C5 _ (0, 0) hkk
            exact this.trans e1
          have HNZ := Lib.hid (show (S ++ sp ++ tt).size ≤ 1005 * (j + 1) by rw [ByteArray.size_append, ByteArray.size_append]; omega)
          clear hc hzz hi64 y0 y1 hk e1 e3 HST HSP ht htb htz f4 hg hB
          go_wp2_with (go_at_call 11; refine (HAR.out _).mono ?_; rintro e v5 ⟨rfl, rfl⟩)
          go_region
          all_goals
            go_wp2_with fail
            go_roundw
            case rel => exact ⟨j + 1, _, by omega, by go_num, rfl, HNZ.out, HST2.out, (HB.out.alloc HB.out.size _).drew⟩
            case measure => simp [intOf]; omega
        · have HST2 := Lib.hid (HST.out ⟨#[32]⟩ (by decide))
          have HNZ := Lib.hid (show (S ++ ⟨#[32]⟩ ++ tt).size ≤ 1005 * (j + 1) by rw [ByteArray.size_append, ByteArray.size_append]; show S.size + 1 + tt.size ≤ _; omega)
          clear HST HSP ht htb htz f4 hg hB
          go_wp2_with fail
          go_region
          all_goals
            go_wp2_with fail
            go_roundw
            case rel => exact ⟨j + 1, _, by omega, by go_num, rfl, HNZ.out, HST2.out, (HB.out.alloc HB.out.size _).drew⟩
            case measure => simp [intOf]; omega
      · obtain rfl : j = ts.length := by omega
        have G5 := Lib.hid (G3.next hB)
        have HT5 := Lib.hid (tRow_below HT3.out hB)
        obtain ⟨sps, k1, k2, k3⟩ := HSP.out
        rw [List.take_length] at k3
        obtain ⟨us, hus, hmap⟩ := HJ.out S sps k1 k2 k3
        have hul : us.length = ts.length := by
          have := congrArg List.length hmap
          simpa using this
        have ht2 := fun (V : World) (h : Gd w V) => HTK.out S (by omega) V h
        rw [hus] at ht2
        have HU : Hid (∀ V : World, Gd w V → Calls Tryd.prog 15 #[.string S] V fun e w' => (∃ A cp, e = .returned (.tuple #[.slice A us.length cp, .int .i64 0, .int .i64 0]) ∧ TRow w' V.heap.size 36 (.slice A us.length cp) us) ∧ Below V.heap.size V w' ∧ Gd w w') := ht2
        rw [hul] at HU
        have HMP := Lib.hid (show ∀ (q : Nat) (t : LX.Tok), ts[q]? = some t → ∃ u : LX.Tok, us[q]? = some u ∧ u.kind = t.kind ∧ u.text = t.text ∧ u.num = t.num from fun q t ht => by
          have h1 := congrArg (fun l => l[q]?) hmap
          simp only [List.getElem?_map, ht, Option.map_some] at h1
          cases hu : us[q]? with
          | none => rw [hu] at h1; cases h1
          | some u =>
            rw [hu] at h1
            simp only [Option.map_some, Option.some.injEq, Prod.mk.injEq] at h1
            exact ⟨u, rfl, h1⟩)
        have nl : ((ts.length : Int) != (ts.length : Int)) = false := by simp
        have HUL := Lib.hid hul
        clear hB HSP k1 k2 k3 hus hmap hul ht2 HTK HJ
        go_wp2_with (go_at_call 15; refine (HU.out _ G5.out).mono ?_; rintro e v6 ⟨⟨A6, c6, rfl, ht6⟩, hb6, G6⟩; have HT6 := Lib.hid ht6; have HB6 := Lib.hid hb6; clear ht6 hb6 HU)
        have HT7 := Lib.hid (tRow_below HT5.out HB6.out)
        clear HT5 HB6 nl
        go_loopw [14] (fun i V => ∃ q : Nat, q ≤ ts.length ∧ i = .int .i64 (q : Int) ∧ Below v6.heap.size v6 V) (fun i _ => ts.length - (intOf i).toNat)
        case atStart => exact ⟨0, Nat.zero_le _, rfl, Below.refl _ _⟩
        case round =>
          obtain ⟨q, hq, rfl, hB⟩ := hrel
          by_cases hlt : q < ts.length
          · obtain ⟨gt, hA3, hgt⟩ := tRow_blk HT7.out (by omega)
            obtain ⟨gu, hA6, hgu⟩ := tRow_blk HT6.out (by rw [HUL.out]; omega)
            subst hA3 hA6
            have hgt := hgt.below hB
            have hgu := hgu.below hB
            obtain ⟨t, ht⟩ : ∃ t, ts[q]? = some t := ⟨ts[q], List.getElem?_eq_getElem hlt⟩
            obtain ⟨u, hu, j1, j2, j3⟩ := HMP.out q t ht
            obtain ⟨a0, _, a2, a3⟩ := hgt.cells q t ht
            obtain ⟨b0, _, b2, b3⟩ := hgu.cells q u hu
            rw [j1] at b0
            rw [j2] at b2
            rw [j3] at b3
            obtain ⟨tk, f1⟩ : ∃ x, t.kind = x := ⟨_, rfl⟩
            obtain ⟨tn, f3⟩ : ∃ x, t.num = x := ⟨_, rfl⟩
            obtain ⟨tt, f4⟩ : ∃ x : ByteArray, ⟨t.text.toArray⟩ = x := ⟨_, rfl⟩
            rw [f1] at a0 b0
            rw [f4] at a2 b2
            rw [f3] at a3 b3
            have n1 : ((tk : Int) != (tk : Int)) = false := by simp
            have n2 : (tt.toList != tt.toList) = false := by simp
            have n3 : ((tn : Int) != (tn : Int)) = false := by simp
            have HB := Lib.hid hB
            clear f1 f3 f4 j1 j2 j3 ht hu hgt hgu hB
            go_wp2_with fail
            go_quiet (fail)
            go_wp2
            go_roundw
            case rel => exact ⟨q + 1, by omega, by go_num, below_drewN' HB.out _⟩
            case measure => simp [intOf]; omega
          · have G7 := Lib.hid (G6.next hB)
            clear hB
            go_wp2_with (go_at_call 14; ((with_reducible refine (HL.out _ ?_).mono ?_); focus (exact G7.out)); rintro e v8 ⟨rfl, G8⟩)
            go_ret
            exact ⟨rfl, G8.1⟩
end Go.Proofs.YtiejhgdjkfhmoaaDoor.LawLexerSpaces

namespace Go.Proofs.YtiejhgdjkfhmoaaDoor.lexerSpaces
open Go.ChangeShapes Go.WideShapes Go.ChangeAt Go.RowKit
open Go.ChangeMaps (open_string shut_string)
set_option linter.unusedVariables false

theorem own : ownKnob Tryd.prog.godebug = none := by kernel_rfl
theorem laidOut : laidOutB Tryd.prog = true := by kernel_rfl

/-- WHAT THE WALK IS TOLD OF A SLICE OF INTEGERS THAT CAME IN: it is nil; or it leads to a row of 'cap' cells, the numbers 'zs' (the first 'len' are its elements, the rest its spare room), each fitting its kind. -/
def IsRow (k : IntKind) (w : World) (a : Option Addr) (len cap : Nat) (zs : List Int) : Prop :=
  (a = none ∧ len = 0 ∧ cap = 0 ∧ zs = []) ∨
  ∃ x, a = some x ∧ len ≤ cap ∧ cap ≤ maxLen ∧ zs.length = cap ∧ (∀ i, i < zs.length → w.cell? (x.add i) = some (.int k (zs.getD i 0))) ∧ ∀ n ∈ zs, (Lit.int k n).wf = true

/-! ### STEP 1: THE WALK: the Go text returns true, AND WRITES NOTHING THAT WAS THERE: 'Below w.heap.size w w'' (Derived/Below.lean: '.refl', '.alloc', '.drew', '.setCell' at a new block, '.trans'). Open each 'IsRow' by 'rcases' AHEAD of 'go_enter'; part every test ahead of the walk. -/
theorem walk (a0 : Option Addr) (len0 cap0 : Nat) (z0 : List Int) (a1 : Option Addr) (len1 cap1 : Nat) (z1 : List Int) (w : World) (w0 : IsRow .i64 w a0 len0 cap0 z0) (w1 : IsRow .i64 w a1 len1 cap1 z1) (hT : ErrV w) :
    Calls Tryd.prog 5 #[.slice a0 len0 cap0, .slice a1 len1 cap1] w fun e w' => e = .returned (.bool true) ∧ Below w.heap.size w w' := by
  exact LawLexerSpaces.walk a0 len0 cap0 z0 a1 len1 cap1 z1 w w0 w1 hT

/-! ### THE ROW's STEP: WRITTEN OUT: LEAVE IT -/
set_option maxRecDepth 100000 in
theorem lifted (os : Os) (started : os.Started) (H : Type) (enc : TypeId × Value → H) :
    ReturnsInHanded {} Tryd.checked os 5 .any (fun w args => (Rows.lexerSpacesSpec.pre enc Tryd.prog Tryd.f5 [] false w args ∧ laidMetH Tryd.prog laidT w) ∧ sizedMet enc Tryd.prog Tryd.f5 (OpenSpec.ofChange Rows.lexerSpacesSpec) false w args)
      (Rows.lexerSpacesSpec.post enc Tryd.prog Tryd.f5 false true false false) := by
  refine returnsInHanded_of_change_and (C := Tryd.checked) (X := fun w _ => laidMetH Tryd.prog laidT w) (fun _ _ _ hh h => h.of_heap hh) own started (by kernel_rfl) Tryd.func5
    (ChangeSpec.witness_shaped (enc := enc) (C := Tryd.checked) (os := os) (X := fun w _ => laidMetH Tryd.prog laidT w) false (World.doorLaid Tryd.prog 200 os) #[.slice none 0 0, .slice none 0 0] 8 rfl (World.shaped_of_RefB (by kernel_rfl) (by kernel_rfl)) (by kernel_rfl) (by kernel_rfl) (by kernel_rfl) (door_met os _)) ?_
  intro W base args ds gs before hval0 hW _ _ hL _
  have hval : ∀ (j : Nat) t v, Tryd.f5.params[j]? = some t → args[j]? = some v → Value.okWide Tryd.prog W .any base t v := hval0
  have hW' := hW
  obtain ⟨p, q, hA0, hV, rfl, hfz, hnd⟩ := hW
  have hA : DataW.TrodAll enc Tryd.prog W 0 (fun _ => true) true Tryd.f5.params.toList args.toList ds p := hA0
  rw [Tryd.params5] at hA hval
  obtain ⟨v0, vs0, d0, ds0, p0, q0, hargs, rfl, rfl, h0, r0⟩ := trodAll_cons hA
  obtain ⟨v1, vs1, d1, ds1, p1, q1, rfl, rfl, rfl, h1, r1⟩ := trodAll_cons r0
  obtain ⟨rfl, rfl, rfl⟩ := trodAll_nil r1
  obtain rfl : args = #[v0, v1] := by cases args; simp_all
  obtain ⟨rfl, rfl⟩ := trodVars_none hV
  obtain ⟨a0, len0, cap0, rfl⟩ := okWide_slice Tryd.underlying22 (hval 0 22 v0 rfl rfl)
  have k0 := h0
  have lt0 : ∀ x ∈ p0, x.block < W.heap.size := by obtain ⟨m, hm⟩ := k0; exact DataW.trod_lt m _ _ _ hm
  obtain ⟨z0, w0⟩ : ∃ zs, IsRow .i64 W a0 len0 cap0 zs := by
    obtain ⟨fuel, hf⟩ := h0
    rcases open_ints Tryd.underlying22 Tryd.underlying3 (by kernel_rfl) hf with ⟨hcs, _⟩ | ⟨x, l, c, zs, hcs, _, hl, hm, hz, _, hcell, hwz⟩
    · simp [Value.cells] at hcs
      obtain ⟨rfl, rfl, rfl⟩ := hcs
      exact ⟨[], .inl ⟨rfl, rfl, rfl, rfl⟩⟩
    · simp [Value.cells] at hcs
      obtain ⟨rfl, rfl, rfl⟩ := hcs
      exact ⟨zs, .inr ⟨_, rfl, hl, hm, by simpa using hz, hcell, hwz⟩⟩
  obtain ⟨a1, len1, cap1, rfl⟩ := okWide_slice Tryd.underlying22 (hval 1 22 v1 rfl rfl)
  have k1 := h1
  have lt1 : ∀ x ∈ p1, x.block < W.heap.size := by obtain ⟨m, hm⟩ := k1; exact DataW.trod_lt m _ _ _ hm
  obtain ⟨z1, w1⟩ : ∃ zs, IsRow .i64 W a1 len1 cap1 zs := by
    obtain ⟨fuel, hf⟩ := h1
    rcases open_ints Tryd.underlying22 Tryd.underlying3 (by kernel_rfl) hf with ⟨hcs, _⟩ | ⟨x, l, c, zs, hcs, _, hl, hm, hz, _, hcell, hwz⟩
    · simp [Value.cells] at hcs
      obtain ⟨rfl, rfl, rfl⟩ := hcs
      exact ⟨[], .inl ⟨rfl, rfl, rfl, rfl⟩⟩
    · simp [Value.cells] at hcs
      obtain ⟨rfl, rfl, rfl⟩ := hcs
      exact ⟨zs, .inr ⟨_, rfl, hl, hm, by simpa using hz, hcell, hwz⟩⟩
  clear hA0 hval0
  refine (walk a0 len0 cap0 z0 a1 len1 cap1 z1 W w0 w1 (of_laid hL)).mono fun e W' ⟨he, bel⟩ => ?_
  subst he
  exact ⟨_, rfl, _, _, _, [], _, [], hW', trodAll_mk1 (shut_bool Tryd.underlying4 _), (trodAll_cons_mk (Below.trod laidOut (by kernel_rfl) (of_decide_eq_true (by kernel_rfl)) k0 bel lt0) (trodAll_cons_mk (Below.trod laidOut (by kernel_rfl) (of_decide_eq_true (by kernel_rfl)) k1 bel lt1) trodAll_mk0)), rfl, bel.frame _, fun h => by cases h⟩

theorem over : Rows.lexerSpacesRow.holds Tryd.pinned (OpenSpec.ofChange Rows.lexerSpacesSpec) :=
  OpenClaim.holds_of_wide 5 Tryd.f5 rfl rfl rfl rfl rfl rfl rfl ⟨rfl, rfl, rfl, rfl, rfl⟩ rfl rfl rfl rfl rfl (by kernel_rfl) Tryd.func5 (by kernel_rfl)
    (of_decide_eq_true (by kernel_rfl)) (by unfold Func.isWrapper; first | (rw [if_pos (by decide +kernel)]; kernel_rfl) | (rw [if_neg (by decide +kernel)]; exact ⟨rfl, rfl⟩))
    (fun os started H enc _ => lifted os started H enc)


/-! ### THE CARD -/
theorem cardHolds : Rows.LexerSpacesCardSaid :=
  Claim7.holds_tied_plain_at .later [] [.data, .data, .data, .sentinel, .sentinel] true (true, "c237112ac9046ed8453b948d641b8cfa5582db3bd5080ec09f337f3eca4931db") true
    over (fun _ h => by cases h) (by kernel_rfl) (fun _ h => by cases h) lexerSpaces_row_tie rfl ⟨rfl, rfl⟩ (by kernel_rfl) rfl
    (fun f fn hf hfn => by
      obtain rfl : f = 5 := Option.some.inj ((show Tryd.prog.funcNamed "simproof/simprooflaw05.LexerSpaces" = some 5 by kernel_rfl).symm.trans hf) |>.symm
      obtain rfl : fn = Tryd.f5 := (Option.some.inj (Tryd.func5.symm.trans hfn)).symm
      exact ⟨by kernel_rfl, fun j t ht => by
        rw [Tryd.params5] at ht
        have hm : t ∈ [22, 22] := by simpa using Array.mem_of_getElem? ht
        have hall : ([22, 22].all fun u => !Tryd.prog.wantsStandIn u) = true := by kernel_rfl
        exact (show Tryd.prog.wantsStandIn t = false by simpa using List.all_eq_true.1 hall t hm)⟩)
    (by kernel_rfl)
end Go.Proofs.YtiejhgdjkfhmoaaDoor.lexerSpaces
