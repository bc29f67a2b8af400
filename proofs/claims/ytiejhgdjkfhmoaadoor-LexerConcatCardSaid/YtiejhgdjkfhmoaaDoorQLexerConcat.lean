/-
  The walk of LexerConcat. Condition: strconv.ErrRange holds an error or nil.
  The tied card of the statement LexerConcat: for every input the law answers true and leaves its arguments as they were; the condition is the listed table of math/bits, which the card ties to the program's text. The frame of this proof was written by the guide's program, the walk is the text LawLexerConcat's.
-/
import Derived.RegionTactic
import Derived.Test.YtiejhgdjkfhmoaaDoorK16
import Derived.Test.YtiejhgdjkfhmoaaDoorK18
import Derived.Test.YtiejhgdjkfhmoaaDoorK13
import Derived.Test.YtiejhgdjkfhmoaaDoorRows
import Derived.Test.YtiejhgdjkfhmoaaDoorCards
import Derived.Test.YtiejhgdjkfhmoaaDoorTie
import Derived.Test.YtiejhgdjkfhmoaaDoorK8
import Derived.SevenTiedPlain
import Derived.SevenTiedAt
import Derived.WalkKit
import Derived.ProofKit
import Derived.OpenShut
import Derived.ShutString
import Derived.ChangeOld
import Derived.Below

namespace Go.Proofs.YtiejhgdjkfhmoaaDoor.LawLexerConcat
open Go Go.RowKit Go.Proofs Go.Proofs.YtiejhgdjkfhmoaaDoor Go.Proofs.YtiejhgdjkfhmoaaDoor.LX

theorem lex_err {s : ByteArray} {p c : Nat} (h : lex (bsOf s) = .err p c) : c ≠ 0 := by
  have hl := items_lex s
  rw [h] at hl
  obtain ⟨ts, _, hc⟩ := hl
  exact hc
theorem lex_ne {s : ByteArray} {ts : List LX.Tok} (h : lex (bsOf s) = .ok ts) : ts ≠ [] := chain_ne (lex_chain h)
abbrev TK (w : World) : Prop := ∀ (s : ByteArray), s.size ≤ 1000000000 → ∀ V : World, Gd w V → Calls Tryd.prog 15 #[.string s] V fun e w' => (∃ A c, e = .returned (.tuple #[.slice A (outT (lex (bsOf s))).length c, .int .i64 ((outP (lex (bsOf s)) : Nat) : Int), .int .i64 ((outC (lex (bsOf s)) : Nat) : Int)]) ∧ TRow w' V.heap.size 36 (.slice A (outT (lex (bsOf s))).length c) (outT (lex (bsOf s)))) ∧ Below V.heap.size V w' ∧ Gd w w'
theorem tok_err {w : World} (H : TK w) {s : ByteArray} (hs : s.size ≤ 1000000000) {p c : Nat} (h : lex (bsOf s) = .err p c) {V : World} (hV : Gd w V) : Calls Tryd.prog 15 #[.string s] V fun e w' => (∃ A cp, e = .returned (.tuple #[.slice A 0 cp, .int .i64 (p : Int), .int .i64 (c : Int)]) ∧ TRow w' V.heap.size 36 (.slice A 0 cp) []) ∧ Below V.heap.size V w' ∧ Gd w w' := by
  have k := H s hs V hV
  rw [h] at k
  exact k
theorem tok_ok {w : World} (H : TK w) {s : ByteArray} (hs : s.size ≤ 1000000000) {ts : List LX.Tok} (h : lex (bsOf s) = .ok ts) {V : World} (hV : Gd w V) : Calls Tryd.prog 15 #[.string s] V fun e w' => (∃ A c, e = .returned (.tuple #[.slice A ts.length c, .int .i64 (0 : Int), .int .i64 (0 : Int)]) ∧ TRow w' V.heap.size 36 (.slice A ts.length c) ts) ∧ Below V.heap.size V w' ∧ Gd w w' := by
  have k := H s hs V hV
  rw [h] at k
  exact k

set_option maxRecDepth 100000 in
set_option maxHeartbeats 8000000 in
theorem walk (a0 : ByteArray) (a1 : Option Addr) (len1 cap1 : Nat) (z1 : List Int) (a2 : Option Addr) (len2 cap2 : Nat) (z2 : List Int) (a3 : Bool) (w : World) (_w0 : a0.size ≤ maxLen) (w1 : Row .i64 w a1 len1 cap1 z1) (w2 : Row .i64 w a2 len2 cap2 z2) (hT : ErrV w) :
    Calls Tryd.prog 6 #[.string a0, .slice a1 len1 cap1, .slice a2 len2 cap2, .bool a3] w fun e w' => e = .returned (.bool true) ∧ Below w.heap.size w w' := by
  obtain ⟨hx, _, _, hz⟩ := w1.ints
  obtain ⟨hx2, _, _, hz2⟩ := w2.ints
  have HTX := Lib.hid (text_any len1 cap1 a1 _ w hx (i64_of hz))
  have HTY := Lib.hid (fun (V : World) (h : Below w.heap.size w V) => text_any len2 cap2 a2 _ V ((hx2.below h).more h.size) (i64_of hz2))
  have HL := Lib.hid (fun (V : World) (h : Gd w V) => lives_gd (w := w) V h)
  have HTK := Lib.hid (fun (s : ByteArray) (hs : s.size ≤ 1000000000) (V : World) (h : Gd w V) => toks_gd s hs V h)
  have HS : Hid (∀ V : World, Calls Tryd.prog 13 #[.string a0, .int .i64 60] V fun e w' => e = .returned (.string (a0.extract 0 60)) ∧ V = w') := fun V => short_any a0 60 (by omega) (by omega) V
  have hs60 := Lib.hid (show (a0.extract 0 60).size ≤ 60 by rw [ByteArray.size_extract]; omega)
  have G0 := Lib.hid (Gd.refl hT)
  clear hT w1 w2 hx hz hx2 hz2
  go_enter Tryd.func6, Tryd.ntmps6
  go_wp2_with fail
  refine HTX.out.mono ?_
  rintro e v1 ⟨⟨s1, rfl, hs1⟩, hb1⟩
  have G1 := Lib.hid (G0.out.next hb1)
  clear hb1 HTX
  go_wp2_with fail
  refine (HTY.out v1 G1.out.1).mono ?_
  rintro e v2 ⟨⟨B, rfl, hBz⟩, hb2⟩
  have G2 := Lib.hid (G1.out.next hb2)
  clear hb2 HTY
  cases a3 with
  | false =>
    obtain ⟨A, hAA⟩ : ∃ A : ByteArray, s1 = A := ⟨_, rfl⟩
    have hAz : A.size ≤ 1000 := by rw [← hAA]; omega
    have hA5 : A.size ≤ 1000000000 := by omega
    have hB5 : B.size ≤ 1000000000 := by omega
    have hZ5 : (A ++ ⟨#[10]⟩ ++ B).size ≤ 1000000000 := by rw [ByteArray.size_append, ByteArray.size_append]; show A.size + 1 + B.size ≤ _; omega
    obtain ⟨C1, C2⟩ := lex_cat A B
    obtain ⟨P1, P2⟩ := lex_pos B
    cases hA : lex (bsOf A) with
    | err p c =>
      have hc := lex_err hA
      have hZ := C1 p c hA
      have HTA := Lib.hid (fun V h => tok_err HTK.out hA5 hA (V := V) h)
      have HTZ := Lib.hid (fun V h => tok_err HTK.out hZ5 hZ (V := V) h)
      have HTB := Lib.hid (fun V h => HTK.out B hB5 V h)
      have c1 : ((c : Int) != 0) = true := by simp; omega
      clear hA hZ C1 C2 P1 P2 hc HTK
      obtain ⟨oB, hoB⟩ : ∃ x, lex (bsOf B) = x := ⟨_, rfl⟩
      rw [hoB] at HTB
      clear hoB
      go_wp2_with (first
        | (go_at_call 15; ((with_reducible refine (HTA.out _ G2.out).mono ?_)); rintro e v3 ⟨⟨A3, c3, rfl, _⟩, _, G3⟩; clear HTA)
        | (go_at_call 15; ((with_reducible refine (HTB.out _ G3).mono ?_)); rintro e v4 ⟨⟨A4, c4, rfl, _⟩, _, G4⟩; clear HTB)
        | (go_at_call 15; ((with_reducible refine (HTZ.out _ G4).mono ?_)); rintro e v5 ⟨⟨A5, c5, rfl, _⟩, _, G5⟩; clear HTZ)
        | (go_at_call 14; ((with_reducible refine (HL.out _ ?_).mono ?_); focus (exact G5)); rintro e v6 ⟨rfl, G6⟩))
      go_ret
      exact ⟨rfl, G6.1⟩
    | ok xs =>
      obtain ⟨us, hxs, hZ⟩ := C2 xs hA
      have HTA := Lib.hid (fun V h => tok_ok HTK.out hA5 hA (V := V) h)
      cases hB : lex (bsOf B) with
      | err q c =>
        rw [hB] at hZ P1
        have hc := lex_err hB
        have HTZ := Lib.hid (fun V h => tok_err HTK.out hZ5 (show lex (bsOf (A ++ ⟨#[10]⟩ ++ B)) = .err (q + (A.size + 1)) c from hZ) (V := V) h)
        have HTB := Lib.hid (fun V h => tok_err HTK.out hB5 hB (V := V) h)
        have c1 : ((c : Int) != 0) = true := by simp; omega
        have hq : q ≤ B.size := P1
        obtain ⟨R, hR⟩ : ∃ R, q + (A.size + 1) = R := ⟨_, rfl⟩
        rw [hR] at HTZ
        have eR : (q : Int) + (A.size : Int) + 1 = (R : Int) := by omega
        obtain ⟨nx, hnx⟩ : ∃ n, xs.length = n := ⟨_, rfl⟩
        rw [hnx] at HTA
        clear hA hZ hB C1 C2 P1 P2 hc HTK hxs hR hnx
        go_wp2_with (first
          | (go_at_call 15; ((with_reducible refine (HTA.out _ G2.out).mono ?_)); rintro e v3 ⟨⟨A3, c3, rfl, _⟩, _, G3⟩; clear HTA)
          | (go_at_call 15; ((with_reducible refine (HTB.out _ G3).mono ?_)); rintro e v4 ⟨⟨A4, c4, rfl, _⟩, _, G4⟩; clear HTB)
          | (go_at_call 15; ((with_reducible refine (HTZ.out _ G4).mono ?_)); rintro e v5 ⟨⟨A5, c5, rfl, _⟩, _, G5⟩; clear HTZ)
          | (go_at_call 14; ((with_reducible refine (HL.out _ ?_).mono ?_); focus (exact G5)); rintro e v6 ⟨rfl, G6⟩))
        go_ret
        exact ⟨rfl, G6.1⟩
      | ok ys =>
        obtain ⟨hZ', _⟩ : lex (bsOf (A ++ ⟨#[10]⟩ ++ B)) = .ok (us ++ ys.map (mvT (A.size + 1))) ∧ True := by
          rw [hB] at hZ
          exact ⟨hZ, trivial⟩
        rw [hB] at P2
        have hyne := lex_ne hB
        have hpos : ∀ t ∈ ys, t.pos ≤ B.size := P2
        have HTZ := Lib.hid (fun V h => tok_ok HTK.out hZ5 hZ' (V := V) h)
        have HTB := Lib.hid (fun V h => tok_ok HTK.out hB5 hB (V := V) h)
        have hxz := lex_len A
        have hyz := lex_len B
        rw [hA] at hxz
        rw [hB] at hyz
        obtain ⟨zs, hzs⟩ : ∃ l, us ++ ys.map (mvT (A.size + 1)) = l := ⟨_, rfl⟩
        rw [hzs] at HTZ
        have hnx : xs.length = us.length + 1 := by rw [hxs]; simp
        have hnz : zs.length = us.length + ys.length := by rw [← hzs]; simp
        have hny : 0 < ys.length := List.length_pos_iff.2 hyne
        have HX1 := Lib.hid (show ∀ (j : Nat) (t : LX.Tok), us[j]? = some t → xs[j]? = some t ∧ zs[j]? = some t from fun j t h => by
          have hj := (List.getElem?_eq_some_iff.1 h).1
          rw [hxs, ← hzs, List.getElem?_append_left hj, List.getElem?_append_left hj]
          exact ⟨h, h⟩)
        have HX2 := Lib.hid (show ∀ (d : Nat) (t : LX.Tok), ys[d]? = some t → zs[us.length + d]? = some (mvT (A.size + 1) t) from fun d t h => by
          rw [← hzs, List.getElem?_append_right (by omega), Nat.add_sub_cancel_left, List.getElem?_map, h]
          rfl)
        have HPOS := Lib.hid hpos
        obtain ⟨nx, en⟩ : ∃ n, xs.length = n := ⟨_, rfl⟩
        obtain ⟨ny, en2⟩ : ∃ n, ys.length = n := ⟨_, rfl⟩
        obtain ⟨nz, en3⟩ : ∃ n, zs.length = n := ⟨_, rfl⟩
        obtain ⟨n1, en4⟩ : ∃ n, us.length = n := ⟨_, rfl⟩
        have hxz : xs.length ≤ A.size + 1 := hxz
        have hyz : ys.length ≤ B.size + 1 := hyz
        rw [en] at HTA hnx hxz
        rw [en2] at HTB hnz hny hyz
        rw [en3] at HTZ hnz
        rw [en4] at hnx hnz HX2
        have hnx1 : nx ≤ n1 + 1 := by omega
        have hnx2 : n1 + 1 ≤ nx := by omega
        have hnz1 : nz ≤ n1 + ny := by omega
        have hnz2 : n1 + ny ≤ nz := by omega
        have ne1 : ((nx : Int) == 0) = false := by simp; omega
        have ne2 : ((ny : Int) == 0) = false := by simp; omega
        have ne3 : ((nz : Int) != (nx : Int) - 1 + (ny : Int)) = false := by simp; omega
        have HE1 := Lib.hid en
        have HE2 := Lib.hid en2
        have HE3 := Lib.hid en3
        have HE4 := Lib.hid en4
        clear hA hZ hZ' hB C1 C2 P1 P2 HTK hxs hnx hnz hyne hpos hzs en en2 en3 en4
        go_wp2_with (first
          | (go_at_call 15; ((with_reducible refine (HTA.out _ G2.out).mono ?_)); rintro e v3 ⟨⟨A3, c3, rfl, ht3⟩, _, G3⟩; have HT3 := Lib.hid ht3; clear HTA ht3)
          | (go_at_call 15; ((with_reducible refine (HTB.out _ G3).mono ?_)); rintro e v4 ⟨⟨A4, c4, rfl, ht4⟩, hb4, G4⟩; have HT4 := Lib.hid ht4; have HB4 := Lib.hid hb4; clear HTB ht4 hb4)
          | (go_at_call 15; ((with_reducible refine (HTZ.out _ G4).mono ?_)); rintro e v5 ⟨⟨A5, c5, rfl, ht5⟩, hb5, G5⟩; have HT5 := Lib.hid ht5; have HB5 := Lib.hid hb5; clear HTZ ht5 hb5))
        have HT3' := Lib.hid (tRow_below (tRow_below HT3.out HB4.out) HB5.out)
        have HT4' := Lib.hid (tRow_below HT4.out HB5.out)
        clear HT3 HT4 HB4 HB5 G3 G4 ne1 ne2 ne3
        go_loopw [20] (fun i V => ∃ j : Nat, j ≤ nz ∧ i = .int .i64 (j : Int) ∧ Below v5.heap.size v5 V) (fun i _ => nz - (intOf i).toNat)
        case atStart => exact ⟨0, Nat.zero_le _, rfl, Below.refl _ _⟩
        case round =>
          obtain ⟨j, hj, rfl, hB⟩ := hrel
          obtain ⟨wo, hwo⟩ : ∃ W, W = wr := ⟨_, rfl⟩
          subst hwo
          by_cases hlt : j < nz
          · obtain ⟨gx, rfl, hgx⟩ := tRow_blk HT3'.out (by rw [HE1.out]; omega)
            obtain ⟨gy, rfl, hgy⟩ := tRow_blk HT4'.out (by rw [HE2.out]; omega)
            obtain ⟨gz, rfl, hgz⟩ := tRow_blk HT5.out (by rw [HE3.out]; omega)
            have hgx := hgx.below hB
            have hgy := hgy.below hB
            have hgz := hgz.below hB
            have lx := hgx.lt
            have ly := hgy.lt
            have lz := hgz.lt
            by_cases hj1 : j < n1
            · obtain ⟨t, ht⟩ : ∃ t, us[j]? = some t := ⟨us[j]'(by rw [HE4.out]; exact hj1), List.getElem?_eq_getElem _⟩
              obtain ⟨q1, q2⟩ := HX1.out j t ht
              obtain ⟨a0, a1, a2, a3⟩ := hgx.cells j t q1
              obtain ⟨b0, b1, b2, b3⟩ := hgz.cells j t q2
              have hle : (j : Int) < (nx : Int) - 1 := by omega
              obtain ⟨tk, f1⟩ : ∃ x, t.kind = x := ⟨_, rfl⟩
              obtain ⟨tp, f2⟩ : ∃ x, t.pos = x := ⟨_, rfl⟩
              obtain ⟨tn, f3⟩ : ∃ x, t.num = x := ⟨_, rfl⟩
              obtain ⟨tt, f4⟩ : ∃ x : ByteArray, ⟨t.text.toArray⟩ = x := ⟨_, rfl⟩
              rw [f1] at a0 b0
              rw [f2] at a1 b1
              rw [f4] at a2 b2
              rw [f3] at a3 b3
              have HB := Lib.hid hB
              clear f1 f2 f3 f4 ht q1 q2 hgx hgy hgz hB
              go_wp2_with fail
              go_quiet (fail)
              go_wp2
              go_roundw
              case rel => exact ⟨j + 1, by omega, by go_num, below_drewN' (HB.out.alloc HB.out.size _) _⟩
              case measure => simp [intOf]; omega
            · obtain ⟨d, hd⟩ : ∃ d, n1 + d = j := ⟨j - n1, by omega⟩
              obtain ⟨t, ht⟩ : ∃ t, ys[d]? = some t := ⟨ys[d]'(by rw [HE2.out]; omega), List.getElem?_eq_getElem _⟩
              have q2 := HX2.out d t ht
              have hps := HPOS.out t (List.mem_of_getElem? ht)
              rw [hd] at q2
              obtain ⟨a0, a1, a2, a3⟩ := hgy.cells d t ht
              obtain ⟨b0, b1, b2, b3⟩ := hgz.cells j _ q2
              have hle : (nx : Int) - 1 ≤ (j : Int) := by omega
              have eD : (j : Int) - (nx : Int) + 1 = (d : Int) := by omega
              have hdy : d < ny := by omega
              unfold mvT at b0 b1 b2 b3
              obtain ⟨tk, f1⟩ : ∃ x, t.kind = x := ⟨_, rfl⟩
              obtain ⟨tp, f2⟩ : ∃ x, t.pos = x := ⟨_, rfl⟩
              obtain ⟨tn, f3⟩ : ∃ x, t.num = x := ⟨_, rfl⟩
              obtain ⟨tt, f4⟩ : ∃ x : ByteArray, ⟨t.text.toArray⟩ = x := ⟨_, rfl⟩
              simp only at b0 b1 b2 b3
              rw [f1] at a0 b0
              rw [f2] at a1 b1 hps
              rw [f4] at a2 b2
              rw [f3] at a3 b3
              obtain ⟨P, hP⟩ : ∃ P, tp + (A.size + 1) = P := ⟨_, rfl⟩
              rw [hP] at b1
              have eP : (tp : Int) + (A.size : Int) + 1 = (P : Int) := by omega
              have HB := Lib.hid hB
              clear f1 f2 f3 f4 ht q2 hgx hgy hgz hB hP hd hj1
              go_wp2_with fail
              go_quiet (fail)
              go_wp2
              go_roundw
              case rel => exact ⟨j + 1, by omega, by go_num, below_drewN' (HB.out.alloc HB.out.size _) _⟩
              case measure => simp [intOf]; omega
          · have G6 := Lib.hid (G5.next hB)
            clear hB
            go_wp2_with (go_at_call 14; ((with_reducible refine (HL.out _ ?_).mono ?_); focus (exact G6.out)); rintro e v7 ⟨rfl, G7⟩)
            go_ret
            exact ⟨rfl, G7.1⟩
  | true =>
    go_wp2_with fail
    refine (HS.out _).mono ?_
    rintro e v20 ⟨rfl, rfl⟩
    obtain ⟨A, hAA⟩ : ∃ A : ByteArray, a0.extract 0 60 = A := ⟨_, rfl⟩
    have hAz : A.size ≤ 1000 := by rw [← hAA]; have := hs60.out; omega
    have hA5 : A.size ≤ 1000000000 := by omega
    have hB5 : B.size ≤ 1000000000 := by omega
    have hZ5 : (A ++ ⟨#[10]⟩ ++ B).size ≤ 1000000000 := by rw [ByteArray.size_append, ByteArray.size_append]; show A.size + 1 + B.size ≤ _; omega
    obtain ⟨C1, C2⟩ := lex_cat A B
    obtain ⟨P1, P2⟩ := lex_pos B
    cases hA : lex (bsOf A) with
    | err p c =>
      have hc := lex_err hA
      have hZ := C1 p c hA
      have HTA := Lib.hid (fun V h => tok_err HTK.out hA5 hA (V := V) h)
      have HTZ := Lib.hid (fun V h => tok_err HTK.out hZ5 hZ (V := V) h)
      have HTB := Lib.hid (fun V h => HTK.out B hB5 V h)
      have c1 : ((c : Int) != 0) = true := by simp; omega
      clear hA hZ C1 C2 P1 P2 hc HTK
      obtain ⟨oB, hoB⟩ : ∃ x, lex (bsOf B) = x := ⟨_, rfl⟩
      rw [hoB] at HTB
      clear hoB
      go_wp2_with (first
        | (go_at_call 15; ((with_reducible refine (HTA.out _ G2.out).mono ?_)); rintro e v3 ⟨⟨A3, c3, rfl, _⟩, _, G3⟩; clear HTA)
        | (go_at_call 15; ((with_reducible refine (HTB.out _ G3).mono ?_)); rintro e v4 ⟨⟨A4, c4, rfl, _⟩, _, G4⟩; clear HTB)
        | (go_at_call 15; ((with_reducible refine (HTZ.out _ G4).mono ?_)); rintro e v5 ⟨⟨A5, c5, rfl, _⟩, _, G5⟩; clear HTZ)
        | (go_at_call 14; ((with_reducible refine (HL.out _ ?_).mono ?_); focus (exact G5)); rintro e v6 ⟨rfl, G6⟩))
      go_ret
      exact ⟨rfl, G6.1⟩
    | ok xs =>
      obtain ⟨us, hxs, hZ⟩ := C2 xs hA
      have HTA := Lib.hid (fun V h => tok_ok HTK.out hA5 hA (V := V) h)
      cases hB : lex (bsOf B) with
      | err q c =>
        rw [hB] at hZ P1
        have hc := lex_err hB
        have HTZ := Lib.hid (fun V h => tok_err HTK.out hZ5 (show lex (bsOf (A ++ ⟨#[10]⟩ ++ B)) = .err (q + (A.size + 1)) c from hZ) (V := V) h)
        have HTB := Lib.hid (fun V h => tok_err HTK.out hB5 hB (V := V) h)
        have c1 : ((c : Int) != 0) = true := by simp; omega
        have hq : q ≤ B.size := P1
        obtain ⟨R, hR⟩ : ∃ R, q + (A.size + 1) = R := ⟨_, rfl⟩
        rw [hR] at HTZ
        have eR : (q : Int) + (A.size : Int) + 1 = (R : Int) := by omega
        obtain ⟨nx, hnx⟩ : ∃ n, xs.length = n := ⟨_, rfl⟩
        rw [hnx] at HTA
        clear hA hZ hB C1 C2 P1 P2 hc HTK hxs hR hnx
        go_wp2_with (first
          | (go_at_call 15; ((with_reducible refine (HTA.out _ G2.out).mono ?_)); rintro e v3 ⟨⟨A3, c3, rfl, _⟩, _, G3⟩; clear HTA)
          | (go_at_call 15; ((with_reducible refine (HTB.out _ G3).mono ?_)); rintro e v4 ⟨⟨A4, c4, rfl, _⟩, _, G4⟩; clear HTB)
          | (go_at_call 15; ((with_reducible refine (HTZ.out _ G4).mono ?_)); rintro e v5 ⟨⟨A5, c5, rfl, _⟩, _, G5⟩; clear HTZ)
          | (go_at_call 14; ((with_reducible refine (HL.out _ ?_).mono ?_); focus (exact G5)); rintro e v6 ⟨rfl, G6⟩))
        go_ret
        exact ⟨rfl, G6.1⟩
      | ok ys =>
        obtain ⟨hZ', _⟩ : lex (bsOf (A ++ ⟨#[10]⟩ ++ B)) = .ok (us ++ ys.map (mvT (A.size + 1))) ∧ True := by
          rw [hB] at hZ
          exact ⟨hZ, trivial⟩
        rw [hB] at P2
        have hyne := lex_ne hB
        have hpos : ∀ t ∈ ys, t.pos ≤ B.size := P2
        have HTZ := Lib.hid (fun V h => tok_ok HTK.out hZ5 hZ' (V := V) h)
        have HTB := Lib.hid (fun V h => tok_ok HTK.out hB5 hB (V := V) h)
        have hxz := lex_len A
        have hyz := lex_len B
        rw [hA] at hxz
        rw [hB] at hyz
        obtain ⟨zs, hzs⟩ : ∃ l, us ++ ys.map (mvT (A.size + 1)) = l := ⟨_, rfl⟩
        rw [hzs] at HTZ
        have hnx : xs.length = us.length + 1 := by rw [hxs]; simp
        have hnz : zs.length = us.length + ys.length := by rw [← hzs]; simp
        have hny : 0 < ys.length := List.length_pos_iff.2 hyne
        have HX1 := Lib.hid (show ∀ (j : Nat) (t : LX.Tok), us[j]? = some t → xs[j]? = some t ∧ zs[j]? = some t from fun j t h => by
          have hj := (List.getElem?_eq_some_iff.1 h).1
          rw [hxs, ← hzs, List.getElem?_append_left hj, List.getElem?_append_left hj]
          exact ⟨h, h⟩)
        have HX2 := Lib.hid (show ∀ (d : Nat) (t : LX.Tok), ys[d]? = some t → zs[us.length + d]? = some (mvT (A.size + 1) t) from fun d t h => by
          rw [← hzs, List.getElem?_append_right (by omega), Nat.add_sub_cancel_left, List.getElem?_map, h]
          rfl)
        have HPOS := Lib.hid hpos
        obtain ⟨nx, en⟩ : ∃ n, xs.length = n := ⟨_, rfl⟩
        obtain ⟨ny, en2⟩ : ∃ n, ys.length = n := ⟨_, rfl⟩
        obtain ⟨nz, en3⟩ : ∃ n, zs.length = n := ⟨_, rfl⟩
        obtain ⟨n1, en4⟩ : ∃ n, us.length = n := ⟨_, rfl⟩
        have hxz : xs.length ≤ A.size + 1 := hxz
        have hyz : ys.length ≤ B.size + 1 := hyz
        rw [en] at HTA hnx hxz
        rw [en2] at HTB hnz hny hyz
        rw [en3] at HTZ hnz
        rw [en4] at hnx hnz HX2
        have hnx1 : nx ≤ n1 + 1 := by omega
        have hnx2 : n1 + 1 ≤ nx := by omega
        have hnz1 : nz ≤ n1 + ny := by omega
        have hnz2 : n1 + ny ≤ nz := by omega
        have ne1 : ((nx : Int) == 0) = false := by simp; omega
        have ne2 : ((ny : Int) == 0) = false := by simp; omega
        have ne3 : ((nz : Int) != (nx : Int) - 1 + (ny : Int)) = false := by simp; omega
        have HE1 := Lib.hid en
        have HE2 := Lib.hid en2
        have HE3 := Lib.hid en3
        have HE4 := Lib.hid en4
        clear hA hZ hZ' hB C1 C2 P1 P2 HTK hxs hnx hnz hyne hpos hzs en en2 en3 en4
        go_wp2_with (first
          | (go_at_call 15; ((with_reducible refine (HTA.out _ G2.out).mono ?_)); rintro e v3 ⟨⟨A3, c3, rfl, ht3⟩, _, G3⟩; have HT3 := Lib.hid ht3; clear HTA ht3)
          | (go_at_call 15; ((with_reducible refine (HTB.out _ G3).mono ?_)); rintro e v4 ⟨⟨A4, c4, rfl, ht4⟩, hb4, G4⟩; have HT4 := Lib.hid ht4; have HB4 := Lib.hid hb4; clear HTB ht4 hb4)
          | (go_at_call 15; ((with_reducible refine (HTZ.out _ G4).mono ?_)); rintro e v5 ⟨⟨A5, c5, rfl, ht5⟩, hb5, G5⟩; have HT5 := Lib.hid ht5; have HB5 := Lib.hid hb5; clear HTZ ht5 hb5))
        have HT3' := Lib.hid (tRow_below (tRow_below HT3.out HB4.out) HB5.out)
        have HT4' := Lib.hid (tRow_below HT4.out HB5.out)
        clear HT3 HT4 HB4 HB5 G3 G4 ne1 ne2 ne3
        go_loopw [20] (fun i V => ∃ j : Nat, j ≤ nz ∧ i = .int .i64 (j : Int) ∧ Below v5.heap.size v5 V) (fun i _ => nz - (intOf i).toNat)
        case atStart => exact ⟨0, Nat.zero_le _, rfl, Below.refl _ _⟩
        case round =>
          obtain ⟨j, hj, rfl, hB⟩ := hrel
          obtain ⟨wo, hwo⟩ : ∃ W, W = wr := ⟨_, rfl⟩
          subst hwo
          by_cases hlt : j < nz
          · obtain ⟨gx, rfl, hgx⟩ := tRow_blk HT3'.out (by rw [HE1.out]; omega)
            obtain ⟨gy, rfl, hgy⟩ := tRow_blk HT4'.out (by rw [HE2.out]; omega)
            obtain ⟨gz, rfl, hgz⟩ := tRow_blk HT5.out (by rw [HE3.out]; omega)
            have hgx := hgx.below hB
            have hgy := hgy.below hB
            have hgz := hgz.below hB
            have lx := hgx.lt
            have ly := hgy.lt
            have lz := hgz.lt
            by_cases hj1 : j < n1
            · obtain ⟨t, ht⟩ : ∃ t, us[j]? = some t := ⟨us[j]'(by rw [HE4.out]; exact hj1), List.getElem?_eq_getElem _⟩
              obtain ⟨q1, q2⟩ := HX1.out j t ht
              obtain ⟨a0, a1, a2, a3⟩ := hgx.cells j t q1
              obtain ⟨b0, b1, b2, b3⟩ := hgz.cells j t q2
              have hle : (j : Int) < (nx : Int) - 1 := by omega
              obtain ⟨tk, f1⟩ : ∃ x, t.kind = x := ⟨_, rfl⟩
              obtain ⟨tp, f2⟩ : ∃ x, t.pos = x := ⟨_, rfl⟩
              obtain ⟨tn, f3⟩ : ∃ x, t.num = x := ⟨_, rfl⟩
              obtain ⟨tt, f4⟩ : ∃ x : ByteArray, ⟨t.text.toArray⟩ = x := ⟨_, rfl⟩
              rw [f1] at a0 b0
              rw [f2] at a1 b1
              rw [f4] at a2 b2
              rw [f3] at a3 b3
              have HB := Lib.hid hB
              clear f1 f2 f3 f4 ht q1 q2 hgx hgy hgz hB
              go_wp2_with fail
              go_quiet (fail)
              go_wp2
              go_roundw
              case rel => exact ⟨j + 1, by omega, by go_num, below_drewN' (HB.out.alloc HB.out.size _) _⟩
              case measure => simp [intOf]; omega
            · obtain ⟨d, hd⟩ : ∃ d, n1 + d = j := ⟨j - n1, by omega⟩
              obtain ⟨t, ht⟩ : ∃ t, ys[d]? = some t := ⟨ys[d]'(by rw [HE2.out]; omega), List.getElem?_eq_getElem _⟩
              have q2 := HX2.out d t ht
              have hps := HPOS.out t (List.mem_of_getElem? ht)
              rw [hd] at q2
              obtain ⟨a0, a1, a2, a3⟩ := hgy.cells d t ht
              obtain ⟨b0, b1, b2, b3⟩ := hgz.cells j _ q2
              have hle : (nx : Int) - 1 ≤ (j : Int) := by omega
              have eD : (j : Int) - (nx : Int) + 1 = (d : Int) := by omega
              have hdy : d < ny := by omega
              unfold mvT at b0 b1 b2 b3
              obtain ⟨tk, f1⟩ : ∃ x, t.kind = x := ⟨_, rfl⟩
              obtain ⟨tp, f2⟩ : ∃ x, t.pos = x := ⟨_, rfl⟩
              obtain ⟨tn, f3⟩ : ∃ x, t.num = x := ⟨_, rfl⟩
              obtain ⟨tt, f4⟩ : ∃ x : ByteArray, ⟨t.text.toArray⟩ = x := ⟨_, rfl⟩
              simp only at b0 b1 b2 b3
              rw [f1] at a0 b0
              rw [f2] at a1 b1 hps
              rw [f4] at a2 b2
              rw [f3] at a3 b3
              obtain ⟨P, hP⟩ : ∃ P, tp + (A.size + 1) = P := ⟨_, rfl⟩
              rw [hP] at b1
              have eP : (tp : Int) + (A.size : Int) + 1 = (P : Int) := by omega
              have HB := Lib.hid hB
              clear f1 f2 f3 f4 ht q2 hgx hgy hgz hB hP hd hj1
              go_wp2_with fail
              go_quiet (fail)
              go_wp2
              go_roundw
              case rel => exact ⟨j + 1, by omega, by go_num, below_drewN' (HB.out.alloc HB.out.size _) _⟩
              case measure => simp [intOf]; omega
          · have G6 := Lib.hid (G5.next hB)
            clear hB
            go_wp2_with (go_at_call 14; ((with_reducible refine (HL.out _ ?_).mono ?_); focus (exact G6.out)); rintro e v7 ⟨rfl, G7⟩)
            go_ret
            exact ⟨rfl, G7.1⟩
end Go.Proofs.YtiejhgdjkfhmoaaDoor.LawLexerConcat

namespace Go.Proofs.YtiejhgdjkfhmoaaDoor.lexerConcat
open Go.ChangeShapes Go.WideShapes Go.ChangeAt Go.RowKit
open Go.ChangeMaps (open_string shut_string)
set_option linter.unusedVariables false

theorem own : ownKnob Tryd.prog.godebug = none := by kernel_rfl
theorem laidOut : laidOutB Tryd.prog = true := by kernel_rfl

/-- WHAT THE WALK IS TOLD OF A SLICE OF INTEGERS THAT CAME IN: it is nil; or it leads to a row of 'cap' cells, the numbers 'zs' (the first 'len' are its elements, the rest its spare room), each fitting its kind. -/
def IsRow (k : IntKind) (w : World) (a : Option Addr) (len cap : Nat) (zs : List Int) : Prop :=
  (a = none ∧ len = 0 ∧ cap = 0 ∧ zs = []) ∨
  ∃ x, a = some x ∧ len ≤ cap ∧ cap ≤ maxLen ∧ zs.length = cap ∧ (∀ i, i < zs.length → w.cell? (x.add i) = some (.int k (zs.getD i 0))) ∧ ∀ n ∈ zs, (Lit.int k n).wf = true

/-! ### STEP 1: THE WALK: the Go text returns true, AND WRITES NOTHING THAT WAS THERE: 'Below w.heap.size w w'' (Derived/Below.lean: '.refl', '.alloc', '.drew', '.setCell' at a new block, '.trans'). Open each 'IsRow' by 'rcases' AHEAD of 'go_enter'; part every test ahead of the walk. -/
theorem walk (a0 : ByteArray) (a1 : Option Addr) (len1 cap1 : Nat) (z1 : List Int) (a2 : Option Addr) (len2 cap2 : Nat) (z2 : List Int) (a3 : Bool) (w : World) (w0 : a0.size ≤ maxLen) (w1 : IsRow .i64 w a1 len1 cap1 z1) (w2 : IsRow .i64 w a2 len2 cap2 z2) (hT : ErrV w) :
    Calls Tryd.prog 6 #[.string a0, .slice a1 len1 cap1, .slice a2 len2 cap2, .bool a3] w fun e w' => e = .returned (.bool true) ∧ Below w.heap.size w w' := by
  exact LawLexerConcat.walk a0 a1 len1 cap1 z1 a2 len2 cap2 z2 a3 w w0 w1 w2 hT

/-! ### THE ROW's STEP: WRITTEN OUT: LEAVE IT -/
set_option maxRecDepth 100000 in
theorem lifted (os : Os) (started : os.Started) (H : Type) (enc : TypeId × Value → H) :
    ReturnsInHanded {} Tryd.checked os 6 .any (fun w args => (Rows.lexerConcatSpec.pre enc Tryd.prog Tryd.f6 [] false w args ∧ laidMetH Tryd.prog laidT w) ∧ sizedMet enc Tryd.prog Tryd.f6 (OpenSpec.ofChange Rows.lexerConcatSpec) false w args)
      (Rows.lexerConcatSpec.post enc Tryd.prog Tryd.f6 false true false false) := by
  refine returnsInHanded_of_change_and (C := Tryd.checked) (X := fun w _ => laidMetH Tryd.prog laidT w) (fun _ _ _ hh h => h.of_heap hh) own started (by kernel_rfl) Tryd.func6
    (ChangeSpec.witness_shaped (enc := enc) (C := Tryd.checked) (os := os) (X := fun w _ => laidMetH Tryd.prog laidT w) false (World.doorLaid Tryd.prog 200 os) #[.string ByteArray.empty, .slice none 0 0, .slice none 0 0, .bool false] 8 rfl (World.shaped_of_RefB (by kernel_rfl) (by kernel_rfl)) (by kernel_rfl) (by kernel_rfl) (by kernel_rfl) (door_met os _)) ?_
  intro W base args ds gs before hval0 hW _ _ hL _
  have hval : ∀ (j : Nat) t v, Tryd.f6.params[j]? = some t → args[j]? = some v → Value.okWide Tryd.prog W .any base t v := hval0
  have hW' := hW
  obtain ⟨p, q, hA0, hV, rfl, hfz, hnd⟩ := hW
  have hA : DataW.TrodAll enc Tryd.prog W 0 (fun _ => true) true Tryd.f6.params.toList args.toList ds p := hA0
  rw [Tryd.params6] at hA hval
  obtain ⟨v0, vs0, d0, ds0, p0, q0, hargs, rfl, rfl, h0, r0⟩ := trodAll_cons hA
  obtain ⟨v1, vs1, d1, ds1, p1, q1, rfl, rfl, rfl, h1, r1⟩ := trodAll_cons r0
  obtain ⟨v2, vs2, d2, ds2, p2, q2, rfl, rfl, rfl, h2, r2⟩ := trodAll_cons r1
  obtain ⟨v3, vs3, d3, ds3, p3, q3, rfl, rfl, rfl, h3, r3⟩ := trodAll_cons r2
  obtain ⟨rfl, rfl, rfl⟩ := trodAll_nil r3
  obtain rfl : args = #[v0, v1, v2, v3] := by cases args; simp_all
  obtain ⟨rfl, rfl⟩ := trodVars_none hV
  obtain ⟨a0, rfl, rfl, rfl, w0⟩ := open_string Tryd.underlying9 (hval 0 9 v0 rfl rfl) h0
  obtain ⟨a1, len1, cap1, rfl⟩ := okWide_slice Tryd.underlying22 (hval 1 22 v1 rfl rfl)
  have k1 := h1
  have lt1 : ∀ x ∈ p1, x.block < W.heap.size := by obtain ⟨m, hm⟩ := k1; exact DataW.trod_lt m _ _ _ hm
  obtain ⟨z1, w1⟩ : ∃ zs, IsRow .i64 W a1 len1 cap1 zs := by
    obtain ⟨fuel, hf⟩ := h1
    rcases open_ints Tryd.underlying22 Tryd.underlying3 (by kernel_rfl) hf with ⟨hcs, _⟩ | ⟨x, l, c, zs, hcs, _, hl, hm, hz, _, hcell, hwz⟩
    · simp [Value.cells] at hcs
      obtain ⟨rfl, rfl, rfl⟩ := hcs
      exact ⟨[], .inl ⟨rfl, rfl, rfl, rfl⟩⟩
    · simp [Value.cells] at hcs
      obtain ⟨rfl, rfl, rfl⟩ := hcs
      exact ⟨zs, .inr ⟨_, rfl, hl, hm, by simpa using hz, hcell, hwz⟩⟩
  obtain ⟨a2, len2, cap2, rfl⟩ := okWide_slice Tryd.underlying22 (hval 2 22 v2 rfl rfl)
  have k2 := h2
  have lt2 : ∀ x ∈ p2, x.block < W.heap.size := by obtain ⟨m, hm⟩ := k2; exact DataW.trod_lt m _ _ _ hm
  obtain ⟨z2, w2⟩ : ∃ zs, IsRow .i64 W a2 len2 cap2 zs := by
    obtain ⟨fuel, hf⟩ := h2
    rcases open_ints Tryd.underlying22 Tryd.underlying3 (by kernel_rfl) hf with ⟨hcs, _⟩ | ⟨x, l, c, zs, hcs, _, hl, hm, hz, _, hcell, hwz⟩
    · simp [Value.cells] at hcs
      obtain ⟨rfl, rfl, rfl⟩ := hcs
      exact ⟨[], .inl ⟨rfl, rfl, rfl, rfl⟩⟩
    · simp [Value.cells] at hcs
      obtain ⟨rfl, rfl, rfl⟩ := hcs
      exact ⟨zs, .inr ⟨_, rfl, hl, hm, by simpa using hz, hcell, hwz⟩⟩
  obtain ⟨a3, rfl, rfl, rfl⟩ := open_bool Tryd.underlying4 (hval 3 4 v3 rfl rfl) h3
  clear hA0 hval0
  refine (walk a0 a1 len1 cap1 z1 a2 len2 cap2 z2 a3 W w0 w1 w2 (of_laid hL)).mono fun e W' ⟨he, bel⟩ => ?_
  subst he
  exact ⟨_, rfl, _, _, _, [], _, [], hW', trodAll_mk1 (shut_bool Tryd.underlying4 _), (trodAll_cons_mk (shut_string Tryd.underlying9 w0) (trodAll_cons_mk (Below.trod laidOut (by kernel_rfl) (of_decide_eq_true (by kernel_rfl)) k1 bel lt1) (trodAll_cons_mk (Below.trod laidOut (by kernel_rfl) (of_decide_eq_true (by kernel_rfl)) k2 bel lt2) (trodAll_cons_mk (shut_bool Tryd.underlying4 _) trodAll_mk0)))), rfl, bel.frame _, fun h => by cases h⟩

theorem over : Rows.lexerConcatRow.holds Tryd.pinned (OpenSpec.ofChange Rows.lexerConcatSpec) :=
  OpenClaim.holds_of_wide 6 Tryd.f6 rfl rfl rfl rfl rfl rfl rfl ⟨rfl, rfl, rfl, rfl, rfl⟩ rfl rfl rfl rfl rfl (by kernel_rfl) Tryd.func6 (by kernel_rfl)
    (of_decide_eq_true (by kernel_rfl)) (by unfold Func.isWrapper; first | (rw [if_pos (by decide +kernel)]; kernel_rfl) | (rw [if_neg (by decide +kernel)]; exact ⟨rfl, rfl⟩))
    (fun os started H enc _ => lifted os started H enc)


/-! ### THE CARD -/
theorem cardHolds : Rows.LexerConcatCardSaid :=
  Claim7.holds_tied_plain_at .later [] [.data, .data, .data, .sentinel, .sentinel] true (true, "c237112ac9046ed8453b948d641b8cfa5582db3bd5080ec09f337f3eca4931db") true
    over (fun _ h => by cases h) (by kernel_rfl) (fun _ h => by cases h) lexerConcat_row_tie rfl ⟨rfl, rfl⟩ (by kernel_rfl) rfl
    (fun f fn hf hfn => by
      obtain rfl : f = 6 := Option.some.inj ((show Tryd.prog.funcNamed "simproof/simprooflaw05.LexerConcat" = some 6 by kernel_rfl).symm.trans hf) |>.symm
      obtain rfl : fn = Tryd.f6 := (Option.some.inj (Tryd.func6.symm.trans hfn)).symm
      exact ⟨by kernel_rfl, fun j t ht => by
        rw [Tryd.params6] at ht
        have hm : t ∈ [9, 22, 22, 4] := by simpa using Array.mem_of_getElem? ht
        have hall : ([9, 22, 22, 4].all fun u => !Tryd.prog.wantsStandIn u) = true := by kernel_rfl
        exact (show Tryd.prog.wantsStandIn t = false by simpa using List.all_eq_true.1 hall t hm)⟩)
    (by kernel_rfl)
end Go.Proofs.YtiejhgdjkfhmoaaDoor.lexerConcat
