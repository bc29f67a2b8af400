/-
  The walk of LexerLimits. Condition: strconv.ErrRange holds an error or nil.
  The tied card of the statement LexerLimits: for every input the law answers true and leaves its arguments as they were; the condition is the listed table of math/bits, which the card ties to the program's text. The frame of this proof was written by the guide's program, the walk is the text LawLexerLimits's.
-/
import Derived.Test.YtiejhgdjkfhmoaaDoorK17
import Derived.Test.YtiejhgdjkfhmoaaDoorK13
import Derived.Test.YtiejhgdjkfhmoaaDoorRows
import Derived.Test.YtiejhgdjkfhmoaaDoorCards
import Derived.Test.YtiejhgdjkfhmoaaDoorTie
import Derived.Test.YtiejhgdjkfhmoaaDoorK8
import Derived.SevenTiedPlain
import Derived.SevenTiedAt
import Derived.WalkKit
import Derived.ProofKit
import Derived.OpenShut
import Derived.ShutString
import Derived.ChangeOld
import Derived.Below

namespace Go.Proofs.YtiejhgdjkfhmoaaDoor.LawLexerLimits
open Go Go.RowKit Go.Proofs Go.Proofs.YtiejhgdjkfhmoaaDoor Go.Proofs.YtiejhgdjkfhmoaaDoor.LX

theorem ba_of {S : ByteArray} {L : List UInt8} (h : bsOf S = L) : (⟨L.toArray⟩ : ByteArray) = S := by
  apply ByteArray.ext
  show L.toArray = S.data
  rw [← h]
theorem abc_at : ∀ m, m < 4 → (ByteArray.mk #[97, 98, 99, 57]).extract m (m + 1) = ⟨#[[97, 98, 99, 57].getD m 0]⟩ := by decide +kernel
theorem wordOf_succ (j : Nat) : wordOf (j + 1) = wordOf j ++ [[97, 98, 99, 57].getD (j % 4) 0] := by
  unfold wordOf
  rw [List.range_succ, List.map_append]
  rfl
theorem wordOf_len (j : Nat) : (wordOf j).length = j := by simp [wordOf]
theorem zeros_digit {z : Nat} {ds : List UInt8} (h : ∀ c ∈ ds, isD c = true) : ∀ c ∈ List.replicate z 48 ++ ds, isD c = true := by
  intro c hc
  rcases List.mem_append.1 hc with hc | hc
  · rw [(List.mem_replicate.1 hc).2]
    decide
  · exact h c hc

set_option maxRecDepth 100000 in
set_option maxHeartbeats 8000000 in
theorem walk (a0 a1 a2 : Int) (a3 : Bool) (w : World) (w0 : (Lit.int .i64 a0).wf = true) (w1 : (Lit.int .i64 a1).wf = true) (w2 : (Lit.int .i64 a2).wf = true) (hT : ErrV w) :
    Calls Tryd.prog 7 #[.int .i64 a0, .int .i64 a1, .int .i64 a2, .bool a3] w fun e w' => e = .returned (.bool true) ∧ Below w.heap.size w w' := by
  have i64 : ∀ {a : Int}, (Lit.int .i64 a).wf = true → I64 a := fun h => by have := bounds_i64 h; unfold I64; omega
  have HA0 := Lib.hid (around_any a0 20 (i64 w0) (by omega) (by omega))
  have HA1 := Lib.hid (around_any a1 2000 (i64 w1) (by omega) (by omega))
  have HA2 := Lib.hid (around_any a2 21 (i64 w2) (by omega) (by omega))
  obtain ⟨r0, r1⟩ := around_in a0 20 (by omega)
  obtain ⟨y0, y1⟩ := around_in a1 2000 (by omega)
  obtain ⟨z0, z1⟩ := around_in a2 21 (by omega)
  obtain ⟨r, hr⟩ := Int.eq_ofNat_of_zero_le r0
  obtain ⟨y, hy⟩ := Int.eq_ofNat_of_zero_le y0
  obtain ⟨z, hz⟩ := Int.eq_ofNat_of_zero_le z0
  rw [hr] at HA0 r1
  rw [hy] at HA1 y1
  rw [hz] at HA2 z1
  have hr20 : r < 20 := by omega
  have hy20 : y < 2000 := by omega
  have hz21 : z < 21 := by omega
  have HL := Lib.hid (fun (V : World) (h : Gd w V) => lives_gd (w := w) V h)
  have HTK := Lib.hid (fun (s : ByteArray) (hs : s.size ≤ 1000000000) (V : World) (h : Gd w V) => toks_gd s hs V h)
  have G0 := Lib.hid (Gd.refl hT)
  clear hT w0 w1 w2 r0 r1 y0 y1 z0 z1 hr hy hz i64
  go_enter Tryd.func7, Tryd.ntmps7
  go_wp2_with (go_at_call 11; refine (HA0.out _).mono ?_; rintro e v1 ⟨rfl, rfl⟩)
  go_loopw [10, 11] (fun d i V => ∃ (j : Nat) (S : ByteArray), j ≤ r + 1 ∧ i = .int .i64 (j : Int) ∧ d = .string S ∧ Hid (bsOf S = wordOf j) ∧ S.size ≤ 100 ∧ S.size = j ∧ V = w) (fun _ i _ => r + 1 - (intOf i).toNat)
  case atStart => exact ⟨0, ⟨#[]⟩, Nat.zero_le _, rfl, rfl, (rfl : bsOf ⟨#[]⟩ = wordOf 0), by decide, rfl, rfl⟩
  case round =>
    obtain ⟨j, S, hj, rfl, rfl, HS, hS1, hS2, hw⟩ := hrel
    rw [hw]
    clear hw
    by_cases hlt : j < r + 1
    · have hm4 : j % 4 < 4 := Nat.mod_lt _ (by decide)
      have hc1 := abc_at (j % 4) hm4
      have hws := wordOf_succ j
      obtain ⟨c, hc2⟩ : ∃ c : UInt8, [97, 98, 99, 57].getD (j % 4) 0 = c := ⟨_, rfl⟩
      rw [hc2] at hws hc1
      have HN : Hid (bsOf (S ++ ⟨#[c]⟩) = wordOf (j + 1)) := by
        show bsOf (S ++ ⟨#[c]⟩) = wordOf (j + 1)
        rw [bs_append, HS.out, hws]
      have HNZ := Lib.hid (show (S ++ ⟨#[c]⟩ : ByteArray).size = S.size + 1 by rw [ByteArray.size_append]; rfl)
      obtain ⟨m, hm⟩ : ∃ m, j % 4 = m := ⟨_, rfl⟩
      rw [hm] at hc1 hm4
      have e1 : (j : Int) % 4 = (m : Int) := by omega
      have e2 : (j : Int).tmod 4 = (m : Int) := by rw [Int.tmod_eq_emod_of_nonneg (by omega)]; exact e1
      clear hm hc2 hws HS
      go_wp2_with fail
      go_roundw
      case rel => exact ⟨j + 1, _, by omega, by go_num, rfl, HN.out, by rw [HNZ.out]; omega, by rw [HNZ.out]; omega, by first | rfl | trivial⟩
      case measure => simp [intOf]; omega
    · obtain rfl : j = r + 1 := by omega
      have hlx : lex (bsOf (⟨#[43]⟩ ++ S)) = if r + 1 ≤ 10 then .ok [⟨3, 0, [43], 0⟩, ⟨1, 1, wordOf (r + 1), 0⟩, ⟨0, r + 2, [], 0⟩] else .err 1 2 := by
        rw [bs_append, HS.out]
        exact lex_words r hr20
      have hSS := ba_of HS.out
      have ht := fun (V : World) (h : Gd w V) => HTK.out (⟨#[43]⟩ ++ S) (by rw [ByteArray.size_append]; show 1 + S.size ≤ _; omega) V h
      rw [hlx] at ht
      have HSS := Lib.hid hSS
      clear hlx hSS HS
      by_cases h10 : r + 1 ≤ 10
      · rw [if_pos h10] at ht
        have HTA : Hid (∀ V : World, Gd w V → Calls Tryd.prog 15 #[.string (⟨#[43]⟩ ++ S)] V fun e w' => (∃ A c, e = .returned (.tuple #[.slice A 3 c, .int .i64 0, .int .i64 0]) ∧ TRow w' V.heap.size 36 (.slice A 3 c) [⟨3, 0, [43], 0⟩, ⟨1, 1, wordOf (r + 1), 0⟩, ⟨0, r + 2, [], 0⟩]) ∧ Below V.heap.size V w' ∧ Gd w w') := ht
        have h11 : (r : Int) + 1 ≤ 10 := by omega
        have h12 : 1 + (r : Int) ≤ 10 := by omega
        clear ht h10
        go_wp2_with fail
        refine (HTA.out _ G0.out).mono ?_
        rintro e v2 ⟨⟨A2, c2, rfl, ht2⟩, _, hg2⟩
        obtain ⟨g2, rfl, hk2⟩ := tRow_blk ht2 (by simp)
        obtain ⟨k0, _, k2, _⟩ := hk2.cells 1 _ rfl
        have c0 : v2.cell? ⟨g2, 4, none⟩ = some (.int .i64 1) := k0
        have c2 : v2.cell? ⟨g2, 4 + 2, none⟩ = some (.string S) := by rw [← HSS.out]; exact k2
        have c2' : v2.cell? ⟨g2, 6, none⟩ = some (.string S) := c2
        have hdd : (S.toList != S.toList) = false := by simp
        clear hk2 k0 k2 ht2 HTA
        cases a3 with
        | false =>
          obtain ⟨X, hX⟩ : ∃ X, y = X := ⟨_, rfl⟩
          subst hX
          have HD := Lib.hid (fun V => decimal_any y (by omega) V)
          have hbig : ¬ 2147483647 < y := by omega
          go_wp2_with (first
            | (go_at_call 11; ((with_reducible refine (HA1.out _).mono ?_)); rintro e v3 ⟨rfl, rfl⟩)
            | (go_at_call 16; refine (HD.out _).mono ?_; rintro e v4 ⟨⟨ds, rfl, hds⟩, hw4⟩; subst hw4; have HDS := Lib.hid hds; have hdz := hds.2.2.2; clear hds)
            | (go_at_call 11; ((with_reducible refine (HA2.out _).mono ?_)); rintro e v5 ⟨rfl, rfl⟩))
          go_loopw [16, 17] (fun d i U => ∃ (q m : Nat) (D : ByteArray), q + m = z ∧ i = .int .i64 (q : Int) ∧ d = .string D ∧ Hid (bsOf D = List.replicate m 48 ++ bsOf ds) ∧ D.size ≤ 10 + m ∧ Gd w U) (fun _ i _ => (intOf i).toNat)
          case atStart => exact ⟨z, 0, ds, rfl, rfl, rfl, (rfl : bsOf ds = List.replicate 0 48 ++ bsOf ds), by omega, hg2⟩
          case round =>
            obtain ⟨q, m, D, hqm, rfl, rfl, HDD, hDz, hgR⟩ := hrel
            by_cases hq0 : q = 0
            · subst hq0
              obtain rfl : m = z := by omega
              have hsh := HDS.out
              have hDD := HDD.out
              have hval : val (bsOf D) = y := by rw [hDD, val_zeros]; exact hsh.2.2.1
              have hdg : ∀ c ∈ bsOf D, isD c = true := by rw [hDD]; exact zeros_digit hsh.1
              have hne : bsOf D ≠ [] := by rw [hDD]; simp [hsh.2.1]
              have hlx := lex_num hdg hne
              rw [hval] at hlx
              have hbs : bsOf (⟨#[32, 40]⟩ ++ D) = 32 :: 40 :: bsOf D := bs_append _ _
              rw [← hbs] at hlx
              have ht := fun (V : World) (h : Gd w V) => HTK.out (⟨#[32, 40]⟩ ++ D) (by rw [ByteArray.size_append]; show 2 + D.size ≤ _; omega) V h
              rw [hlx] at ht
              rw [if_neg hbig] at ht
              have HB : Hid (∀ V : World, Gd w V → Calls Tryd.prog 15 #[.string (⟨#[32, 40]⟩ ++ D)] V fun e w' => (∃ A c, e = .returned (.tuple #[.slice A 3 c, .int .i64 0, .int .i64 0]) ∧ TRow w' V.heap.size 36 (.slice A 3 c) [⟨3, 1, [40], 0⟩, ⟨2, 2, bsOf D, y⟩, ⟨0, 2 + (bsOf D).length, [], 0⟩]) ∧ Below V.heap.size V w' ∧ Gd w w') := ht
              have hbV : (y : Int) ≤ 2147483647 := by omega
              clear ht hlx hbs hne hdg hval hDD hsh HDD HDS
              go_wp2_with fail
              refine (HB.out _ hgR).mono ?_
              rintro e v6 ⟨⟨A6, c6, rfl, ht6⟩, _, G6⟩
              obtain ⟨g6, rfl, hk6⟩ := tRow_blk ht6 (by simp)
              obtain ⟨k0, _, k2, k3⟩ := hk6.cells 1 _ rfl
              have c0 : v6.cell? ⟨g6, 4, none⟩ = some (.int .i64 2) := k0
              have c2 : v6.cell? ⟨g6, 4 + 2, none⟩ = some (.string D) := k2.trans (congrArg (fun x => some (Value.string x)) (ba_of (S := D) rfl))
              have c3 : v6.cell? ⟨g6, 4 + 3, none⟩ = some (.int .i64 (y : Int)) := k3
              have c2' : v6.cell? ⟨g6, 6, none⟩ = some (.string D) := c2
              have c3' : v6.cell? ⟨g6, 7, none⟩ = some (.int .i64 (y : Int)) := c3
              have hdd : (D.toList == D.toList) = true := by simp
              clear hk6 k0 k2 k3 ht6
              go_wp2_with (
                go_at_call 14; ((with_reducible refine (HL.out _ ?_).mono ?_); focus (exact G6)); rintro e v7 ⟨rfl, G7⟩)
              go_ret
              exact ⟨rfl, G7.1⟩
            · obtain ⟨p, rfl⟩ : ∃ p, q = p + 1 := ⟨q - 1, by omega⟩
              have e1 : (((p + 1 : Nat) : Int)) - 1 = (p : Int) := by omega
              have e2 : ((p : Int) + 1) - 1 = (p : Int) := by omega
              have HN : Hid (bsOf (⟨#[48]⟩ ++ D) = List.replicate (m + 1) 48 ++ bsOf ds) := by
                show bsOf (⟨#[48]⟩ ++ D) = _
                rw [bs_append, HDD.out, List.replicate_succ]
                rfl
              have HNZ := Lib.hid (show (⟨#[48]⟩ ++ D : ByteArray).size = 1 + D.size by rw [ByteArray.size_append]; rfl)
              clear HDD
              go_wp2_with fail
              go_roundw
              case rel => exact ⟨p, m + 1, _, by omega, by first | rfl | go_num, rfl, HN.out, by rw [HNZ.out]; omega, hgR⟩
              case measure => simp [intOf]
        | true =>
          obtain ⟨X, hX⟩ : ∃ X, y + 2147482647 = X := ⟨_, rfl⟩
          have eX : (y : Int) + 2147482647 = (X : Int) := by omega
          have HD := Lib.hid (fun V => decimal_any X (by omega) V)
          by_cases hbig : 2147483647 < X
          · go_wp2_with (first
              | (go_at_call 11; ((with_reducible refine (HA1.out _).mono ?_)); rintro e v3 ⟨rfl, rfl⟩)
              | (go_at_call 16; refine (HD.out _).mono ?_; rintro e v4 ⟨⟨ds, rfl, hds⟩, hw4⟩; subst hw4; have HDS := Lib.hid hds; have hdz := hds.2.2.2; clear hds)
              | (go_at_call 11; ((with_reducible refine (HA2.out _).mono ?_)); rintro e v5 ⟨rfl, rfl⟩))
            go_loopw [16, 17] (fun d i U => ∃ (q m : Nat) (D : ByteArray), q + m = z ∧ i = .int .i64 (q : Int) ∧ d = .string D ∧ Hid (bsOf D = List.replicate m 48 ++ bsOf ds) ∧ D.size ≤ 10 + m ∧ Gd w U) (fun _ i _ => (intOf i).toNat)
            case atStart => exact ⟨z, 0, ds, rfl, rfl, rfl, (rfl : bsOf ds = List.replicate 0 48 ++ bsOf ds), by omega, hg2⟩
            case round =>
              obtain ⟨q, m, D, hqm, rfl, rfl, HDD, hDz, hgR⟩ := hrel
              by_cases hq0 : q = 0
              · subst hq0
                obtain rfl : m = z := by omega
                have hsh := HDS.out
                have hDD := HDD.out
                have hval : val (bsOf D) = X := by rw [hDD, val_zeros]; exact hsh.2.2.1
                have hdg : ∀ c ∈ bsOf D, isD c = true := by rw [hDD]; exact zeros_digit hsh.1
                have hne : bsOf D ≠ [] := by rw [hDD]; simp [hsh.2.1]
                have hlx := lex_num hdg hne
                rw [hval] at hlx
                have hbs : bsOf (⟨#[32, 40]⟩ ++ D) = 32 :: 40 :: bsOf D := bs_append _ _
                rw [← hbs] at hlx
                have ht := fun (V : World) (h : Gd w V) => HTK.out (⟨#[32, 40]⟩ ++ D) (by rw [ByteArray.size_append]; show 2 + D.size ≤ _; omega) V h
                rw [hlx] at ht
                rw [if_pos hbig] at ht
                have HB : Hid (∀ V : World, Gd w V → Calls Tryd.prog 15 #[.string (⟨#[32, 40]⟩ ++ D)] V fun e w' => (∃ A c, e = .returned (.tuple #[.slice A 0 c, .int .i64 2, .int .i64 6]) ∧ TRow w' V.heap.size 36 (.slice A 0 c) []) ∧ Below V.heap.size V w' ∧ Gd w w') := ht
                have gV : decide ((2147483647 : Int) < (X : Int)) = true := decide_eq_true (by omega)
                clear ht hlx hbs hne hdg hval hDD hsh HDD HDS
                go_wp2_with (first
                  | (go_at_call 15; refine (HB.out _ hgR).mono ?_; rintro e v6 ⟨⟨A6, c6, rfl, _⟩, _, G6⟩)
                  | (go_at_call 14; ((with_reducible refine (HL.out _ ?_).mono ?_); focus (exact G6)); rintro e v7 ⟨rfl, G7⟩))
                go_ret
                exact ⟨rfl, G7.1⟩
              · obtain ⟨p, rfl⟩ : ∃ p, q = p + 1 := ⟨q - 1, by omega⟩
                have e1 : (((p + 1 : Nat) : Int)) - 1 = (p : Int) := by omega
                have e2 : ((p : Int) + 1) - 1 = (p : Int) := by omega
                have HN : Hid (bsOf (⟨#[48]⟩ ++ D) = List.replicate (m + 1) 48 ++ bsOf ds) := by
                  show bsOf (⟨#[48]⟩ ++ D) = _
                  rw [bs_append, HDD.out, List.replicate_succ]
                  rfl
                have HNZ := Lib.hid (show (⟨#[48]⟩ ++ D : ByteArray).size = 1 + D.size by rw [ByteArray.size_append]; rfl)
                clear HDD
                go_wp2_with fail
                go_roundw
                case rel => exact ⟨p, m + 1, _, by omega, by first | rfl | go_num, rfl, HN.out, by rw [HNZ.out]; omega, hgR⟩
                case measure => simp [intOf]
          · go_wp2_with (first
              | (go_at_call 11; ((with_reducible refine (HA1.out _).mono ?_)); rintro e v3 ⟨rfl, rfl⟩)
              | (go_at_call 16; refine (HD.out _).mono ?_; rintro e v4 ⟨⟨ds, rfl, hds⟩, hw4⟩; subst hw4; have HDS := Lib.hid hds; have hdz := hds.2.2.2; clear hds)
              | (go_at_call 11; ((with_reducible refine (HA2.out _).mono ?_)); rintro e v5 ⟨rfl, rfl⟩))
            go_loopw [16, 17] (fun d i U => ∃ (q m : Nat) (D : ByteArray), q + m = z ∧ i = .int .i64 (q : Int) ∧ d = .string D ∧ Hid (bsOf D = List.replicate m 48 ++ bsOf ds) ∧ D.size ≤ 10 + m ∧ Gd w U) (fun _ i _ => (intOf i).toNat)
            case atStart => exact ⟨z, 0, ds, rfl, rfl, rfl, (rfl : bsOf ds = List.replicate 0 48 ++ bsOf ds), by omega, hg2⟩
            case round =>
              obtain ⟨q, m, D, hqm, rfl, rfl, HDD, hDz, hgR⟩ := hrel
              by_cases hq0 : q = 0
              · subst hq0
                obtain rfl : m = z := by omega
                have hsh := HDS.out
                have hDD := HDD.out
                have hval : val (bsOf D) = X := by rw [hDD, val_zeros]; exact hsh.2.2.1
                have hdg : ∀ c ∈ bsOf D, isD c = true := by rw [hDD]; exact zeros_digit hsh.1
                have hne : bsOf D ≠ [] := by rw [hDD]; simp [hsh.2.1]
                have hlx := lex_num hdg hne
                rw [hval] at hlx
                have hbs : bsOf (⟨#[32, 40]⟩ ++ D) = 32 :: 40 :: bsOf D := bs_append _ _
                rw [← hbs] at hlx
                have ht := fun (V : World) (h : Gd w V) => HTK.out (⟨#[32, 40]⟩ ++ D) (by rw [ByteArray.size_append]; show 2 + D.size ≤ _; omega) V h
                rw [hlx] at ht
                rw [if_neg hbig] at ht
                have HB : Hid (∀ V : World, Gd w V → Calls Tryd.prog 15 #[.string (⟨#[32, 40]⟩ ++ D)] V fun e w' => (∃ A c, e = .returned (.tuple #[.slice A 3 c, .int .i64 0, .int .i64 0]) ∧ TRow w' V.heap.size 36 (.slice A 3 c) [⟨3, 1, [40], 0⟩, ⟨2, 2, bsOf D, X⟩, ⟨0, 2 + (bsOf D).length, [], 0⟩]) ∧ Below V.heap.size V w' ∧ Gd w w') := ht
                have hbV : (X : Int) ≤ 2147483647 := by omega
                clear ht hlx hbs hne hdg hval hDD hsh HDD HDS
                go_wp2_with fail
                refine (HB.out _ hgR).mono ?_
                rintro e v6 ⟨⟨A6, c6, rfl, ht6⟩, _, G6⟩
                obtain ⟨g6, rfl, hk6⟩ := tRow_blk ht6 (by simp)
                obtain ⟨k0, _, k2, k3⟩ := hk6.cells 1 _ rfl
                have c0 : v6.cell? ⟨g6, 4, none⟩ = some (.int .i64 2) := k0
                have c2 : v6.cell? ⟨g6, 4 + 2, none⟩ = some (.string D) := k2.trans (congrArg (fun x => some (Value.string x)) (ba_of (S := D) rfl))
                have c3 : v6.cell? ⟨g6, 4 + 3, none⟩ = some (.int .i64 (X : Int)) := k3
                have c2' : v6.cell? ⟨g6, 6, none⟩ = some (.string D) := c2
                have c3' : v6.cell? ⟨g6, 7, none⟩ = some (.int .i64 (X : Int)) := c3
                have hdd : (D.toList == D.toList) = true := by simp
                clear hk6 k0 k2 k3 ht6
                go_wp2_with (
                  go_at_call 14; ((with_reducible refine (HL.out _ ?_).mono ?_); focus (exact G6)); rintro e v7 ⟨rfl, G7⟩)
                go_ret
                exact ⟨rfl, G7.1⟩
              · obtain ⟨p, rfl⟩ : ∃ p, q = p + 1 := ⟨q - 1, by omega⟩
                have e1 : (((p + 1 : Nat) : Int)) - 1 = (p : Int) := by omega
                have e2 : ((p : Int) + 1) - 1 = (p : Int) := by omega
                have HN : Hid (bsOf (⟨#[48]⟩ ++ D) = List.replicate (m + 1) 48 ++ bsOf ds) := by
                  show bsOf (⟨#[48]⟩ ++ D) = _
                  rw [bs_append, HDD.out, List.replicate_succ]
                  rfl
                have HNZ := Lib.hid (show (⟨#[48]⟩ ++ D : ByteArray).size = 1 + D.size by rw [ByteArray.size_append]; rfl)
                clear HDD
                go_wp2_with fail
                go_roundw
                case rel => exact ⟨p, m + 1, _, by omega, by first | rfl | go_num, rfl, HN.out, by rw [HNZ.out]; omega, hgR⟩
                case measure => simp [intOf]
      · rw [if_neg h10] at ht
        have HTA : Hid (∀ V : World, Gd w V → Calls Tryd.prog 15 #[.string (⟨#[43]⟩ ++ S)] V fun e w' => (∃ A c, e = .returned (.tuple #[.slice A 0 c, .int .i64 1, .int .i64 2]) ∧ TRow w' V.heap.size 36 (.slice A 0 c) []) ∧ Below V.heap.size V w' ∧ Gd w w') := ht
        have h11 : 10 < (r : Int) + 1 := by omega
        have h12 : 10 < 1 + (r : Int) := by omega
        clear ht h10
        go_wp2_with fail
        refine (HTA.out _ G0.out).mono ?_
        rintro e v2 ⟨⟨A2, c2, rfl, _⟩, _, hg2⟩
        clear HTA
        cases a3 with
        | false =>
          obtain ⟨X, hX⟩ : ∃ X, y = X := ⟨_, rfl⟩
          subst hX
          have HD := Lib.hid (fun V => decimal_any y (by omega) V)
          have hbig : ¬ 2147483647 < y := by omega
          go_wp2_with (first
            | (go_at_call 11; ((with_reducible refine (HA1.out _).mono ?_)); rintro e v3 ⟨rfl, rfl⟩)
            | (go_at_call 16; refine (HD.out _).mono ?_; rintro e v4 ⟨⟨ds, rfl, hds⟩, hw4⟩; subst hw4; have HDS := Lib.hid hds; have hdz := hds.2.2.2; clear hds)
            | (go_at_call 11; ((with_reducible refine (HA2.out _).mono ?_)); rintro e v5 ⟨rfl, rfl⟩))
          go_loopw [16, 17] (fun d i U => ∃ (q m : Nat) (D : ByteArray), q + m = z ∧ i = .int .i64 (q : Int) ∧ d = .string D ∧ Hid (bsOf D = List.replicate m 48 ++ bsOf ds) ∧ D.size ≤ 10 + m ∧ Gd w U) (fun _ i _ => (intOf i).toNat)
          case atStart => exact ⟨z, 0, ds, rfl, rfl, rfl, (rfl : bsOf ds = List.replicate 0 48 ++ bsOf ds), by omega, hg2⟩
          case round =>
            obtain ⟨q, m, D, hqm, rfl, rfl, HDD, hDz, hgR⟩ := hrel
            by_cases hq0 : q = 0
            · subst hq0
              obtain rfl : m = z := by omega
              have hsh := HDS.out
              have hDD := HDD.out
              have hval : val (bsOf D) = y := by rw [hDD, val_zeros]; exact hsh.2.2.1
              have hdg : ∀ c ∈ bsOf D, isD c = true := by rw [hDD]; exact zeros_digit hsh.1
              have hne : bsOf D ≠ [] := by rw [hDD]; simp [hsh.2.1]
              have hlx := lex_num hdg hne
              rw [hval] at hlx
              have hbs : bsOf (⟨#[32, 40]⟩ ++ D) = 32 :: 40 :: bsOf D := bs_append _ _
              rw [← hbs] at hlx
              have ht := fun (V : World) (h : Gd w V) => HTK.out (⟨#[32, 40]⟩ ++ D) (by rw [ByteArray.size_append]; show 2 + D.size ≤ _; omega) V h
              rw [hlx] at ht
              rw [if_neg hbig] at ht
              have HB : Hid (∀ V : World, Gd w V → Calls Tryd.prog 15 #[.string (⟨#[32, 40]⟩ ++ D)] V fun e w' => (∃ A c, e = .returned (.tuple #[.slice A 3 c, .int .i64 0, .int .i64 0]) ∧ TRow w' V.heap.size 36 (.slice A 3 c) [⟨3, 1, [40], 0⟩, ⟨2, 2, bsOf D, y⟩, ⟨0, 2 + (bsOf D).length, [], 0⟩]) ∧ Below V.heap.size V w' ∧ Gd w w') := ht
              have hbV : (y : Int) ≤ 2147483647 := by omega
              clear ht hlx hbs hne hdg hval hDD hsh HDD HDS
              go_wp2_with fail
              refine (HB.out _ hgR).mono ?_
              rintro e v6 ⟨⟨A6, c6, rfl, ht6⟩, _, G6⟩
              obtain ⟨g6, rfl, hk6⟩ := tRow_blk ht6 (by simp)
              obtain ⟨k0, _, k2, k3⟩ := hk6.cells 1 _ rfl
              have c0 : v6.cell? ⟨g6, 4, none⟩ = some (.int .i64 2) := k0
              have c2 : v6.cell? ⟨g6, 4 + 2, none⟩ = some (.string D) := k2.trans (congrArg (fun x => some (Value.string x)) (ba_of (S := D) rfl))
              have c3 : v6.cell? ⟨g6, 4 + 3, none⟩ = some (.int .i64 (y : Int)) := k3
              have c2' : v6.cell? ⟨g6, 6, none⟩ = some (.string D) := c2
              have c3' : v6.cell? ⟨g6, 7, none⟩ = some (.int .i64 (y : Int)) := c3
              have hdd : (D.toList == D.toList) = true := by simp
              clear hk6 k0 k2 k3 ht6
              go_wp2_with (
                go_at_call 14; ((with_reducible refine (HL.out _ ?_).mono ?_); focus (exact G6)); rintro e v7 ⟨rfl, G7⟩)
              go_ret
              exact ⟨rfl, G7.1⟩
            · obtain ⟨p, rfl⟩ : ∃ p, q = p + 1 := ⟨q - 1, by omega⟩
              have e1 : (((p + 1 : Nat) : Int)) - 1 = (p : Int) := by omega
              have e2 : ((p : Int) + 1) - 1 = (p : Int) := by omega
              have HN : Hid (bsOf (⟨#[48]⟩ ++ D) = List.replicate (m + 1) 48 ++ bsOf ds) := by
                show bsOf (⟨#[48]⟩ ++ D) = _
                rw [bs_append, HDD.out, List.replicate_succ]
                rfl
              have HNZ := Lib.hid (show (⟨#[48]⟩ ++ D : ByteArray).size = 1 + D.size by rw [ByteArray.size_append]; rfl)
              clear HDD
              go_wp2_with fail
              go_roundw
              case rel => exact ⟨p, m + 1, _, by omega, by first | rfl | go_num, rfl, HN.out, by rw [HNZ.out]; omega, hgR⟩
              case measure => simp [intOf]
        | true =>
          obtain ⟨X, hX⟩ : ∃ X, y + 2147482647 = X := ⟨_, rfl⟩
          have eX : (y : Int) + 2147482647 = (X : Int) := by omega
          have HD := Lib.hid (fun V => decimal_any X (by omega) V)
          by_cases hbig : 2147483647 < X
          · go_wp2_with (first
              | (go_at_call 11; ((with_reducible refine (HA1.out _).mono ?_)); rintro e v3 ⟨rfl, rfl⟩)
              | (go_at_call 16; refine (HD.out _).mono ?_; rintro e v4 ⟨⟨ds, rfl, hds⟩, hw4⟩; subst hw4; have HDS := Lib.hid hds; have hdz := hds.2.2.2; clear hds)
              | (go_at_call 11; ((with_reducible refine (HA2.out _).mono ?_)); rintro e v5 ⟨rfl, rfl⟩))
            go_loopw [16, 17] (fun d i U => ∃ (q m : Nat) (D : ByteArray), q + m = z ∧ i = .int .i64 (q : Int) ∧ d = .string D ∧ Hid (bsOf D = List.replicate m 48 ++ bsOf ds) ∧ D.size ≤ 10 + m ∧ Gd w U) (fun _ i _ => (intOf i).toNat)
            case atStart => exact ⟨z, 0, ds, rfl, rfl, rfl, (rfl : bsOf ds = List.replicate 0 48 ++ bsOf ds), by omega, hg2⟩
            case round =>
              obtain ⟨q, m, D, hqm, rfl, rfl, HDD, hDz, hgR⟩ := hrel
              by_cases hq0 : q = 0
              · subst hq0
                obtain rfl : m = z := by omega
                have hsh := HDS.out
                have hDD := HDD.out
                have hval : val (bsOf D) = X := by rw [hDD, val_zeros]; exact hsh.2.2.1
                have hdg : ∀ c ∈ bsOf D, isD c = true := by rw [hDD]; exact zeros_digit hsh.1
                have hne : bsOf D ≠ [] := by rw [hDD]; simp [hsh.2.1]
                have hlx := lex_num hdg hne
                rw [hval] at hlx
                have hbs : bsOf (⟨#[32, 40]⟩ ++ D) = 32 :: 40 :: bsOf D := bs_append _ _
                rw [← hbs] at hlx
                have ht := fun (V : World) (h : Gd w V) => HTK.out (⟨#[32, 40]⟩ ++ D) (by rw [ByteArray.size_append]; show 2 + D.size ≤ _; omega) V h
                rw [hlx] at ht
                rw [if_pos hbig] at ht
                have HB : Hid (∀ V : World, Gd w V → Calls Tryd.prog 15 #[.string (⟨#[32, 40]⟩ ++ D)] V fun e w' => (∃ A c, e = .returned (.tuple #[.slice A 0 c, .int .i64 2, .int .i64 6]) ∧ TRow w' V.heap.size 36 (.slice A 0 c) []) ∧ Below V.heap.size V w' ∧ Gd w w') := ht
                have gV : decide ((2147483647 : Int) < (X : Int)) = true := decide_eq_true (by omega)
                clear ht hlx hbs hne hdg hval hDD hsh HDD HDS
                go_wp2_with (first
                  | (go_at_call 15; refine (HB.out _ hgR).mono ?_; rintro e v6 ⟨⟨A6, c6, rfl, _⟩, _, G6⟩)
                  | (go_at_call 14; ((with_reducible refine (HL.out _ ?_).mono ?_); focus (exact G6)); rintro e v7 ⟨rfl, G7⟩))
                go_ret
                exact ⟨rfl, G7.1⟩
              · obtain ⟨p, rfl⟩ : ∃ p, q = p + 1 := ⟨q - 1, by omega⟩
                have e1 : (((p + 1 : Nat) : Int)) - 1 = (p : Int) := by omega
                have e2 : ((p : Int) + 1) - 1 = (p : Int) := by omega
                have HN : Hid (bsOf (⟨#[48]⟩ ++ D) = List.replicate (m + 1) 48 ++ bsOf ds) := by
                  show bsOf (⟨#[48]⟩ ++ D) = _
                  rw [bs_append, HDD.out, List.replicate_succ]
                  rfl
                have HNZ := Lib.hid (show (⟨#[48]⟩ ++ D : ByteArray).size = 1 + D.size by rw [ByteArray.size_append]; rfl)
                clear HDD
                go_wp2_with fail
                go_roundw
                case rel => exact ⟨p, m + 1, _, by omega, by first | rfl | go_num, rfl, HN.out, by rw [HNZ.out]; omega, hgR⟩
                case measure => simp [intOf]
          · go_wp2_with (first
              | (go_at_call 11; ((with_reducible refine (HA1.out _).mono ?_)); rintro e v3 ⟨rfl, rfl⟩)
              | (go_at_call 16; refine (HD.out _).mono ?_; rintro e v4 ⟨⟨ds, rfl, hds⟩, hw4⟩; subst hw4; have HDS := Lib.hid hds; have hdz := hds.2.2.2; clear hds)
              | (go_at_call 11; ((with_reducible refine (HA2.out _).mono ?_)); rintro e v5 ⟨rfl, rfl⟩))
            go_loopw [16, 17] (fun d i U => ∃ (q m : Nat) (D : ByteArray), q + m = z ∧ i = .int .i64 (q : Int) ∧ d = .string D ∧ Hid (bsOf D = List.replicate m 48 ++ bsOf ds) ∧ D.size ≤ 10 + m ∧ Gd w U) (fun _ i _ => (intOf i).toNat)
            case atStart => exact ⟨z, 0, ds, rfl, rfl, rfl, (rfl : bsOf ds = List.replicate 0 48 ++ bsOf ds), by omega, hg2⟩
            case round =>
              obtain ⟨q, m, D, hqm, rfl, rfl, HDD, hDz, hgR⟩ := hrel
              by_cases hq0 : q = 0
              · subst hq0
                obtain rfl : m = z := by omega
                have hsh := HDS.out
                have hDD := HDD.out
                have hval : val (bsOf D) = X := by rw [hDD, val_zeros]; exact hsh.2.2.1
                have hdg : ∀ c ∈ bsOf D, isD c = true := by rw [hDD]; exact zeros_digit hsh.1
                have hne : bsOf D ≠ [] := by rw [hDD]; simp [hsh.2.1]
                have hlx := lex_num hdg hne
                rw [hval] at hlx
                have hbs : bsOf (⟨#[32, 40]⟩ ++ D) = 32 :: 40 :: bsOf D := bs_append _ _
                rw [← hbs] at hlx
                have ht := fun (V : World) (h : Gd w V) => HTK.out (⟨#[32, 40]⟩ ++ D) (by rw [ByteArray.size_append]; show 2 + D.size ≤ _; omega) V h
                rw [hlx] at ht
                rw [if_neg hbig] at ht
                have HB : Hid (∀ V : World, Gd w V → Calls Tryd.prog 15 #[.string (⟨#[32, 40]⟩ ++ D)] V fun e w' => (∃ A c, e = .returned (.tuple #[.slice A 3 c, .int .i64 0, .int .i64 0]) ∧ TRow w' V.heap.size 36 (.slice A 3 c) [⟨3, 1, [40], 0⟩, ⟨2, 2, bsOf D, X⟩, ⟨0, 2 + (bsOf D).length, [], 0⟩]) ∧ Below V.heap.size V w' ∧ Gd w w') := ht
                have hbV : (X : Int) ≤ 2147483647 := by omega
                clear ht hlx hbs hne hdg hval hDD hsh HDD HDS
                go_wp2_with fail
                refine (HB.out _ hgR).mono ?_
                rintro e v6 ⟨⟨A6, c6, rfl, ht6⟩, _, G6⟩
                obtain ⟨g6, rfl, hk6⟩ := tRow_blk ht6 (by simp)
                obtain ⟨k0, _, k2, k3⟩ := hk6.cells 1 _ rfl
                have c0 : v6.cell? ⟨g6, 4, none⟩ = some (.int .i64 2) := k0
                have c2 : v6.cell? ⟨g6, 4 + 2, none⟩ = some (.string D) := k2.trans (congrArg (fun x => some (Value.string x)) (ba_of (S := D) rfl))
                have c3 : v6.cell? ⟨g6, 4 + 3, none⟩ = some (.int .i64 (X : Int)) := k3
                have c2' : v6.cell? ⟨g6, 6, none⟩ = some (.string D) := c2
                have c3' : v6.cell? ⟨g6, 7, none⟩ = some (.int .i64 (X : Int)) := c3
                have hdd : (D.toList == D.toList) = true := by simp
                clear hk6 k0 k2 k3 ht6
                go_wp2_with (
                  go_at_call 14; ((with_reducible refine (HL.out _ ?_).mono ?_); focus (exact G6)); rintro e v7 ⟨rfl, G7⟩)
                go_ret
                exact ⟨rfl, G7.1⟩
              · obtain ⟨p, rfl⟩ : ∃ p, q = p + 1 := ⟨q - 1, by omega⟩
                have e1 : (((p + 1 : Nat) : Int)) - 1 = (p : Int) := by omega
                have e2 : ((p : Int) + 1) - 1 = (p : Int) := by omega
                have HN : Hid (bsOf (⟨#[48]⟩ ++ D) = List.replicate (m + 1) 48 ++ bsOf ds) := by
                  show bsOf (⟨#[48]⟩ ++ D) = _
                  rw [bs_append, HDD.out, List.replicate_succ]
                  rfl
                have HNZ := Lib.hid (show (⟨#[48]⟩ ++ D : ByteArray).size = 1 + D.size by rw [ByteArray.size_append]; rfl)
                clear HDD
                go_wp2_with fail
                go_roundw
                case rel => exact ⟨p, m + 1, _, by omega, by first | rfl | go_num, rfl, HN.out, by rw [HNZ.out]; omega, hgR⟩
                case measure => simp [intOf]
end Go.Proofs.YtiejhgdjkfhmoaaDoor.LawLexerLimits

namespace Go.Proofs.YtiejhgdjkfhmoaaDoor.lexerLimits
open Go.ChangeShapes Go.WideShapes Go.ChangeAt Go.RowKit
open Go.ChangeMaps (open_string shut_string)
set_option linter.unusedVariables false

theorem own : ownKnob Tryd.prog.godebug = none := by kernel_rfl
theorem laidOut : laidOutB Tryd.prog = true := by kernel_rfl

/-- WHAT THE WALK IS TOLD OF A SLICE OF INTEGERS THAT CAME IN: it is nil; or it leads to a row of 'cap' cells, the numbers 'zs' (the first 'len' are its elements, the rest its spare room), each fitting its kind. -/
def IsRow (k : IntKind) (w : World) (a : Option Addr) (len cap : Nat) (zs : List Int) : Prop :=
  (a = none ∧ len = 0 ∧ cap = 0 ∧ zs = []) ∨
  ∃ x, a = some x ∧ len ≤ cap ∧ cap ≤ maxLen ∧ zs.length = cap ∧ (∀ i, i < zs.length → w.cell? (x.add i) = some (.int k (zs.getD i 0))) ∧ ∀ n ∈ zs, (Lit.int k n).wf = true

/-! ### STEP 1: THE WALK: the Go text returns true, AND WRITES NOTHING THAT WAS THERE: 'Below w.heap.size w w'' (Derived/Below.lean: '.refl', '.alloc', '.drew', '.setCell' at a new block, '.trans'). Open each 'IsRow' by 'rcases' AHEAD of 'go_enter'; part every test ahead of the walk. -/
theorem walk (a0 : Int) (a1 : Int) (a2 : Int) (a3 : Bool) (w : World) (w0 : (Lit.int .i64 a0).wf = true) (w1 : (Lit.int .i64 a1).wf = true) (w2 : (Lit.int .i64 a2).wf = true) (hT : ErrV w) :
    Calls Tryd.prog 7 #[.int .i64 a0, .int .i64 a1, .int .i64 a2, .bool a3] w fun e w' => e = .returned (.bool true) ∧ Below w.heap.size w w' := by
  exact LawLexerLimits.walk a0 a1 a2 a3 w w0 w1 w2 hT

/-! ### THE ROW's STEP: WRITTEN OUT: LEAVE IT -/
set_option maxRecDepth 100000 in
theorem lifted (os : Os) (started : os.Started) (H : Type) (enc : TypeId × Value → H) :
    ReturnsInHanded {} Tryd.checked os 7 .any (fun w args => (Rows.lexerLimitsSpec.pre enc Tryd.prog Tryd.f7 [] false w args ∧ laidMetH Tryd.prog laidT w) ∧ sizedMet enc Tryd.prog Tryd.f7 (OpenSpec.ofChange Rows.lexerLimitsSpec) false w args)
      (Rows.lexerLimitsSpec.post enc Tryd.prog Tryd.f7 false true false false) := by
  refine returnsInHanded_of_change_and (C := Tryd.checked) (X := fun w _ => laidMetH Tryd.prog laidT w) (fun _ _ _ hh h => h.of_heap hh) own started (by kernel_rfl) Tryd.func7
    (ChangeSpec.witness_shaped (enc := enc) (C := Tryd.checked) (os := os) (X := fun w _ => laidMetH Tryd.prog laidT w) false (World.doorLaid Tryd.prog 200 os) #[.int .i64 0, .int .i64 0, .int .i64 0, .bool false] 8 rfl (World.shaped_of_RefB (by kernel_rfl) (by kernel_rfl)) (by kernel_rfl) (by kernel_rfl) (by kernel_rfl) (door_met os _)) ?_
  intro W base args ds gs before hval0 hW _ _ hL _
  have hval : ∀ (j : Nat) t v, Tryd.f7.params[j]? = some t → args[j]? = some v → Value.okWide Tryd.prog W .any base t v := hval0
  have hW' := hW
  obtain ⟨p, q, hA0, hV, rfl, hfz, hnd⟩ := hW
  have hA : DataW.TrodAll enc Tryd.prog W 0 (fun _ => true) true Tryd.f7.params.toList args.toList ds p := hA0
  rw [Tryd.params7] at hA hval
  obtain ⟨v0, vs0, d0, ds0, p0, q0, hargs, rfl, rfl, h0, r0⟩ := trodAll_cons hA
  obtain ⟨v1, vs1, d1, ds1, p1, q1, rfl, rfl, rfl, h1, r1⟩ := trodAll_cons r0
  obtain ⟨v2, vs2, d2, ds2, p2, q2, rfl, rfl, rfl, h2, r2⟩ := trodAll_cons r1
  obtain ⟨v3, vs3, d3, ds3, p3, q3, rfl, rfl, rfl, h3, r3⟩ := trodAll_cons r2
  obtain ⟨rfl, rfl, rfl⟩ := trodAll_nil r3
  obtain rfl : args = #[v0, v1, v2, v3] := by cases args; simp_all
  obtain ⟨rfl, rfl⟩ := trodVars_none hV
  obtain ⟨a0, rfl, rfl, rfl, w0⟩ := open_int Tryd.underlying3 (hval 0 3 v0 rfl rfl) h0
  obtain ⟨a1, rfl, rfl, rfl, w1⟩ := open_int Tryd.underlying3 (hval 1 3 v1 rfl rfl) h1
  obtain ⟨a2, rfl, rfl, rfl, w2⟩ := open_int Tryd.underlying3 (hval 2 3 v2 rfl rfl) h2
  obtain ⟨a3, rfl, rfl, rfl⟩ := open_bool Tryd.underlying4 (hval 3 4 v3 rfl rfl) h3
  clear hA0 hval0
  refine (walk a0 a1 a2 a3 W w0 w1 w2 (of_laid hL)).mono fun e W' ⟨he, bel⟩ => ?_
  subst he
  exact ⟨_, rfl, _, _, _, [], _, [], hW', trodAll_mk1 (shut_bool Tryd.underlying4 _), (trodAll_cons_mk (shut_int Tryd.underlying3 w0) (trodAll_cons_mk (shut_int Tryd.underlying3 w1) (trodAll_cons_mk (shut_int Tryd.underlying3 w2) (trodAll_cons_mk (shut_bool Tryd.underlying4 _) trodAll_mk0)))), rfl, bel.frame _, fun h => by cases h⟩

theorem over : Rows.lexerLimitsRow.holds Tryd.pinned (OpenSpec.ofChange Rows.lexerLimitsSpec) :=
  OpenClaim.holds_of_wide 7 Tryd.f7 rfl rfl rfl rfl rfl rfl rfl ⟨rfl, rfl, rfl, rfl, rfl⟩ rfl rfl rfl rfl rfl (by kernel_rfl) Tryd.func7 (by kernel_rfl)
    (of_decide_eq_true (by kernel_rfl)) (by unfold Func.isWrapper; first | (rw [if_pos (by decide +kernel)]; kernel_rfl) | (rw [if_neg (by decide +kernel)]; exact ⟨rfl, rfl⟩))
    (fun os started H enc _ => lifted os started H enc)


/-! ### THE CARD -/
theorem cardHolds : Rows.LexerLimitsCardSaid :=
  Claim7.holds_tied_plain_at .later [] [.data, .data, .data, .sentinel, .sentinel] true (true, "c237112ac9046ed8453b948d641b8cfa5582db3bd5080ec09f337f3eca4931db") true
    over (fun _ h => by cases h) (by kernel_rfl) (fun _ h => by cases h) lexerLimits_row_tie rfl ⟨rfl, rfl⟩ (by kernel_rfl) rfl
    (fun f fn hf hfn => by
      obtain rfl : f = 7 := Option.some.inj ((show Tryd.prog.funcNamed "simproof/simprooflaw05.LexerLimits" = some 7 by kernel_rfl).symm.trans hf) |>.symm
      obtain rfl : fn = Tryd.f7 := (Option.some.inj (Tryd.func7.symm.trans hfn)).symm
      exact ⟨by kernel_rfl, fun j t ht => by
        rw [Tryd.params7] at ht
        have hm : t ∈ [3, 3, 3, 4] := by simpa using Array.mem_of_getElem? ht
        have hall : ([3, 3, 3, 4].all fun u => !Tryd.prog.wantsStandIn u) = true := by kernel_rfl
        exact (show Tryd.prog.wantsStandIn t = false by simpa using List.all_eq_true.1 hall t hm)⟩)
    (by kernel_rfl)
end Go.Proofs.YtiejhgdjkfhmoaaDoor.lexerLimits
