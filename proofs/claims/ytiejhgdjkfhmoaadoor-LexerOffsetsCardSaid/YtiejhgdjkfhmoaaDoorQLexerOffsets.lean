/-
  The walk of LexerOffsets. Condition: strconv.ErrRange holds an error or nil.
  The tied card of the statement LexerOffsets: for every input the law answers true and leaves its arguments as they were; the condition is the listed table of math/bits, which the card ties to the program's text. The frame of this proof was written by the guide's program, the walk is the text LawLexerOffsets's.
-/
import Derived.RegionTactic
import Derived.Test.YtiejhgdjkfhmoaaDoorK16
import Derived.Test.YtiejhgdjkfhmoaaDoorK13
import Derived.Test.YtiejhgdjkfhmoaaDoorRows
import Derived.Test.YtiejhgdjkfhmoaaDoorCards
import Derived.Test.YtiejhgdjkfhmoaaDoorTie
import Derived.Test.YtiejhgdjkfhmoaaDoorK8
import Derived.SevenTiedPlain
import Derived.SevenTiedAt
import Derived.WalkKit
import Derived.ProofKit
import Derived.OpenShut
import Derived.ShutString
import Derived.ChangeOld
import Derived.Below

namespace Go.Proofs.YtiejhgdjkfhmoaaDoor.LawLexerOffsets
open Go Go.RowKit Go.Proofs Go.Proofs.YtiejhgdjkfhmoaaDoor Go.Proofs.YtiejhgdjkfhmoaaDoor.LX

/-- What the law asks of one token. -/
structure StepAt (S : List UInt8) (E : Nat) (t : LX.Tok) : Prop where
  le : E ≤ t.pos
  len : t.pos + t.text.length ≤ S.length
  txt : (S.drop t.pos).take t.text.length = t.text
  gap : skip ((S.drop E).take (t.pos - E)) = []
  word : t.kind = 1 → ∀ c, S[t.pos + t.text.length]? = some c → isA c = false
  num : t.kind = 2 → ∀ c, S[t.pos + t.text.length]? = some c → isD c = false
theorem chain_step {S : List UInt8} {E : Nat} {ts : List LX.Tok} (h : Chain S E ts) : ∃ t rest, ts = t :: rest ∧ StepAt S E t ∧ (t.text = [] ↔ rest = []) ∧ (rest ≠ [] → Chain S (t.pos + t.text.length) rest) := by
  cases ts with
  | nil => exact h.elim
  | cons t rest =>
    cases rest with
    | nil =>
      obtain ⟨rfl, h1, h2⟩ := h
      refine ⟨_, [], rfl, ⟨h1, Nat.le_refl _, by simp, h2, (fun e => by cases e), (fun e => by cases e)⟩, ⟨fun _ => rfl, fun _ => rfl⟩, fun hc => absurd rfl hc⟩
    | cons u us =>
      obtain ⟨h1, h2⟩ := h
      exact ⟨t, u :: us, rfl, ⟨h1.le, h1.len, h1.txt, h1.gap, h1.word, h1.num⟩, ⟨fun e => absurd e h1.ne, fun e => by cases e⟩, fun _ => h2⟩
theorem chain_last {S : List UInt8} : ∀ (ts : List LX.Tok) (E : Nat), Chain S E ts → ∃ m, ts.length = m + 1 ∧ ts[m]? = some ⟨0, S.length, [], 0⟩
  | [], _, h => h.elim
  | [t], _, h => ⟨0, rfl, by rw [h.1]; rfl⟩
  | t :: u :: us, _, h => by
    obtain ⟨m, h1, h2⟩ := chain_last (u :: us) _ h.2
    exact ⟨m + 1, by rw [List.length_cons, h1], by rw [List.getElem?_cons_succ]; exact h2⟩
theorem chain_at {S : List UInt8} {E j : Nat} {ts : List LX.Tok} (h : Chain S E (ts.drop j)) : ∃ t, ts[j]? = some t ∧ StepAt S E t ∧ (t.text = [] ↔ j + 1 = ts.length) ∧ (j + 1 < ts.length → Chain S (t.pos + t.text.length) (ts.drop (j + 1))) := by
  obtain ⟨t, rest, h1, h2, h3, h4⟩ := chain_step h
  have hlen := congrArg List.length h1
  rw [List.length_drop, List.length_cons] at hlen
  have hj : j < ts.length := by omega
  rw [List.drop_eq_getElem_cons hj] at h1
  injection h1 with e1 e2
  refine ⟨t, by rw [List.getElem?_eq_getElem hj, e1], h2, ?_, fun hl => ?_⟩
  · rw [h3, ← e2, List.drop_eq_nil_iff]
    omega
  · rw [e2]
    refine h4 fun hc => ?_
    rw [hc, List.length_nil] at hlen
    omega
theorem gd_drewN {w V : World} (h : Gd w V) (n : Nat) : Gd w (V.drewN n) := h.next (below_drewN' (Below.refl _ _) n)

set_option maxRecDepth 100000 in
set_option maxHeartbeats 16000000 in
theorem walk (a0 : ByteArray) (a1 : Option Addr) (len1 cap1 : Nat) (z1 : List Int) (w : World) (_w0 : a0.size ≤ maxLen) (w1 : Row .i64 w a1 len1 cap1 z1) (hT : ErrV w) :
    Calls Tryd.prog 4 #[.string a0, .slice a1 len1 cap1] w fun e w' => e = .returned (.bool true) ∧ Below w.heap.size w w' := by
  obtain ⟨hx, _, _, hz⟩ := w1.ints
  have HTX := Lib.hid (text_any len1 cap1 a1 _ w hx (i64_of hz))
  have HL := Lib.hid (fun (V : World) (h : Gd w V) => lives_gd (w := w) V h)
  have HTK := Lib.hid (fun (s : ByteArray) (hs : s.size ≤ 1000000000) (V : World) (h : Gd w V) => toks_gd s hs V h)
  have HS : Hid (∀ V : World, Calls Tryd.prog 13 #[.string a0, .int .i64 100] V fun e w' => e = .returned (.string (a0.extract 0 100)) ∧ V = w') := fun V => short_any a0 100 (by omega) (by omega) V
  obtain ⟨r, hr⟩ : ∃ r, a0.extract 0 100 = r := ⟨_, rfl⟩
  have hrz : r.size ≤ 1000 := by rw [← hr, ByteArray.size_extract]; omega
  rw [hr] at HS
  have G0 := Lib.hid (Gd.refl hT)
  clear hT w1 hx hz hr
  go_enter Tryd.func4, Tryd.ntmps4
  go_wp2_with fail
  refine (HS.out _).mono ?_
  rintro e v0 ⟨rfl, hv0⟩
  subst hv0
  go_wp2_with fail
  refine HTX.out.mono ?_
  rintro e v1 ⟨⟨s1, rfl, hs1⟩, hb1⟩
  have G1 := Lib.hid (G0.out.next hb1)
  clear hb1 HTX
  go_wp2_with fail
  obtain ⟨v2, hv2⟩ : ∃ V, v1.alloc (.cells #[.string r, .string s1] 9) = V := ⟨_, rfl⟩
  rw [hv2]
  have hk : v2.heap[v1.heap.size]? = some (.cells #[.string r, .string s1] 9 (0, 0)) := by rw [← hv2]; exact World.alloc_heap_new v1 _
  have hz2 : v1.heap.size < v2.heap.size := heap_lt hk
  have G2 : Hid (Gd w v2) := by rw [← hv2]; exact G1.out.alloc _
  have HK := Lib.hid (show ∀ i : Nat, i < 2 → ∃ s : ByteArray, s.size ≤ 1000 ∧ v2.cell? ⟨v1.heap.size, i, none⟩ = some (.string s) from fun i hi => by
    obtain rfl | rfl : i = 0 ∨ i = 1 := by omega
    · exact ⟨r, hrz, cell_of_row _ _ 0 _ _ (0, 0) hk⟩
    · exact ⟨s1, hs1, cell_of_row _ _ 1 _ _ (0, 0) hk⟩)
  clear hk hv2
  go_loopw [6] (fun i V => ∃ q : Nat, q ≤ 2 ∧ i = .int .i64 (q : Int) ∧ Below v2.heap.size v2 V) (fun i _ => 2 - (intOf i).toNat)
  case atStart => exact ⟨0, by omega, rfl, Below.refl _ _⟩
  case round =>
    obtain ⟨q, hq, rfl, hB⟩ := hrel
    obtain ⟨wo, hwo⟩ : ∃ W, W = wr := ⟨_, rfl⟩
    subst hwo
    have G3 := Lib.hid (G2.out.next hB)
    by_cases hlt : q < 2
    · obtain ⟨s, hsz, hcs⟩ := HK.out q hlt
      have hcs := (hB.cell (p := ⟨v1.heap.size, q, none⟩) hz2).trans hcs
      have ht := fun (V : World) (h : Gd w V) => HTK.out s (by omega) V h
      have HB := Lib.hid hB
      clear hB
      cases hL : lex (bsOf s) with
      | err p c =>
        rw [hL] at ht
        have hc : c ≠ 0 := by
          have hl := items_lex s
          rw [hL] at hl
          obtain ⟨ts, _, hc⟩ := hl
          exact hc
        have HT : Hid (∀ V : World, Gd w V → Calls Tryd.prog 15 #[.string s] V fun e w' => (∃ A cp, e = .returned (.tuple #[.slice A 0 cp, .int .i64 (p : Int), .int .i64 (c : Int)]) ∧ TRow w' V.heap.size 36 (.slice A 0 cp) []) ∧ Below V.heap.size V w' ∧ Gd w w') := ht
        have c1 : ((c : Int) != 0) = true := by simp; omega
        clear hL hc ht
        as_aux_lemma =>
          go_wp2_with (go_at_call 15; refine (HT.out _ G3.out).mono ?_; rintro e v3 ⟨⟨A3, c3, rfl, _⟩, hb3, _⟩)
          go_roundw
          case rel => exact ⟨q + 1, by omega, by go_num, HB.out.trans (hb3.mono HB.out.size)⟩
          case measure => simp [intOf]; omega
      | ok ts =>
        rw [hL] at ht
        have HT : Hid (∀ V : World, Gd w V → Calls Tryd.prog 15 #[.string s] V fun e w' => (∃ A cp, e = .returned (.tuple #[.slice A ts.length cp, .int .i64 0, .int .i64 0]) ∧ TRow w' V.heap.size 36 (.slice A ts.length cp) ts) ∧ Below V.heap.size V w' ∧ Gd w w') := ht
        have htl := lex_len s
        rw [hL] at htl
        have htl : ts.length ≤ s.size + 1 := htl
        have hch := lex_chain hL
        obtain ⟨m, hm, hml⟩ := chain_last ts 0 hch
        rw [bs_len] at hml
        obtain ⟨n, hn⟩ : ∃ n, ts.length = n := ⟨_, rfl⟩
        rw [hn] at HT hm htl
        have HCH := Lib.hid hch
        have HML := Lib.hid hml
        have HN := Lib.hid hn
        have eN : (n : Int) - 1 = (m : Int) := by omega
        have hmn : m < n := by omega
        have hmn2 : n ≤ m + 1 := by omega
        have nn0 : ((n : Int) == 0) = false := by simp; omega
        have nsz : ((s.size : Int) != (s.size : Int)) = false := by simp
        clear hL ht hch hml hn hm
        go_wp2_with fail
        refine (HT.out _ G3.out).mono ?_
        rintro e v3 ⟨⟨A3, c3, rfl, ht3⟩, hb3, g3⟩
        obtain ⟨g, hA, hg⟩ := tRow_blk ht3 (by rw [HN.out]; omega)
        subst hA
        obtain ⟨m0, m1, _, _⟩ := hg.cells m _ HML.out
        have m0 : v3.cell? ⟨g, m * 4, none⟩ = some (.int .i64 0) := m0
        have HG := Lib.hid hg
        have HB3 := Lib.hid (HB.out.trans (hb3.mono HB.out.size))
        have G4 := Lib.hid g3
        have hgl := hg.lt
        clear hg ht3 hb3 g3 HT HB
        go_wp2_with fail
        go_loopw [11, 12] (fun en i V => ∃ j E : Nat, j ≤ n ∧ E ≤ s.size ∧ i = .int .i64 (j : Int) ∧ en = .int .i64 (E : Int) ∧ Hid (j < n → Chain (bsOf s) E (ts.drop j)) ∧ Below v3.heap.size v3 V) (fun _ i _ => n - (intOf i).toNat)
        case atStart => exact ⟨0, 0, Nat.zero_le _, Nat.zero_le _, rfl, rfl, (fun _ => HCH.out : 0 < n → _), Below.refl _ _⟩
        case round =>
          obtain ⟨j, E, hj, hEs, rfl, rfl, HC, hB⟩ := hrel
          by_cases hjn : j < n
          · obtain ⟨t, ht, hst, hemp, hnext⟩ := chain_at (HC.out hjn)
            rw [HN.out] at hemp hnext
            obtain ⟨b0, b1, b2, b3⟩ := (HG.out.below hB).cells j t ht
            have h1 := hst.le
            have h2 := hst.len
            have h3 := hst.txt
            have h4 := hst.gap
            have h5 := hst.word
            have h6 := hst.num
            rw [bs_len] at h2
            obtain ⟨tt, f4⟩ : ∃ x : ByteArray, ⟨t.text.toArray⟩ = x := ⟨_, rfl⟩
            have htb : bsOf tt = t.text := by rw [← f4]
            have htz : tt.size = t.text.length := by rw [← bs_len, htb]
            rw [f4] at b2
            obtain ⟨tk, f1⟩ : ∃ x, t.kind = x := ⟨_, rfl⟩
            obtain ⟨p, f2⟩ : ∃ x, t.pos = x := ⟨_, rfl⟩
            rw [f1] at b0 h5 h6
            rw [f2] at b1 h1 h2 h3 h4 h5 h6 hnext
            rw [← htz] at h2 h3 h5 h6 hnext
            obtain ⟨Q, hQ⟩ : ∃ Q, p + tt.size = Q := ⟨_, rfl⟩
            rw [hQ] at h2 h5 h6 hnext
            have eQ : (p : Int) + (tt.size : Int) = (Q : Int) := by omega
            have hpQ : p ≤ Q := by omega
            have hex : s.extract p Q = tt := by
              apply ByteArray.ext
              apply Array.toList_inj.1
              show bsOf (s.extract p Q) = bsOf tt
              rw [bs_extract, show Q - p = tt.size by omega, h3, htb]
            have hgap : lex (bsOf (s.extract E p)) = .ok [⟨0, (bsOf (s.extract E p)).length, [], 0⟩] := lex_gap (by rw [bs_extract]; exact h4)
            have hgs : (s.extract E p).size ≤ 1000000000 := by rw [ByteArray.size_extract]; omega
            have hgt := fun (V : World) (h : Gd w V) => HTK.out (s.extract E p) hgs V h
            rw [hgap] at hgt
            have HGT : Hid (∀ V : World, Gd w V → Calls Tryd.prog 15 #[.string (s.extract E p)] V fun e w' => (∃ A cp, e = .returned (.tuple #[.slice A 1 cp, .int .i64 0, .int .i64 0]) ∧ TRow w' V.heap.size 36 (.slice A 1 cp) [⟨0, (bsOf (s.extract E p)).length, [], 0⟩]) ∧ Below V.heap.size V w' ∧ Gd w w') := hgt
            obtain ⟨Bo, hBo⟩ : ∃ b, decide (j = m) = b := ⟨_, rfl⟩
            have e1 : tt.toList.isEmpty = Bo := by
              rw [← hBo, Lib.toList_data, show tt.data.toList = t.text from htb]
              rw [Bool.eq_iff_iff, List.isEmpty_iff, decide_eq_true_eq, hemp]
              omega
            have e2 : ((j : Int) == (m : Int)) = Bo := by
              rw [← hBo, Bool.eq_iff_iff, beq_iff_eq, decide_eq_true_eq]
              omega
            have e3 : (Bo != Bo) = false := by simp
            have g1 : decide ((p : Int) < (E : Int)) = false := decide_eq_false (by omega)
            have g2 : decide ((s.size : Int) < (Q : Int)) = false := decide_eq_false (by omega)
            have g3 : decide (s.size < Q) = false := decide_eq_false (by omega)
            have g4 : decide (s.size < p + tt.size) = false := decide_eq_false (by omega)
            have g5 : decide ((s.size : Int) < (p : Int) + (tt.size : Int)) = false := decide_eq_false (by omega)
            have g6 : decide (p < E) = false := decide_eq_false (by omega)
            have hpt : p + tt.size ≤ s.size := by omega
            have ntt : (tt.toList != tt.toList) = false := by simp
            have HNX := Lib.hid (show j + 1 < n → Chain (bsOf s) Q (ts.drop (j + 1)) from hnext)
            have hcase : (tk = 1 ∧ Q < s.size ∧ isA ((bsOf s).getD Q 0) = false) ∨ (tk = 2 ∧ Q < s.size ∧ isD ((bsOf s).getD Q 0) = false) ∨ ((tk = 1 ∨ tk = 2) ∧ ¬ Q < s.size) ∨ (tk ≠ 1 ∧ tk ≠ 2) := by
              have hget : Q < s.size → (bsOf s)[Q]? = some ((bsOf s).getD Q 0) := fun h => by
                rw [List.getD_eq_getElem?_getD, List.getElem?_eq_getElem (by rw [bs_len]; exact h)]
                rfl
              by_cases hq : Q < s.size
              · by_cases k1 : tk = 1
                · exact .inl ⟨k1, hq, h5 k1 _ (hget hq)⟩
                · by_cases k2 : tk = 2
                  · exact .inr (.inl ⟨k2, hq, h6 k2 _ (hget hq)⟩)
                  · exact .inr (.inr (.inr ⟨k1, k2⟩))
              · by_cases k1 : tk = 1
                · exact .inr (.inr (.inl ⟨.inl k1, hq⟩))
                · by_cases k2 : tk = 2
                  · exact .inr (.inr (.inl ⟨.inr k2, hq⟩))
                  · exact .inr (.inr (.inr ⟨k1, k2⟩))
            have HCA := Lib.hid hcase
            have G5 := Lib.hid (G4.out.next hB)
            have HBB := Lib.hid hB
            have hlw := Lib.hid (hB.size)
            have hgw : g < wr.heap.size := by have := hB.size; omega
            clear hcase hB hnext hgt hgap hst h3 h4 h5 h6 htb htz f4 f1 f2 hemp hBo ht HC hQ
            as_aux_lemma =>
              go_wp2_with fail
              go_quiet (fail)
              go_wp2_with fail
              go_quiet (fail)
              go_wp2_with fail
              as_aux_lemma =>
                refine (HGT.out _ (gd_drewN G5.out _)).mono ?_
                rintro e v7 ⟨⟨A7, c7, rfl, _⟩, hb7, G7⟩
                have HB7 := Lib.hid ((below_drewN' HBB.out _).trans (hb7.mono (below_drewN' HBB.out _).size))
                have b0' := (hb7.cell (p := ⟨g, j * 4, none⟩) hgw).trans b0
                have b1' := (hb7.cell (p := ⟨g, j * 4 + 1, none⟩) hgw).trans b1
                have b2' := (hb7.cell (p := ⟨g, j * 4 + 2, none⟩) hgw).trans b2
                clear hb7 b0 b1 b2 b3 hex e1 e2 e3 g1 g2 g3 g4 g5 g6 ntt HGT nn0 nsz
                go_wp2_with fail
                go_quiet (fail)
                rcases HCA.out with ⟨rfl, hq, hA⟩ | ⟨rfl, hq, hA⟩ | ⟨hk, hq⟩ | ⟨hk1, hk2⟩
                · obtain ⟨c, hc⟩ : ∃ c : UInt8, s[Q]'hq = c := ⟨_, rfl⟩
                  have hgb : (bsOf s).getD Q 0 = c := by
                    rw [List.getD_eq_getElem?_getD, Lib.data_getElem? s Q hq, hc]
                    rfl
                  rw [hgb] at hA
                  obtain ⟨b, hbn⟩ : ∃ b, c.toNat = b := ⟨_, rfl⟩
                  simp only [isA, isW, isD, Bool.or_eq_false_iff, Bool.and_eq_false_iff, decide_eq_false_iff_not, hbn] at hA
                  have hor : (122 < b) ∨ (57 < b ∧ b < 97) ∨ b < 48 := by omega
                  have hc2 : (c.toNat : Int) = (b : Int) := by rw [hbn]
                  clear hA hgb hbn
                  rcases hor with h | h | h
                  · have d1 : decide ((97 : Int) ≤ (b : Int)) = true := decide_eq_true (by omega)
                    have d2 : decide ((b : Int) ≤ 122) = false := decide_eq_false (by omega)
                    have d3 : decide ((48 : Int) ≤ (b : Int)) = true := decide_eq_true (by omega)
                    have d4 : decide ((b : Int) ≤ 57) = false := decide_eq_false (by omega)
                    as_aux_lemma =>
                      go_wp2_with fail
                      go_roundw
                      case rel => exact ⟨j + 1, Q, by omega, by omega, by go_num, rfl, HNX.out, below_drewN' HB7.out _⟩
                      case measure => simp [intOf]; omega
                  · have d1 : decide ((97 : Int) ≤ (b : Int)) = false := decide_eq_false (by omega)
                    have d3 : decide ((48 : Int) ≤ (b : Int)) = true := decide_eq_true (by omega)
                    have d4 : decide ((b : Int) ≤ 57) = false := decide_eq_false (by omega)
                    as_aux_lemma =>
                      go_wp2_with fail
                      go_roundw
                      case rel => exact ⟨j + 1, Q, by omega, by omega, by go_num, rfl, HNX.out, below_drewN' HB7.out _⟩
                      case measure => simp [intOf]; omega
                  · have d1 : decide ((97 : Int) ≤ (b : Int)) = false := decide_eq_false (by omega)
                    have d3 : decide ((48 : Int) ≤ (b : Int)) = false := decide_eq_false (by omega)
                    as_aux_lemma =>
                      go_wp2_with fail
                      go_roundw
                      case rel => exact ⟨j + 1, Q, by omega, by omega, by go_num, rfl, HNX.out, below_drewN' HB7.out _⟩
                      case measure => simp [intOf]; omega
                · obtain ⟨c, hc⟩ : ∃ c : UInt8, s[Q]'hq = c := ⟨_, rfl⟩
                  have hgb : (bsOf s).getD Q 0 = c := by
                    rw [List.getD_eq_getElem?_getD, Lib.data_getElem? s Q hq, hc]
                    rfl
                  rw [hgb] at hA
                  obtain ⟨b, hbn⟩ : ∃ b, c.toNat = b := ⟨_, rfl⟩
                  simp only [isD, Bool.and_eq_false_iff, decide_eq_false_iff_not, hbn] at hA
                  have hor : (57 < b) ∨ b < 48 := by omega
                  have hc2 : (c.toNat : Int) = (b : Int) := by rw [hbn]
                  clear hA hgb hbn
                  rcases hor with h | h
                  · have d3 : decide ((48 : Int) ≤ (b : Int)) = true := decide_eq_true (by omega)
                    have d4 : decide ((b : Int) ≤ 57) = false := decide_eq_false (by omega)
                    as_aux_lemma =>
                      go_wp2_with fail
                      go_roundw
                      case rel => exact ⟨j + 1, Q, by omega, by omega, by go_num, rfl, HNX.out, below_drewN' HB7.out _⟩
                      case measure => simp [intOf]; omega
                  · have d3 : decide ((48 : Int) ≤ (b : Int)) = false := decide_eq_false (by omega)
                    as_aux_lemma =>
                      go_wp2_with fail
                      go_roundw
                      case rel => exact ⟨j + 1, Q, by omega, by omega, by go_num, rfl, HNX.out, below_drewN' HB7.out _⟩
                      case measure => simp [intOf]; omega
                · rcases hk with rfl | rfl
                  · as_aux_lemma =>
                      go_wp2_with fail
                      go_roundw
                      case rel => exact ⟨j + 1, Q, by omega, by omega, by go_num, rfl, HNX.out, below_drewN' HB7.out _⟩
                      case measure => simp [intOf]; omega
                  · as_aux_lemma =>
                      go_wp2_with fail
                      go_roundw
                      case rel => exact ⟨j + 1, Q, by omega, by omega, by go_num, rfl, HNX.out, below_drewN' HB7.out _⟩
                      case measure => simp [intOf]; omega
                · have k1 : ((tk : Int) == 1) = false := by simp; omega
                  have k2 : ((tk : Int) == 2) = false := by simp; omega
                  as_aux_lemma =>
                    go_wp2_with fail
                    go_roundw
                    case rel => exact ⟨j + 1, Q, by omega, by omega, by go_num, rfl, HNX.out, below_drewN' HB7.out _⟩
                    case measure => simp [intOf]; omega
          · have HBo := Lib.hid (HB3.out.trans (hB.mono HB3.out.size))
            clear hB
            as_aux_lemma =>
              go_wp2_with fail
              go_roundw
              case rel => exact ⟨q + 1, by omega, by go_num, HBo.out⟩
              case measure => simp [intOf]; omega
    · clear hB
      as_aux_lemma =>
        go_wp2_with (go_at_call 14; ((with_reducible refine (HL.out _ ?_).mono ?_); focus (exact G3.out)); rintro e v9 ⟨rfl, G9⟩)
        go_ret
        exact ⟨rfl, G9.1⟩
end Go.Proofs.YtiejhgdjkfhmoaaDoor.LawLexerOffsets

namespace Go.Proofs.YtiejhgdjkfhmoaaDoor.lexerOffsets
open Go.ChangeShapes Go.WideShapes Go.ChangeAt Go.RowKit
open Go.ChangeMaps (open_string shut_string)
set_option linter.unusedVariables false

theorem own : ownKnob Tryd.prog.godebug = none := by kernel_rfl
theorem laidOut : laidOutB Tryd.prog = true := by kernel_rfl

/-- WHAT THE WALK IS TOLD OF A SLICE OF INTEGERS THAT CAME IN: it is nil; or it leads to a row of 'cap' cells, the numbers 'zs' (the first 'len' are its elements, the rest its spare room), each fitting its kind. -/
def IsRow (k : IntKind) (w : World) (a : Option Addr) (len cap : Nat) (zs : List Int) : Prop :=
  (a = none ∧ len = 0 ∧ cap = 0 ∧ zs = []) ∨
  ∃ x, a = some x ∧ len ≤ cap ∧ cap ≤ maxLen ∧ zs.length = cap ∧ (∀ i, i < zs.length → w.cell? (x.add i) = some (.int k (zs.getD i 0))) ∧ ∀ n ∈ zs, (Lit.int k n).wf = true

/-! ### STEP 1: THE WALK: the Go text returns true, AND WRITES NOTHING THAT WAS THERE: 'Below w.heap.size w w'' (Derived/Below.lean: '.refl', '.alloc', '.drew', '.setCell' at a new block, '.trans'). Open each 'IsRow' by 'rcases' AHEAD of 'go_enter'; part every test ahead of the walk. -/
theorem walk (a0 : ByteArray) (a1 : Option Addr) (len1 cap1 : Nat) (z1 : List Int) (w : World) (w0 : a0.size ≤ maxLen) (w1 : IsRow .i64 w a1 len1 cap1 z1) (hT : ErrV w) :
    Calls Tryd.prog 4 #[.string a0, .slice a1 len1 cap1] w fun e w' => e = .returned (.bool true) ∧ Below w.heap.size w w' := by
  exact LawLexerOffsets.walk a0 a1 len1 cap1 z1 w w0 w1 hT

/-! ### THE ROW's STEP: WRITTEN OUT: LEAVE IT -/
set_option maxRecDepth 100000 in
theorem lifted (os : Os) (started : os.Started) (H : Type) (enc : TypeId × Value → H) :
    ReturnsInHanded {} Tryd.checked os 4 .any (fun w args => (Rows.lexerOffsetsSpec.pre enc Tryd.prog Tryd.f4 [] false w args ∧ laidMetH Tryd.prog laidT w) ∧ sizedMet enc Tryd.prog Tryd.f4 (OpenSpec.ofChange Rows.lexerOffsetsSpec) false w args)
      (Rows.lexerOffsetsSpec.post enc Tryd.prog Tryd.f4 false true false false) := by
  refine returnsInHanded_of_change_and (C := Tryd.checked) (X := fun w _ => laidMetH Tryd.prog laidT w) (fun _ _ _ hh h => h.of_heap hh) own started (by kernel_rfl) Tryd.func4
    (ChangeSpec.witness_shaped (enc := enc) (C := Tryd.checked) (os := os) (X := fun w _ => laidMetH Tryd.prog laidT w) false (World.doorLaid Tryd.prog 200 os) #[.string ByteArray.empty, .slice none 0 0] 8 rfl (World.shaped_of_RefB (by kernel_rfl) (by kernel_rfl)) (by kernel_rfl) (by kernel_rfl) (by kernel_rfl) (door_met os _)) ?_
  intro W base args ds gs before hval0 hW _ _ hL _
  have hval : ∀ (j : Nat) t v, Tryd.f4.params[j]? = some t → args[j]? = some v → Value.okWide Tryd.prog W .any base t v := hval0
  have hW' := hW
  obtain ⟨p, q, hA0, hV, rfl, hfz, hnd⟩ := hW
  have hA : DataW.TrodAll enc Tryd.prog W 0 (fun _ => true) true Tryd.f4.params.toList args.toList ds p := hA0
  rw [Tryd.params4] at hA hval
  obtain ⟨v0, vs0, d0, ds0, p0, q0, hargs, rfl, rfl, h0, r0⟩ := trodAll_cons hA
  obtain ⟨v1, vs1, d1, ds1, p1, q1, rfl, rfl, rfl, h1, r1⟩ := trodAll_cons r0
  obtain ⟨rfl, rfl, rfl⟩ := trodAll_nil r1
  obtain rfl : args = #[v0, v1] := by cases args; simp_all
  obtain ⟨rfl, rfl⟩ := trodVars_none hV
  obtain ⟨a0, rfl, rfl, rfl, w0⟩ := open_string Tryd.underlying9 (hval 0 9 v0 rfl rfl) h0
  obtain ⟨a1, len1, cap1, rfl⟩ := okWide_slice Tryd.underlying22 (hval 1 22 v1 rfl rfl)
  have k1 := h1
  have lt1 : ∀ x ∈ p1, x.block < W.heap.size := by obtain ⟨m, hm⟩ := k1; exact DataW.trod_lt m _ _ _ hm
  obtain ⟨z1, w1⟩ : ∃ zs, IsRow .i64 W a1 len1 cap1 zs := by
    obtain ⟨fuel, hf⟩ := h1
    rcases open_ints Tryd.underlying22 Tryd.underlying3 (by kernel_rfl) hf with ⟨hcs, _⟩ | ⟨x, l, c, zs, hcs, _, hl, hm, hz, _, hcell, hwz⟩
    · simp [Value.cells] at hcs
      obtain ⟨rfl, rfl, rfl⟩ := hcs
      exact ⟨[], .inl ⟨rfl, rfl, rfl, rfl⟩⟩
    · simp [Value.cells] at hcs
      obtain ⟨rfl, rfl, rfl⟩ := hcs
      exact ⟨zs, .inr ⟨_, rfl, hl, hm, by simpa using hz, hcell, hwz⟩⟩
  clear hA0 hval0
  refine (walk a0 a1 len1 cap1 z1 W w0 w1 (of_laid hL)).mono fun e W' ⟨he, bel⟩ => ?_
  subst he
  exact ⟨_, rfl, _, _, _, [], _, [], hW', trodAll_mk1 (shut_bool Tryd.underlying4 _), (trodAll_cons_mk (shut_string Tryd.underlying9 w0) (trodAll_cons_mk (Below.trod laidOut (by kernel_rfl) (of_decide_eq_true (by kernel_rfl)) k1 bel lt1) trodAll_mk0)), rfl, bel.frame _, fun h => by cases h⟩

theorem over : Rows.lexerOffsetsRow.holds Tryd.pinned (OpenSpec.ofChange Rows.lexerOffsetsSpec) :=
  OpenClaim.holds_of_wide 4 Tryd.f4 rfl rfl rfl rfl rfl rfl rfl ⟨rfl, rfl, rfl, rfl, rfl⟩ rfl rfl rfl rfl rfl (by kernel_rfl) Tryd.func4 (by kernel_rfl)
    (of_decide_eq_true (by kernel_rfl)) (by unfold Func.isWrapper; first | (rw [if_pos (by decide +kernel)]; kernel_rfl) | (rw [if_neg (by decide +kernel)]; exact ⟨rfl, rfl⟩))
    (fun os started H enc _ => lifted os started H enc)


/-! ### THE CARD -/
theorem cardHolds : Rows.LexerOffsetsCardSaid :=
  Claim7.holds_tied_plain_at .later [] [.data, .data, .data, .sentinel, .sentinel] true (true, "c237112ac9046ed8453b948d641b8cfa5582db3bd5080ec09f337f3eca4931db") true
    over (fun _ h => by cases h) (by kernel_rfl) (fun _ h => by cases h) lexerOffsets_row_tie rfl ⟨rfl, rfl⟩ (by kernel_rfl) rfl
    (fun f fn hf hfn => by
      obtain rfl : f = 4 := Option.some.inj ((show Tryd.prog.funcNamed "simproof/simprooflaw05.LexerOffsets" = some 4 by kernel_rfl).symm.trans hf) |>.symm
      obtain rfl : fn = Tryd.f4 := (Option.some.inj (Tryd.func4.symm.trans hfn)).symm
      exact ⟨by kernel_rfl, fun j t ht => by
        rw [Tryd.params4] at ht
        have hm : t ∈ [9, 22] := by simpa using Array.mem_of_getElem? ht
        have hall : ([9, 22].all fun u => !Tryd.prog.wantsStandIn u) = true := by kernel_rfl
        exact (show Tryd.prog.wantsStandIn t = false by simpa using List.all_eq_true.1 hall t hm)⟩)
    (by kernel_rfl)
end Go.Proofs.YtiejhgdjkfhmoaaDoor.lexerOffsets
