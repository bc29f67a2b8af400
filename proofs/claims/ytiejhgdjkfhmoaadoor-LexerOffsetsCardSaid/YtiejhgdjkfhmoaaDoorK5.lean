/-
  The scanner: what classAt, lineEnd and skipSpace return. Conditions: the source is of a length of which we speak.
  The scanner's wordAt, numberAt, symbolAt, tokenAt: the token at a place of the source. Condition: the source is of a length of which we speak; strconv.ErrRange holds an error.
  The reference's letter, digit, Skip and value. Condition: the source is of a length of which we speak.
  The reference's Skip: the end of the white space. Condition: the source is of a length of which we speak.
  The reference's value: the value of digits, or -1 where it exceeds 2^31 - 1. Condition: the string is of digits, and of a length of which we speak.
  The reference's has: whether a list of strings holds a string. Condition: the list's cells hold the strings.
  The reference's lists of symbols, and what the pure functions say.
  The law's same at equal tokens.
-/
import Derived.Test.YtiejhgdjkfhmoaaDoorK3
import Derived.Test.YtiejhgdjkfhmoaaDoorK4
import Derived.Test.YtiejhgdjkfhmoaaDoorK1
import Derived.BigQuiet
import Derived.Lib.AtoiAll

namespace Go.Proofs.YtiejhgdjkfhmoaaDoor
open Go Go.RowKit Go.Proofs Go.Proofs.YtiejhgdjkfhmoaaDoor.LX

/-- A source's bytes. -/
abbrev bsOf (s : ByteArray) : List UInt8 := s.data.toList
theorem bs_len (s : ByteArray) : (bsOf s).length = s.size := by rw [Array.length_toList]; rfl
/-- The scanner of source s lies at block g. -/
def Scn (W : World) (g : Nat) (s : ByteArray) : Prop := W.heap[g]? = some (.cells (#[Value.string s] ++ tabC) 62 (0, 0))
theorem Scn.lt {W : World} {g : Nat} {s : ByteArray} (h : Scn W g s) : g < W.heap.size := heap_lt h
theorem Scn.keep {W W' : World} {g : Nat} {s : ByteArray} (h : Scn W g s) (hb : W'.heap[g]? = W.heap[g]?) : Scn W' g s := hb.trans h
theorem Scn.below {W W' : World} {B g : Nat} {s : ByteArray} (h : Scn W g s) (hb : Below B W W') (hg : g < B) : Scn W' g s := h.keep (hb.block g hg)
theorem Scn.src {W : World} {g : Nat} {s : ByteArray} (h : Scn W g s) : W.cell? ⟨g, 0, none⟩ = some (.string s) := by
  rw [cell_of_row W g 0 _ _ (0, 0) h, Array.getElem?_append_left (by simp)]
  rfl
theorem Scn.at_ {W : World} {g x : Nat} {s : ByteArray} (h : Scn W g s) (hx : x < 256) : W.cell? ⟨g, 1 + x, none⟩ = some (.int .u8 ((clsN x : Nat) : Int)) := by
  rw [cell_of_row W g (1 + x) _ _ (0, 0) h, Array.getElem?_append_right (by simp)]
  simp only [List.size_toArray, List.length_cons, List.length_nil, Nat.add_sub_cancel_left, Nat.zero_add]
  exact tabC_at hx
/-- The class at a place of the source; nothing at its end. -/
def clsAt (s : ByteArray) (i : Nat) : Nat := if i = s.size then 0 else clsN ((bsOf s).getD i 0).toNat

set_option maxHeartbeats 2000000 in
theorem classAt_any (W : World) (g : Nat) (s : ByteArray) (i : Nat) (h : Scn W g s) (hi : i ≤ s.size) :
    Calls Tryd.prog 32 #[.pointer (some ⟨g, 0, none⟩), .int .i64 (i : Int)] W fun e w' => e = .returned (.int .u8 ((clsAt s i : Nat) : Int)) ∧ ∃ q, w' = W.drewN q := by
  have hsrc := h.src
  by_cases he : i = s.size
  · subst he
    have hr := Lib.hid (show clsAt s s.size = 0 by simp [clsAt])
    go_enter Tryd.func32, Tryd.ntmps32
    go_wp2
    go_ret
    exact ⟨by rw [hr.out]; rfl, 0, rfl⟩
  · have hlt : i < s.size := by omega
    obtain ⟨b, hb⟩ : ∃ b : UInt8, s[i]'hlt = b := ⟨_, rfl⟩
    have hbl := b.toNat_lt
    have hcell := h.at_ (x := b.toNat) (by omega)
    have hr := Lib.hid (show clsAt s i = clsN b.toNat by
      unfold clsAt
      rw [if_neg he, List.getD_eq_getElem?_getD, Lib.data_getElem? s i hlt, hb]
      rfl)
    have hb3 : (b.toNat : Int) < 256 := by omega
    have hne : ((i : Int) == (s.size : Int)) = false := by simp; omega
    obtain ⟨c, hc⟩ : ∃ c, clsN b.toNat = c := ⟨_, rfl⟩
    rw [hc] at hcell hr
    clear he hc
    go_enter Tryd.func32, Tryd.ntmps32
    go_wp2
    go_quiet (fail)
    go_wp2
    go_ret
    exact ⟨by rw [hr.out]; rfl, _, rfl⟩
theorem clsN_iff (c : Nat) : (clsN c = 1 ↔ c = 32 ∨ c = 9 ∨ c = 10) ∧ (clsN c = 2 ↔ c = 35) ∧ (clsN c = 3 ↔ 97 ≤ c ∧ c ≤ 122) ∧ (clsN c = 4 ↔ 48 ≤ c ∧ c ≤ 57) ∧ (clsN c = 6 ↔ c = 60 ∨ c = 62 ∨ c = 61 ∨ c = 33) ∧ (clsN c = 7 ↔ c = 124 ∨ c = 38) := by
  unfold clsN
  repeat' split
  all_goals omega
theorem clsAt_lt {s : ByteArray} {i : Nat} (h : i < s.size) : clsAt s i = clsN ((bsOf s).getD i 0).toNat := by
  unfold clsAt
  rw [if_neg (by omega)]
theorem clsAt_end (s : ByteArray) : clsAt s s.size = 0 := by simp [clsAt]
theorem bs_extract (s : ByteArray) (a b : Nat) : bsOf (s.extract a b) = ((bsOf s).drop a).take (b - a) := by
  show (s.extract a b).data.toList = _
  rw [ByteArray.data_extract, Array.toList_extract]
theorem skipT_index : ∀ l : List UInt8, (Lib.indexByte l 10 = -1 → skipS true l = []) ∧ (∀ k : Nat, Lib.indexByte l 10 = (k : Int) → k < l.length ∧ skipS true l = skip (l.drop k) ∧ (∀ c t, l = c :: t → c.toNat ≠ 10 → 0 < k))
  | [] => ⟨fun _ => rfl, fun k h => by simp [Lib.indexByte] at h⟩
  | b :: t => by
    obtain ⟨i1, i2⟩ := skipT_index t
    have hge := Lib.indexByte_ge t 10
    by_cases hb : b = 10
    · subst hb
      refine ⟨fun h => by simp [Lib.indexByte] at h, fun k h => ?_⟩
      have : k = 0 := by simp [Lib.indexByte] at h; omega
      subst this
      refine ⟨by simp, by simp [skip, skipS, isB], fun c t e hc => ?_⟩
      injection e with e1 e2
      subst e1
      exact absurd rfl hc
    · have hb1 : (b == 10) = false := by simp [hb]
      have hb2 : (b.toNat != 10) = true := by
        rw [bne_iff_ne]
        intro h
        exact hb (UInt8.toNat_inj.1 h)
      have hs : skipS true (b :: t) = skipS true t := by rw [skipS, hb2]
      have hi : Lib.indexByte (b :: t) 10 = if Lib.indexByte t 10 == -1 then -1 else Lib.indexByte t 10 + 1 := by rw [Lib.indexByte, hb1]; rfl
      by_cases h1 : Lib.indexByte t 10 = -1
      · rw [hi, h1]
        exact ⟨fun _ => by rw [hs]; exact i1 h1, fun k h => by simp at h⟩
      · rw [hi, if_neg (by simpa using h1)]
        refine ⟨fun h => by omega, fun k h => ?_⟩
        obtain ⟨m, hm⟩ := Int.eq_ofNat_of_zero_le (show 0 ≤ Lib.indexByte t 10 by omega)
        obtain ⟨j1, j2, _⟩ := i2 m hm
        have : k = m + 1 := by omega
        subst this
        exact ⟨by simp; omega, by rw [hs, j2]; rfl, fun _ _ _ _ => by omega⟩
set_option maxHeartbeats 2000000 in
theorem lineEnd_any (W : World) (g : Nat) (s : ByteArray) (i : Nat) (h : Scn W g s) (hi : i < s.size) (hc : ((bsOf s).getD i 0).toNat = 35) (hs : s.size ≤ 1000000000) :
    Calls Tryd.prog 33 #[.pointer (some ⟨g, 0, none⟩), .int .i64 (i : Int)] W fun e w' => (∃ k : Nat, i < k ∧ k ≤ s.size ∧ skip ((bsOf s).drop i) = skip ((bsOf s).drop k) ∧ e = .returned (.int .i64 (k : Int))) ∧ w' = W := by
  have hsrc := h.src
  have hlen := bs_len s
  have hix := Tryd.strings_IndexByte (s.extract i s.size) 10 W
  have he : (s.extract i s.size).data.toList = (bsOf s).drop i := by
    have h1 := bs_extract s i s.size
    rw [List.take_of_length_le (by rw [List.length_drop, hlen]; exact Nat.le_refl _)] at h1
    exact h1
  rw [he, show ((10 : Int).toNat.toUInt8 : UInt8) = 10 by rfl] at hix
  obtain ⟨k1, k2⟩ := skipT_index ((bsOf s).drop i)
  have hge := Lib.indexByte_ge ((bsOf s).drop i) 10
  have hcm := skip_comment (S := bsOf s) (i := i) (by rw [hlen]; exact hi) hc
  have hdc := drop_cons (S := bsOf s) (i := i) (by rw [hlen]; exact hi)
  have HIX := Lib.hid hix
  by_cases hm : Lib.indexByte ((bsOf s).drop i) 10 = -1
  · rw [hm] at HIX
    have HR := Lib.hid (show skip ((bsOf s).drop i) = skip ((bsOf s).drop s.size) by
      rw [hcm, k1 hm, List.drop_eq_nil_of_le (by rw [hlen]; exact Nat.le_refl _)]
      rfl)
    clear hix he k1 k2 hge hcm hdc hm hc hlen
    go_enter Tryd.func33, Tryd.ntmps33
    go_wp2_with (go_at_call 37
                 refine HIX.out.mono ?_
                 rintro e w2 ⟨rfl, rfl⟩)
    go_ret
    exact ⟨⟨s.size, hi, Nat.le_refl _, HR.out, rfl⟩, by first | rfl | trivial⟩
  · obtain ⟨m, hmm⟩ := Int.eq_ofNat_of_zero_le (show 0 ≤ Lib.indexByte ((bsOf s).drop i) 10 by omega)
    rw [hmm] at HIX
    obtain ⟨j1, j2, j3⟩ := k2 m hmm
    have j4 := j3 _ _ hdc (by omega)
    rw [List.length_drop, hlen] at j1
    have HR := Lib.hid (show skip ((bsOf s).drop i) = skip ((bsOf s).drop (i + m)) by rw [hcm, j2, List.drop_drop])
    clear hix he k1 k2 hge hcm hdc hm hc hlen hmm j2 j3
    go_enter Tryd.func33, Tryd.ntmps33
    go_wp2_with (go_at_call 37
                 refine HIX.out.mono ?_
                 rintro e w2 ⟨rfl, rfl⟩)
    go_ret
    exact ⟨⟨i + m, by omega, by omega, HR.out, by first | rfl | simp⟩, by first | rfl | trivial⟩
set_option maxHeartbeats 2000000 in
theorem skipSpace_any (W : World) (g : Nat) (s : ByteArray) (i : Nat) (h : Scn W g s) (hi : i ≤ s.size) (hs : s.size ≤ 1000000000) :
    Calls Tryd.prog 27 #[.pointer (some ⟨g, 0, none⟩), .int .i64 (i : Int)] W fun e w' => (∃ k : Nat, i ≤ k ∧ k ≤ s.size ∧ skip ((bsOf s).drop i) = (bsOf s).drop k ∧ e = .returned (.int .i64 (k : Int))) ∧ Below W.heap.size W w' := by
  have hlen := bs_len s
  have HS := Lib.hid h
  have HLEN := Lib.hid hlen
  clear h hlen
  go_enter Tryd.func27, Tryd.ntmps27
  go_wp2
  go_loopw [1] (fun x V => ∃ j : Nat, i ≤ j ∧ j ≤ s.size ∧ x = .int .i64 (j : Int) ∧ Hid (skip ((bsOf s).drop i) = skip ((bsOf s).drop j)) ∧ Below W.heap.size W V) (fun x _ => s.size - (intOf x).toNat)
  case atStart => exact ⟨i, Nat.le_refl _, hi, rfl, (show _ = _ from rfl), Below.refl _ _⟩
  case round =>
    obtain ⟨j, hj1, hj2, rfl, hsk, hB⟩ := hrel
    obtain ⟨wo, hwo⟩ : ∃ V, V = wr := ⟨_, rfl⟩
    subst hwo
    have hsn : Scn wo g s := HS.out.below hB HS.out.lt
    have HCA := Lib.hid (classAt_any wo g s j hsn hj2)
    have HLE := Lib.hid (fun V (hV : Scn V g s) h1 h2 => lineEnd_any V g s j hV h1 h2 hs)
    have hor : (j < s.size ∧ ((bsOf s).getD j 0).toNat = 35 ∧ clsAt s j = 2) ∨ (j < s.size ∧ isB ((bsOf s).getD j 0) = true ∧ clsAt s j = 1) ∨ (clsAt s j ≠ 1 ∧ clsAt s j ≠ 2 ∧ skip ((bsOf s).drop j) = (bsOf s).drop j) := by
      by_cases hlt : j < s.size
      · rw [clsAt_lt hlt]
        obtain ⟨b, hb⟩ : ∃ b, (bsOf s).getD j 0 = b := ⟨_, rfl⟩
        have hst := skip_stays (S := bsOf s) (i := j) (by rw [HLEN.out]; exact hlt)
        rw [hb] at hst ⊢
        obtain ⟨c1, c2, _⟩ := clsN_iff b.toNat
        by_cases h35 : b.toNat = 35
        · exact .inl ⟨hlt, h35, c2.2 h35⟩
        · by_cases hB : isB b = true
          · refine .inr (.inl ⟨hlt, hB, c1.2 ?_⟩)
            simp only [isB, Bool.or_eq_true, decide_eq_true_eq] at hB
            omega
          · refine .inr (.inr ⟨fun e => hB ?_, fun e => h35 (c2.1 e), hst h35 (by simpa using hB)⟩)
            have := c1.1 e
            simp only [isB, Bool.or_eq_true, decide_eq_true_eq]
            omega
      · obtain rfl : j = s.size := by omega
        rw [clsAt_end, List.drop_eq_nil_of_le (by rw [HLEN.out]; exact Nat.le_refl _)]
        exact .inr (.inr ⟨by decide, by decide, rfl⟩)
    obtain ⟨c, hc⟩ : ∃ c, clsAt s j = c := ⟨_, rfl⟩
    rw [hc] at HCA hor
    have HSN := Lib.hid hsn
    clear hc hsn
    rcases hor with ⟨hlt, hb, rfl⟩ | ⟨hlt, hb, rfl⟩ | ⟨hc1, hc2, hst⟩
    · have HC : Hid (Calls Tryd.prog 32 #[.pointer (some ⟨g, 0, none⟩), .int .i64 (j : Int)] wo fun e w' => e = .returned (.int .u8 2) ∧ ∃ q, w' = wo.drewN q) := HCA
      clear HCA
      go_wp2_with (first
        | (go_at_call 32
           refine HC.out.mono ?_
           rintro e w2 ⟨rfl, q, hq⟩
           subst hq)
        | (go_at_call 33
           refine (HLE.out (wo.drewN _) (HSN.out.keep rfl) hlt hb).mono ?_
           rintro e w3 ⟨⟨k, hk1, hk2, hk3, rfl⟩, rfl⟩
           have HK3 := Lib.hid (hsk.out.trans hk3)
           clear hk3))
      go_roundw
      case rel => exact ⟨k, by omega, hk2, rfl, HK3.out, below_drewN' hB _⟩
      case measure => simp [intOf]; omega
    · have HC : Hid (Calls Tryd.prog 32 #[.pointer (some ⟨g, 0, none⟩), .int .i64 (j : Int)] wo fun e w' => e = .returned (.int .u8 1) ∧ ∃ q, w' = wo.drewN q) := HCA
      have HK := Lib.hid (hsk.out.trans (skip_blank (by rw [HLEN.out]; exact hlt) hb))
      clear HCA hb
      go_wp2_with (go_at_call 32
                   refine HC.out.mono ?_
                   rintro e w2 ⟨rfl, q, hq⟩
                   subst hq)
      go_roundw
      case rel => exact ⟨j + 1, by omega, by omega, by go_num, HK.out, below_drewN' hB _⟩
      case measure => simp [intOf]; omega
    · have h1 : ((c : Int) == 1) = false := by simp; omega
      have h2 : ((c : Int) == 2) = false := by simp; omega
      have HST := Lib.hid (hsk.out.trans hst)
      clear hst hc1 hc2
      go_wp2_with (go_at_call 32
                   refine HCA.out.mono ?_
                   rintro e w2 ⟨rfl, q, hq⟩
                   subst hq)
      go_ret
      exact ⟨⟨j, hj1, hj2, HST.out, rfl⟩, below_drewN' hB _⟩
end Go.Proofs.YtiejhgdjkfhmoaaDoor

namespace Go.Proofs.YtiejhgdjkfhmoaaDoor
open Go Go.RowKit Go.Proofs Go.Proofs.YtiejhgdjkfhmoaaDoor.LX

/-- The zero token. -/
def tok0 : Array Value := #[.int .i64 0, .int .i64 0, .string ⟨#[]⟩, .int .i64 0]
/-- A token as the program's value. -/
def tokV (s : ByteArray) (i : Nat) : Res → Value
  | .bad _ => .agg #[.int .i64 0, .int .i64 (i : Int), .string ⟨#[]⟩, .int .i64 0]
  | .good k n v => .agg #[.int .i64 (k : Int), .int .i64 (i : Int), .string (s.extract i (i + n)), .int .i64 (v : Int)]
def tokC : Res → Nat
  | .bad c => c
  | .good _ _ _ => 0
def tokR (s : ByteArray) (i : Nat) (r : Res) : Value := .tuple #[tokV s i r, .int .i64 ((tokC r : Nat) : Int)]
theorem tok_cells {V : World} {b : Nat} {a0 a1 a2 a3 : Value} {t : TypeId} (h : V.heap[b]? = some (.cells #[a0, a1, a2, a3] t (0, 0))) : V.cell? ⟨b, 0, none⟩ = some a0 ∧ V.cell? ⟨b, 1, none⟩ = some a1 ∧ V.cell? ⟨b, 2, none⟩ = some a2 ∧ V.cell? ⟨b, 3, none⟩ = some a3 ∧ (∀ i, V.frozen? ⟨b, i, none⟩ = false) :=
  ⟨cell_of_row V b 0 _ _ (0, 0) h, cell_of_row V b 1 _ _ (0, 0) h, cell_of_row V b 2 _ _ (0, 0) h, cell_of_row V b 3 _ _ (0, 0) h, fun i => by simp [World.frozen?, h]⟩
theorem tok_set {V : World} {b : Nat} {a0 a1 a2 a3 : Value} {t : TypeId} (h : V.heap[b]? = some (.cells #[a0, a1, a2, a3] t (0, 0))) (c0 c1 c2 c3 : Value) : ((((V.setCell ⟨b, 0, none⟩ c0).setCell ⟨b, 1, none⟩ c1).setCell ⟨b, 2, none⟩ c2).setCell ⟨b, 3, none⟩ c3).heap[b]? = some (.cells #[c0, c1, c2, c3] t (0, 0)) :=
  row_set (row_set (row_set (row_set h c0) c1) c2) c3
theorem tok_below {B b : Nat} {W V : World} (h : Below B W V) (hb : B ≤ b) (c0 c1 c2 c3 : Value) : Below B W ((((V.setCell ⟨b, 0, none⟩ c0).setCell ⟨b, 1, none⟩ c1).setCell ⟨b, 2, none⟩ c2).setCell ⟨b, 3, none⟩ c3) :=
  (((h.setCell (p := ⟨b, 0, none⟩) hb c0).setCell (p := ⟨b, 1, none⟩) hb c1).setCell (p := ⟨b, 2, none⟩) hb c2).setCell (p := ⟨b, 3, none⟩) hb c3
theorem info_tok : (Tryd.prog.info? 36).map (·.size) = some 4 := by kernel_rfl
theorem tok_ret {fn : Func} {p u : Tmp} (hf : fn.results = #[.cell p 36, .tmp u]) {V : World} {b : Nat} {c0 c1 c2 c3 x : Value} (tmps : Array Value) (hp : tmps.getD p undef = .pointer (some ⟨b, 0, none⟩)) (hu : tmps.getD u undef = x) (h : V.heap[b]? = some (.cells #[c0, c1, c2, c3] 36 (0, 0))) :
    (results fn tmps).run Tryd.prog V = .ok (.tuple #[.agg #[c0, c1, c2, c3], x]) V := by
  rw [results_cell_tmp hf, hp, hu]
  have := run_loadVar_row (P := Tryd.prog) V b 36 36 #[c0, c1, c2, c3] (0, 0) _ h Tryd.underlying36 rfl info_tok
  simp [asAddr, Result.andThen, this]
theorem takeWhile_more {p : UInt8 → Bool} {S : List UInt8} {i e : Nat} (hi : i ≤ e) (hall : ∀ j, i ≤ j → j < e → p (S.getD j 0) = true) (he : e ≤ S.length) (hend : e < S.length → p (S.getD e 0) = false) : ((S.drop i).takeWhile p).length = e - i := by
  obtain ⟨n, rfl⟩ : ∃ n, e = i + n := ⟨e - i, by omega⟩
  clear hi
  induction n generalizing i with
  | zero =>
    rw [Nat.add_zero] at he hend ⊢
    rcases Nat.lt_or_ge i S.length with h | h
    · rw [drop_cons h, List.takeWhile_cons_of_neg (by rw [hend h]; simp)]
      simp
    · rw [List.drop_eq_nil_of_le h]
      simp
  | succ n ih =>
    have h1 : i < S.length := by omega
    rw [drop_cons h1, List.takeWhile_cons_of_pos (hall i (Nat.le_refl _) (by omega)), List.length_cons, ih (fun j a b => hall j (by omega) (by omega)) (by omega) (by rw [show i + 1 + n = i + (n + 1) by omega]; exact hend)]
    omega
theorem isA_cls (s : ByteArray) {i : Nat} (h : i < s.size) : isA ((bsOf s).getD i 0) = (decide (clsAt s i = 3) || decide (clsAt s i = 4)) := by
  rw [clsAt_lt h]
  obtain ⟨_, _, c3, c4, _⟩ := clsN_iff ((bsOf s).getD i 0).toNat
  rw [Bool.eq_iff_iff]
  simp only [isA, isW, isD, Bool.or_eq_true, Bool.and_eq_true, decide_eq_true_eq, c3, c4]
theorem isD_cls (s : ByteArray) {i : Nat} (h : i < s.size) : isD ((bsOf s).getD i 0) = decide (clsAt s i = 4) := by
  rw [clsAt_lt h]
  obtain ⟨_, _, _, c4, _⟩ := clsN_iff ((bsOf s).getD i 0).toNat
  rw [Bool.eq_iff_iff]
  simp only [isD, Bool.and_eq_true, decide_eq_true_eq, c4]
theorem isW_cls (s : ByteArray) {i : Nat} (h : i < s.size) : isW ((bsOf s).getD i 0) = decide (clsAt s i = 3) := by
  rw [clsAt_lt h]
  obtain ⟨_, _, c3, _⟩ := clsN_iff ((bsOf s).getD i 0).toNat
  rw [Bool.eq_iff_iff]
  simp only [isW, Bool.and_eq_true, decide_eq_true_eq, c3]

set_option maxRecDepth 100000 in
set_option maxHeartbeats 4000000 in
theorem wordAt_any (W : World) (g : Nat) (s : ByteArray) (i : Nat) (h : Scn W g s) (hi : i < s.size) (hs : s.size ≤ 1000000000) (hw : isW ((bsOf s).getD i 0) = true) :
    Calls Tryd.prog 34 #[.pointer (some ⟨g, 0, none⟩), .int .i64 (i : Int)] W fun e w' => e = .returned (tokR s i (tok1 ((bsOf s).drop i))) ∧ Below W.heap.size W w' := by
  have hlen := bs_len s
  have HS := Lib.hid h
  have HLEN := Lib.hid hlen
  have htok : ∀ n, (((bsOf s).drop i).takeWhile isA).length = n → tok1 ((bsOf s).drop i) = if 10 < n then .bad 2 else .good 1 n 0 := by
    intro n hn
    rw [drop_cons (by rw [hlen]; exact hi)] at hn ⊢
    simp only [tok1, hw, if_true, hn]
  have HTOK := Lib.hid htok
  clear h hlen htok
  go_enter Tryd.func34, Tryd.ntmps34
  go_wp2
  go_loopw [6] (fun x V => ∃ j : Nat, i ≤ j ∧ j ≤ s.size ∧ x = .int .i64 (j : Int) ∧ Hid (∀ k, i ≤ k → k < j → isA ((bsOf s).getD k 0) = true) ∧ Below W.heap.size W V ∧ V.heap[W.heap.size]? = some (.cells tok0 36 (0, 0))) (fun x _ => s.size - (intOf x).toNat)
  case atStart => exact ⟨i, Nat.le_refl _, by omega, rfl, (show ∀ k, i ≤ k → k < i → _ from fun k a b => absurd a (by omega)), (Below.refl _ W).alloc (Nat.le_refl _) _, World.alloc_heap_new W _⟩
  case round =>
    obtain ⟨j, hj1, hj2, rfl, hall, hB, htk⟩ := hrel
    obtain ⟨wo, hwo⟩ : ∃ V, V = wr := ⟨_, rfl⟩
    subst hwo
    have hsn : Scn wo g s := HS.out.below hB HS.out.lt
    have HCA := Lib.hid (fun V (hV : Scn V g s) => classAt_any V g s j hV hj2)
    have hor : (j < s.size ∧ isA ((bsOf s).getD j 0) = true ∧ clsAt s j = 3) ∨ (j < s.size ∧ isA ((bsOf s).getD j 0) = true ∧ clsAt s j = 4) ∨ (clsAt s j ≠ 3 ∧ clsAt s j ≠ 4 ∧ (j < s.size → isA ((bsOf s).getD j 0) = false)) := by
      by_cases hlt : j < s.size
      · rw [isA_cls s hlt]
        by_cases h3 : clsAt s j = 3
        · exact .inl ⟨hlt, by simp [h3], h3⟩
        · by_cases h4 : clsAt s j = 4
          · exact .inr (.inl ⟨hlt, by simp [h4], h4⟩)
          · exact .inr (.inr ⟨h3, h4, fun _ => by simp [h3, h4]⟩)
      · obtain rfl : j = s.size := by omega
        rw [clsAt_end]
        exact .inr (.inr ⟨by decide, by decide, fun h => absurd h (by omega)⟩)
    obtain ⟨c, hc⟩ : ∃ c, clsAt s j = c := ⟨_, rfl⟩
    rw [hc] at HCA hor
    have HSN := Lib.hid hsn
    have HTK := Lib.hid htk
    clear hc hsn htk
    have hor2 : (j < s.size ∧ isA ((bsOf s).getD j 0) = true ∧ ((c : Int) == 3) = true) ∨ (j < s.size ∧ isA ((bsOf s).getD j 0) = true ∧ ((c : Int) == 3) = false ∧ ((c : Int) == 4) = true) ∨ (((c : Int) == 3) = false ∧ ((c : Int) == 4) = false ∧ (j < s.size → isA ((bsOf s).getD j 0) = false)) := by
      rcases hor with ⟨a, b, rfl⟩ | ⟨a, b, rfl⟩ | ⟨a, b, d⟩
      · exact .inl ⟨a, b, rfl⟩
      · exact .inr (.inl ⟨a, b, rfl, rfl⟩)
      · exact .inr (.inr ⟨by simp; omega, by simp; omega, d⟩)
    clear hor
    rcases hor2 with ⟨hlt, hb, h3⟩ | ⟨hlt, hb, h3, h4⟩ | ⟨h3, h4, hend⟩
    · have HN := Lib.hid (show ∀ k, i ≤ k → k < j + 1 → isA ((bsOf s).getD k 0) = true from fun k a b => by
        rcases Nat.lt_or_ge k j with h | h
        · exact hall.out k a h
        · rw [show k = j by omega]; exact hb)
      clear hb
      go_wp2_with (go_at_call 32
                   refine (HCA.out wo HSN.out).mono ?_
                   rintro e w2 ⟨rfl, q, hq⟩
                   subst hq)
      go_roundw
      case rel => exact ⟨j + 1, by omega, by omega, by go_num, HN.out, below_drewN' hB _, HTK.out⟩
      case measure => simp [intOf]; omega
    · have HN := Lib.hid (show ∀ k, i ≤ k → k < j + 1 → isA ((bsOf s).getD k 0) = true from fun k a b => by
        rcases Nat.lt_or_ge k j with h | h
        · exact hall.out k a h
        · rw [show k = j by omega]; exact hb)
      clear hb
      go_wp2_with (first
        | (go_at_call 32
           refine (HCA.out wo HSN.out).mono ?_
           rintro e w2 ⟨rfl, q, hq⟩
           subst hq)
        | (go_at_call 32
           refine (HCA.out (wo.drewN _) (HSN.out.keep rfl)).mono ?_
           rintro e w2 ⟨rfl, q2, hq⟩
           subst hq))
      go_roundw
      case rel => exact ⟨j + 1, by omega, by omega, by go_num, HN.out, below_drewN' hB _, HTK.out⟩
      case measure => simp [intOf]; omega
    · have hnl : (((bsOf s).drop i).takeWhile isA).length = j - i := takeWhile_more hj1 hall.out (by rw [HLEN.out]; exact hj2) (by rw [HLEN.out]; exact hend)
      have HT := Lib.hid (HTOK.out (j - i) hnl)
      clear hend hnl
      have hB2 := hB
      obtain ⟨t0, t1, t2, t3, tf⟩ := tok_cells HTK.out
      have f0 := tf 0
      have f1 := tf 1
      have f2 := tf 2
      have f3 := tf 3
      clear tf
      by_cases h10 : 10 < j - i
      · have HT2 : Hid (tok1 ((bsOf s).drop i) = .bad 2) := by
          have := HT.out
          rw [if_pos h10] at this
          exact this
        have h11 : decide ((10 : Int) < (j : Int) - (i : Int)) = true := decide_eq_true (by omega)
        clear HT
        go_wp2_with (first
          | (go_at_call 32
             refine (HCA.out wo HSN.out).mono ?_
             rintro e w2 ⟨rfl, q, hq⟩
             subst hq)
          | (go_at_call 32
             refine (HCA.out (wo.drewN _) (HSN.out.keep rfl)).mono ?_
             rintro e w2 ⟨rfl, q2, hq⟩
             subst hq))
        refine bodyPost_ret (tok_ret rfl _ rfl rfl (tok_set (HTK.out : (wo.drewN (q + q2)).heap[W.heap.size]? = some (.cells tok0 36 (0, 0))) _ _ _ _)) rfl ⟨?_, ?_⟩
        · rw [HT2.out]; rfl
        · exact tok_below (below_drewN' hB2 _) (Nat.le_refl _) _ _ _ _
      · have HT2 : Hid (tok1 ((bsOf s).drop i) = .good 1 (j - i) 0) := by
          have := HT.out
          rw [if_neg h10] at this
          exact this
        have h11 : decide ((10 : Int) < (j : Int) - (i : Int)) = false := decide_eq_false (by omega)
        have hsrc := HSN.out.src
        have hij : i + (j - i) = j := by omega
        clear HT
        go_wp2_with (first
          | (go_at_call 32
             refine (HCA.out wo HSN.out).mono ?_
             rintro e w2 ⟨rfl, q, hq⟩
             subst hq)
          | (go_at_call 32
             refine (HCA.out (wo.drewN _) (HSN.out.keep rfl)).mono ?_
             rintro e w2 ⟨rfl, q2, hq⟩
             subst hq))
        refine bodyPost_ret (tok_ret rfl _ rfl rfl (tok_set (HTK.out : (wo.drewN (q + q2)).heap[W.heap.size]? = some (.cells tok0 36 (0, 0))) _ _ _ _)) rfl ⟨?_, ?_⟩
        · rw [HT2.out]
          show Ending.returned _ = Ending.returned (.tuple #[.agg #[_, _, .string (s.extract i (i + (j - i))), _], _])
          rw [hij]
          rfl
        · exact tok_below (below_drewN' hB2 _) (Nat.le_refl _) _ _ _ _

/-! ### numbers -/
theorem fold_ge : ∀ (l : List UInt8) (a : Nat), a ≤ l.foldl (fun n c => 10 * n + (c.toNat - 48)) a
  | [], a => Nat.le_refl _
  | c :: t, a => by
    rw [List.foldl_cons]
    have := fold_ge t (10 * a + (c.toNat - 48))
    omega
theorem parseUint_digits : ∀ (l : List UInt8) (a : Nat), (∀ c ∈ l, isD c = true) → a < 18446744073709551616 → Lib.parseUint10 a l = if l.foldl (fun n c => 10 * n + (c.toNat - 48)) a < 18446744073709551616 then .ok (l.foldl (fun n c => 10 * n + (c.toNat - 48)) a) else .range
  | [], a, _, ha => by simp [Lib.parseUint10, ha]
  | c :: t, a, hd, ha => by
    have hc := hd c (by simp)
    simp only [isD, Bool.and_eq_true, decide_eq_true_eq] at hc
    have hg := fold_ge t (10 * a + (c.toNat - 48))
    rw [List.foldl_cons, Lib.parseUint10, if_pos hc]
    by_cases h1 : 1844674407370955162 ≤ a
    · rw [if_pos h1, if_neg (by omega)]
    · rw [if_neg h1]
      by_cases h2 : 18446744073709551616 ≤ a * 10 + (c.toNat - 48)
      · rw [if_pos h2, if_neg (by omega)]
      · rw [if_neg h2, show a * 10 + (c.toNat - 48) = 10 * a + (c.toNat - 48) by omega]
        exact parseUint_digits t _ (fun x hx => hd x (by simp [hx])) (by omega)
theorem atoi_digits {l : List UInt8} (hd : ∀ c ∈ l, isD c = true) (hne : l ≠ []) : Lib.atoiAll l = if val l < 9223372036854775808 then .ok (val l : Int) else .range := by
  cases l with
  | nil => exact absurd rfl hne
  | cons c t =>
    have hc := hd c (by simp)
    simp only [isD, Bool.and_eq_true, decide_eq_true_eq] at hc
    have hp : Lib.parseMag (c :: t) = if val (c :: t) < 18446744073709551616 then .ok (val (c :: t)) else .range := by
      unfold Lib.parseMag
      rw [if_neg (by simp)]
      exact parseUint_digits (c :: t) 0 hd (by omega)
    unfold Lib.atoiAll
    simp only
    rw [if_neg (by omega), hp]
    by_cases h1 : val (c :: t) < 18446744073709551616
    · rw [if_pos h1]
      simp only
      by_cases h2 : val (c :: t) < 9223372036854775808
      · rw [if_neg (by omega), if_neg (by omega), if_pos h2, if_neg (by omega)]
      · rw [if_pos (by omega), if_neg h2]
    · rw [if_neg h1, if_neg (by omega)]
end Go.Proofs.YtiejhgdjkfhmoaaDoor

namespace Go.Proofs.YtiejhgdjkfhmoaaDoor
open Go Go.RowKit Go.Proofs Go.Proofs.YtiejhgdjkfhmoaaDoor.LX

theorem letter_any (c : UInt8) (w : World) : Calls Tryd.prog 21 #[.int .u8 (c.toNat : Int)] w fun e w' => e = .returned (.bool (isW c)) ∧ w' = w := by
  have hl := c.toNat_lt
  have hr := Lib.hid (show isW c = (decide (97 ≤ c.toNat) && decide (c.toNat ≤ 122)) from rfl)
  obtain ⟨n, hn⟩ : ∃ n, c.toNat = n := ⟨_, rfl⟩
  rw [hn] at hr ⊢
  have hor : (97 ≤ n ∧ n ≤ 122) ∨ (97 ≤ n ∧ ¬ n ≤ 122) ∨ ¬ 97 ≤ n := by omega
  rcases hor with ⟨h1, h2⟩ | ⟨h1, h2⟩ | h1
  · have HR := Lib.hid (show isW c = true by rw [hr.out]; simp [h1, h2])
    have g1 : decide ((97 : Int) ≤ (n : Int)) = true := decide_eq_true (by omega)
    have g2 : decide ((n : Int) ≤ 122) = true := decide_eq_true (by omega)
    clear hr hn
    go_enter Tryd.func21, Tryd.ntmps21
    go_wp2
    go_ret
    exact ⟨by rw [HR.out]; rfl, by first | rfl | trivial⟩
  · have HR := Lib.hid (show isW c = false by rw [hr.out]; simp [h1, h2])
    have g1 : decide ((97 : Int) ≤ (n : Int)) = true := decide_eq_true (by omega)
    have g2 : decide ((n : Int) ≤ 122) = false := decide_eq_false (by omega)
    clear hr hn
    go_enter Tryd.func21, Tryd.ntmps21
    go_wp2
    go_ret
    exact ⟨by rw [HR.out]; rfl, by first | rfl | trivial⟩
  · have HR := Lib.hid (show isW c = false by rw [hr.out]; simp [h1])
    have g1 : decide ((97 : Int) ≤ (n : Int)) = false := decide_eq_false (by omega)
    clear hr hn
    go_enter Tryd.func21, Tryd.ntmps21
    go_wp2
    go_ret
    exact ⟨by rw [HR.out]; rfl, by first | rfl | trivial⟩
theorem digit_any (c : UInt8) (w : World) : Calls Tryd.prog 22 #[.int .u8 (c.toNat : Int)] w fun e w' => e = .returned (.bool (isD c)) ∧ w' = w := by
  have hl := c.toNat_lt
  have hr := Lib.hid (show isD c = (decide (48 ≤ c.toNat) && decide (c.toNat ≤ 57)) from rfl)
  obtain ⟨n, hn⟩ : ∃ n, c.toNat = n := ⟨_, rfl⟩
  rw [hn] at hr ⊢
  have hor : (48 ≤ n ∧ n ≤ 57) ∨ (48 ≤ n ∧ ¬ n ≤ 57) ∨ ¬ 48 ≤ n := by omega
  rcases hor with ⟨h1, h2⟩ | ⟨h1, h2⟩ | h1
  · have HR := Lib.hid (show isD c = true by rw [hr.out]; simp [h1, h2])
    have g1 : decide ((48 : Int) ≤ (n : Int)) = true := decide_eq_true (by omega)
    have g2 : decide ((n : Int) ≤ 57) = true := decide_eq_true (by omega)
    clear hr hn
    go_enter Tryd.func22, Tryd.ntmps22
    go_wp2
    go_ret
    exact ⟨by rw [HR.out]; rfl, by first | rfl | trivial⟩
  · have HR := Lib.hid (show isD c = false by rw [hr.out]; simp [h1, h2])
    have g1 : decide ((48 : Int) ≤ (n : Int)) = true := decide_eq_true (by omega)
    have g2 : decide ((n : Int) ≤ 57) = false := decide_eq_false (by omega)
    clear hr hn
    go_enter Tryd.func22, Tryd.ntmps22
    go_wp2
    go_ret
    exact ⟨by rw [HR.out]; rfl, by first | rfl | trivial⟩
  · have HR := Lib.hid (show isD c = false by rw [hr.out]; simp [h1])
    have g1 : decide ((48 : Int) ≤ (n : Int)) = false := decide_eq_false (by omega)
    clear hr hn
    go_enter Tryd.func22, Tryd.ntmps22
    go_wp2
    go_ret
    exact ⟨by rw [HR.out]; rfl, by first | rfl | trivial⟩
end Go.Proofs.YtiejhgdjkfhmoaaDoor

namespace Go.Proofs.YtiejhgdjkfhmoaaDoor
open Go Go.RowKit Go.Proofs Go.Proofs.YtiejhgdjkfhmoaaDoor.LX

theorem bs_getD (s : ByteArray) {i : Nat} (h : i < s.size) : (bsOf s).getD i 0 = s[i]'h := by
  rw [List.getD_eq_getElem?_getD, Lib.data_getElem? s i h]
  rfl
set_option maxRecDepth 100000 in
set_option maxHeartbeats 4000000 in
theorem refSkip_any (s : ByteArray) (i : Nat) (hi : i ≤ s.size) (hs : s.size ≤ 1000000000) (w : World) :
    Calls Tryd.prog 23 #[.string s, .int .i64 (i : Int)] w fun e w' => (∃ k : Nat, i ≤ k ∧ k ≤ s.size ∧ skip ((bsOf s).drop i) = (bsOf s).drop k ∧ e = .returned (.int .i64 (k : Int))) ∧ w' = w := by
  have HLEN := Lib.hid (bs_len s)
  go_enter Tryd.func23, Tryd.ntmps23
  go_wp2
  go_loopw [1] (fun x V => ∃ j : Nat, i ≤ j ∧ j ≤ s.size ∧ x = .int .i64 (j : Int) ∧ Hid (skip ((bsOf s).drop i) = skip ((bsOf s).drop j)) ∧ V = w) (fun x _ => s.size - (intOf x).toNat)
  case atStart => exact ⟨i, Nat.le_refl _, hi, rfl, (show _ = _ from rfl), rfl⟩
  case round =>
    obtain ⟨j, hj1, hj2, rfl, hsk, hw⟩ := hrel
    rw [hw]
    clear hw
    by_cases hlt : j < s.size
    · obtain ⟨b, hb⟩ : ∃ b : UInt8, s[j]'hlt = b := ⟨_, rfl⟩
      have hg := bs_getD s hlt
      rw [hb] at hg
      have hbl := b.toNat_lt
      have hjl : j < (bsOf s).length := by rw [HLEN.out]; exact hlt
      by_cases h35 : b.toNat = 35
      · have e35 : ((b.toNat : Int) == 35) = true := by simp [h35]
        have hc := skip_comment (S := bsOf s) hjl (by rw [hg]; exact h35)
        have HC := Lib.hid (hsk.out.trans hc)
        have HG := Lib.hid hg
        clear hc hg
        go_wp2
        go_loopw [1] (fun x V => ∃ m : Nat, j ≤ m ∧ m ≤ s.size ∧ x = .int .i64 (m : Int) ∧ Hid (skipS true ((bsOf s).drop j) = skipS true ((bsOf s).drop m)) ∧ V = w) (fun x _ => s.size - (intOf x).toNat)
        case atStart => exact ⟨j, Nat.le_refl _, hj2, rfl, (show _ = _ from rfl), rfl⟩
        case round =>
          obtain ⟨m, hm1, hm2, rfl, hst, hw⟩ := hrel
          rw [hw]
          clear hw
          by_cases hml : m < s.size
          · obtain ⟨d, hd⟩ : ∃ d : UInt8, s[m]'hml = d := ⟨_, rfl⟩
            have hgd := bs_getD s hml
            rw [hd] at hgd
            have hmb : m < (bsOf s).length := by rw [HLEN.out]; exact hml
            by_cases h10 : d.toNat = 10
            · have e10 : ((d.toNat : Int) != 10) = false := by simp [h10]
              have HE := Lib.hid (HC.out.trans (hst.out.trans (skipT_end hmb (by rw [hgd]; exact h10))))
              have hmj : m ≠ j := by
                rintro rfl
                have : b = d := by rw [← hb, ← hd]
                rw [this] at h35
                omega
              clear hgd h10
              go_wp2
              go_roundw
              case rel => exact ⟨m, by omega, hm2, rfl, HE.out, by first | rfl | trivial⟩
              case measure => simp [intOf]; omega
            · have e10 : ((d.toNat : Int) != 10) = true := by simp; omega
              have HE := Lib.hid (hst.out.trans (skipT_step hmb (by rw [hgd]; exact h10)))
              clear hgd h10
              go_wp2
              go_roundw
              case rel => exact ⟨m + 1, by omega, by omega, by go_num, HE.out, by first | rfl | trivial⟩
              case measure => simp [intOf]; omega
          · obtain rfl : m = s.size := by omega
            have HE := Lib.hid (show skip ((bsOf s).drop i) = skip ((bsOf s).drop s.size) by
              rw [HC.out, hst.out, List.drop_eq_nil_of_le (by rw [HLEN.out]; exact Nat.le_refl _)]
              rfl)
            go_wp2
            go_roundw
            case rel => exact ⟨s.size, by omega, Nat.le_refl _, rfl, HE.out, by first | rfl | trivial⟩
            case measure => simp [intOf]; omega
      · have e35 : ((b.toNat : Int) == 35) = false := by simp; omega
        by_cases hB : isB b = true
        · have HE := Lib.hid (hsk.out.trans (skip_blank hjl (by rw [hg]; exact hB)))
          have hor : ((b.toNat : Int) == 32) = true ∨ (((b.toNat : Int) == 32) = false ∧ ((b.toNat : Int) == 9) = true) ∨ (((b.toNat : Int) == 32) = false ∧ ((b.toNat : Int) == 9) = false ∧ ((b.toNat : Int) == 10) = true) := by
            simp only [isB, Bool.or_eq_true, decide_eq_true_eq] at hB
            rcases hB with (h | h) | h
            · exact .inl (by simp [h])
            · exact .inr (.inl ⟨by simp [h], by simp [h]⟩)
            · exact .inr (.inr ⟨by simp [h], by simp [h], by simp [h]⟩)
          clear hg hB h35
          rcases hor with e1 | ⟨e1, e2⟩ | ⟨e1, e2, e3⟩
          all_goals
            go_wp2
            go_roundw
            case rel => exact ⟨j + 1, by omega, by omega, by go_num, HE.out, by first | rfl | trivial⟩
            case measure => simp [intOf]; omega
        · have HE := Lib.hid (hsk.out.trans (skip_stays hjl (by rw [hg]; exact h35) (by rw [hg]; simpa using hB)))
          have hn : b.toNat ≠ 32 ∧ b.toNat ≠ 9 ∧ b.toNat ≠ 10 := by
            refine ⟨fun h => hB ?_, fun h => hB ?_, fun h => hB ?_⟩ <;> simp [isB, h]
          have e1 : ((b.toNat : Int) == 32) = false := by simp; omega
          have e2 : ((b.toNat : Int) == 9) = false := by simp; omega
          have e3 : ((b.toNat : Int) == 10) = false := by simp; omega
          clear hg hB h35 hn
          go_wp2
          go_ret
          exact ⟨⟨j, hj1, hj2, HE.out, rfl⟩, by first | rfl | trivial⟩
    · obtain rfl : j = s.size := by omega
      have HE := Lib.hid (show skip ((bsOf s).drop i) = (bsOf s).drop s.size by
        rw [hsk.out, List.drop_eq_nil_of_le (by rw [HLEN.out]; exact Nat.le_refl _)]
        rfl)
      go_wp2
      go_ret
      exact ⟨⟨s.size, hj1, Nat.le_refl _, HE.out, rfl⟩, by first | rfl | trivial⟩
end Go.Proofs.YtiejhgdjkfhmoaaDoor

namespace Go.Proofs.YtiejhgdjkfhmoaaDoor
open Go Go.RowKit Go.Proofs Go.Proofs.YtiejhgdjkfhmoaaDoor.LX

theorem val_take_le (l : List UInt8) (j : Nat) : val (l.take j) ≤ val l := by
  have h := fold_ge (l.drop j) (val (l.take j))
  have e : (l.drop j).foldl (fun n c => 10 * n + (c.toNat - 48)) (val (l.take j)) = val l := by
    unfold val
    rw [← List.foldl_append, List.take_append_drop]
  rw [e] at h
  exact h
theorem val_step (l : List UInt8) {j : Nat} (h : j < l.length) : val (l.take (j + 1)) = 10 * val (l.take j) + ((l.getD j 0).toNat - 48) := by
  rw [List.take_add_one, List.getElem?_eq_getElem h]
  show val (l.take j ++ [l[j]]) = _
  rw [val_snoc, List.getD_eq_getElem?_getD, List.getElem?_eq_getElem h]
  rfl
set_option maxRecDepth 100000 in
set_option maxHeartbeats 4000000 in
theorem refValue_any (s : ByteArray) (hs : s.size ≤ 1000000000) (hd : ∀ c ∈ bsOf s, isD c = true) (w : World) :
    Calls Tryd.prog 29 #[.string s] w fun e w' => e = .returned (.int .i64 (if 2147483647 < val (bsOf s) then -1 else (val (bsOf s) : Int))) ∧ w' = w := by
  have HLEN := Lib.hid (bs_len s)
  have HD := Lib.hid hd
  obtain ⟨r, hr⟩ : ∃ r : Int, (if 2147483647 < val (bsOf s) then -1 else (val (bsOf s) : Int)) = r := ⟨_, rfl⟩
  rw [hr]
  have HR := Lib.hid hr
  clear hd hr
  go_enter Tryd.func29, Tryd.ntmps29
  go_wp2
  go_loopw [3, 4] (fun v x V => ∃ j : Nat, j ≤ s.size ∧ x = .int .i64 (j : Int) ∧ v = .int .i64 ((val ((bsOf s).take j) : Nat) : Int) ∧ val ((bsOf s).take j) ≤ 2147483647 ∧ V = w) (fun _ x _ => s.size - (intOf x).toNat)
  case atStart => exact ⟨0, Nat.zero_le _, rfl, rfl, by simp [val], rfl⟩
  case round =>
    obtain ⟨j, hj, rfl, rfl, hle, hw⟩ := hrel
    rw [hw]
    clear hw
    by_cases hlt : j < s.size
    · obtain ⟨b, hb⟩ : ∃ b : UInt8, s[j]'hlt = b := ⟨_, rfl⟩
      have hg := bs_getD s hlt
      rw [hb] at hg
      have hbl := b.toNat_lt
      have hjl : j < (bsOf s).length := by rw [HLEN.out]; exact hlt
      have hbd : isD b = true := HD.out b (by rw [← hg, List.getD_eq_getElem?_getD, List.getElem?_eq_getElem hjl]; exact List.getElem_mem hjl)
      simp only [isD, Bool.and_eq_true, decide_eq_true_eq] at hbd
      have hst := val_step (bsOf s) hjl
      rw [hg] at hst
      have htl := val_take_le (bsOf s) (j + 1)
      obtain ⟨v, hv⟩ : ∃ v, val ((bsOf s).take j) = v := ⟨_, rfl⟩
      obtain ⟨u, hu⟩ : ∃ u, val ((bsOf s).take (j + 1)) = u := ⟨_, rfl⟩
      rw [hv] at hle hst ⊢
      rw [hu] at hst htl
      have HU := Lib.hid hu
      have HST := Lib.hid hst
      have hi1 : (0 : Int) ≤ (b.toNat : Int) := by omega
      have hsum : 10 * (v : Int) + (b.toNat : Int) - 48 = (u : Int) := by omega
      clear hg hu hv hst
      by_cases hbig : 2147483647 < u
      · have hT := Lib.hid (show r = -1 by rw [← HR.out, if_pos (by omega)])
        have g1 : decide ((2147483647 : Int) < (u : Int)) = true := decide_eq_true (by omega)
        clear htl
        go_wp2
        go_ret
        exact ⟨by rw [hT.out]; rfl, by first | rfl | trivial⟩
      · have g1 : decide ((2147483647 : Int) < (u : Int)) = false := decide_eq_false (by omega)
        clear htl
        go_wp2
        go_roundw
        case rel => exact ⟨j + 1, by omega, by go_num, by rw [HU.out], by rw [HU.out]; omega, by first | rfl | trivial⟩
        case measure => simp [intOf]; omega
    · obtain rfl : j = s.size := by omega
      rw [List.take_of_length_le (by rw [HLEN.out]; exact Nat.le_refl _)] at hle ⊢
      have hT := Lib.hid (show r = (val (bsOf s) : Int) by rw [← HR.out, if_neg (by omega)])
      go_wp2
      go_ret
      exact ⟨by rw [hT.out]; rfl, by first | rfl | trivial⟩
end Go.Proofs.YtiejhgdjkfhmoaaDoor

namespace Go.Proofs.YtiejhgdjkfhmoaaDoor
open Go Go.RowKit Go.Proofs Go.Proofs.YtiejhgdjkfhmoaaDoor.LX

theorem str_eq (x y : ByteArray) : (x.toList == y.toList) = decide (x = y) := by
  rw [Bool.eq_iff_iff, beq_iff_eq, decide_eq_true_eq, Lib.toList_data, Lib.toList_data]
  constructor
  · intro h
    apply ByteArray.ext
    exact Array.toList_inj.1 h
  · rintro rfl; rfl
def hasS (ss : List ByteArray) (y : ByteArray) : Bool := ss.any fun x => decide (x = y)
theorem hasS_iff (ss : List ByteArray) (y : ByteArray) : hasS ss y = true ↔ y ∈ ss := by
  unfold hasS
  rw [List.any_eq_true]
  constructor
  · rintro ⟨x, hx, e⟩
    rw [decide_eq_true_eq] at e
    exact e ▸ hx
  · exact fun h => ⟨y, h, by simp⟩
/-- The strings ss lie at block g. -/
def Strs (W : World) (g : Nat) (ss : List ByteArray) : Prop := ∀ j, j < ss.length → W.cell? ⟨g, j, none⟩ = some (.string (ss.getD j ByteArray.empty))
theorem strs_lit (w : World) (ss : List ByteArray) (cs : Array Value) (t : TypeId) (h : cs = (ss.map Value.string).toArray) : Strs (w.alloc (.cells cs t)) w.heap.size ss := by
  intro j hj
  rw [cell_of_row _ _ j cs t (0, 0) (World.alloc_heap_new w _), h]
  simp [List.getElem?_eq_getElem hj, List.getD_eq_getElem?_getD]
set_option maxRecDepth 100000 in
set_option maxHeartbeats 4000000 in
theorem refHas_any (g c n : Nat) (ss : List ByteArray) (y : ByteArray) (w : World) (hn : ss.length = n) (hn2 : n ≤ 1000) (hS : Strs w g ss) :
    Calls Tryd.prog 30 #[.slice (some ⟨g, 0, none⟩) n c, .string y] w fun e w' => e = .returned (.bool (hasS ss y)) ∧ w' = w := by
  have HS := Lib.hid hS
  have HN := Lib.hid hn
  clear hS hn
  obtain ⟨r, hr⟩ : ∃ r, hasS ss y = r := ⟨_, rfl⟩
  rw [hr]
  have HR := Lib.hid hr
  clear hr
  go_enter Tryd.func30, Tryd.ntmps30
  go_wp2
  go_loopw [5] (fun i V => ∃ j : Nat, j ≤ n ∧ i = .int .i64 (j : Int) ∧ Hid (y ∉ ss.take j) ∧ V = w) (fun i _ => n - (intOf i).toNat)
  case atStart => exact ⟨0, Nat.zero_le _, rfl, (show y ∉ ss.take 0 by simp), rfl⟩
  case round =>
    obtain ⟨j, hj, rfl, hno, hw⟩ := hrel
    rw [hw]
    clear hw
    by_cases hlt : j < n
    · have hc := HS.out j (by rw [HN.out]; exact hlt)
      obtain ⟨x, hx⟩ : ∃ x, ss.getD j ByteArray.empty = x := ⟨_, rfl⟩
      rw [hx] at hc
      have hxl : ss[j]? = some x := by
        have h1 : j < ss.length := by rw [HN.out]; exact hlt
        rw [List.getD_eq_getElem?_getD, List.getElem?_eq_getElem h1] at hx
        rw [List.getElem?_eq_getElem h1]
        exact congrArg some hx
      by_cases he : x = y
      · have hb : (x.toList == y.toList) = true := by rw [str_eq]; simp [he]
        have HT := Lib.hid (show r = true by rw [← HR.out]; exact (hasS_iff _ _).2 (he ▸ List.mem_of_getElem? hxl))
        clear hx hxl he
        go_wp2
        go_ret
        exact ⟨by rw [HT.out]; rfl, by first | rfl | trivial⟩
      · have hb : (x.toList == y.toList) = false := by rw [str_eq]; simp [he]
        have HT := Lib.hid (show y ∉ ss.take (j + 1) by
          rw [List.take_add_one, hxl, List.mem_append]
          rintro (h | h)
          · exact hno.out h
          · simp at h
            exact he h.symm)
        clear hx hxl he
        go_wp2
        go_roundw
        case rel => exact ⟨j + 1, by omega, by go_num, HT.out, by first | rfl | trivial⟩
        case measure => simp [intOf]; omega
    · obtain rfl : j = n := by omega
      have HT := Lib.hid (show r = false by
        rw [← HR.out]
        rw [Bool.eq_false_iff]
        intro hh
        have := hno.out
        rw [List.take_of_length_le (by rw [HN.out]; exact Nat.le_refl _)] at this
        exact this ((hasS_iff _ _).1 hh))
      go_wp2
      go_ret
      exact ⟨by rw [HT.out]; rfl, by first | rfl | trivial⟩
end Go.Proofs.YtiejhgdjkfhmoaaDoor

namespace Go.Proofs.YtiejhgdjkfhmoaaDoor
open Go Go.RowKit Go.Proofs Go.Proofs.YtiejhgdjkfhmoaaDoor.LX

def six : List ByteArray := [⟨#[124, 124]⟩, ⟨#[38, 38]⟩, ⟨#[60, 61]⟩, ⟨#[62, 61]⟩, ⟨#[61, 61]⟩, ⟨#[33, 61]⟩]
def sixteen : List ByteArray := [⟨#[123]⟩, ⟨#[125]⟩, ⟨#[91]⟩, ⟨#[93]⟩, ⟨#[40]⟩, ⟨#[41]⟩, ⟨#[61]⟩, ⟨#[59]⟩, ⟨#[44]⟩, ⟨#[60]⟩, ⟨#[62]⟩, ⟨#[43]⟩, ⟨#[45]⟩, ⟨#[42]⟩, ⟨#[47]⟩, ⟨#[33]⟩]
theorem ba_iff (a b : ByteArray) : a = b ↔ a.data.toList = b.data.toList := by
  constructor
  · rintro rfl; rfl
  · intro h
    apply ByteArray.ext
    exact Array.toList_inj.1 h
theorem u8_iff (c : UInt8) (n : UInt8) : n = c ↔ c.toNat = n.toNat := ⟨fun h => by rw [h], fun h => (UInt8.toNat_inj.1 h).symm⟩
theorem six_two (c d : UInt8) (u : List UInt8) (b : ByteArray) (hb : b.data.toList = [c, d]) : hasS six b = isTwo c (d :: u) := by
  rw [Bool.eq_iff_iff]
  unfold hasS six
  simp only [List.any_cons, List.any_nil, Bool.or_false, Bool.or_eq_true, decide_eq_true_eq, ba_iff, hb, isTwo, Bool.and_eq_true, List.cons.injEq, and_true, u8_iff]
  simp only [UInt8.reduceToNat]
  omega
theorem six_one (c : UInt8) (b : ByteArray) (hb : b.data.toList = [c]) : hasS six b = false := by
  rw [Bool.eq_false_iff]
  intro h
  unfold hasS six at h
  simp [ba_iff, hb] at h
theorem sixteen_one (c : UInt8) (b : ByteArray) (hb : b.data.toList = [c]) : hasS sixteen b = isOne c := by
  rw [Bool.eq_iff_iff]
  unfold hasS sixteen isOne
  simp only [List.any_cons, List.any_nil, Bool.or_false, Bool.or_eq_true, decide_eq_true_eq, ba_iff, hb, List.cons.injEq, and_true, u8_iff, List.contains_cons, List.contains_nil, beq_iff_eq]
  simp only [UInt8.reduceToNat]
end Go.Proofs.YtiejhgdjkfhmoaaDoor

namespace Go.Proofs.YtiejhgdjkfhmoaaDoor
open Go Go.RowKit Go.Proofs Go.Proofs.YtiejhgdjkfhmoaaDoor.LX

set_option maxRecDepth 100000 in
set_option maxHeartbeats 400000 in
theorem same_eq (k a n : Nat) (d : ByteArray) (w : World) :
    Calls Tryd.prog 19 #[.agg #[.int .i64 (k : Int), .int .i64 (a : Int), .string d, .int .i64 (n : Int)], .agg #[.int .i64 (k : Int), .int .i64 (a : Int), .string d, .int .i64 (n : Int)]] w fun e w' => e = .returned (.bool true) ∧ Below w.heap.size w w' := by
  obtain ⟨w1, hw1⟩ : ∃ V, w.alloc (.cells #[.int .i64 (k : Int), .int .i64 (a : Int), .string d, .int .i64 (n : Int)] 36) = V := ⟨_, rfl⟩
  obtain ⟨w2, hw2⟩ : ∃ V, w1.alloc (.cells #[.int .i64 (k : Int), .int .i64 (a : Int), .string d, .int .i64 (n : Int)] 49) = V := ⟨_, rfl⟩
  have h2 : w2.heap[w1.heap.size]? = some (.cells #[.int .i64 (k : Int), .int .i64 (a : Int), .string d, .int .i64 (n : Int)] 49 (0, 0)) := by rw [← hw2]; exact World.alloc_heap_new w1 _
  have h1 : w1.heap[w.heap.size]? = some (.cells #[.int .i64 (k : Int), .int .i64 (a : Int), .string d, .int .i64 (n : Int)] 36 (0, 0)) := by rw [← hw1]; exact World.alloc_heap_new w _
  have h12 : w2.heap[w.heap.size]? = some (.cells #[.int .i64 (k : Int), .int .i64 (a : Int), .string d, .int .i64 (n : Int)] 36 (0, 0)) := by rw [← hw2]; exact (Below.heap_alloc _ _ _ (heap_lt h1)).trans h1
  have hB : Below w.heap.size w w2 := by
    have hb1 : Below w.heap.size w w1 := by rw [← hw1]; exact (Below.refl _ w).alloc (Nat.le_refl _) _
    rw [← hw2]; exact hb1.alloc (Nat.le_of_lt (heap_lt h1)) _
  obtain ⟨a0, a1, a2, a3, af⟩ := tok_cells h2
  obtain ⟨b0, b1, b2, b3, bf⟩ := tok_cells h12
  have HB := Lib.hid hB
  clear h1 h2 h12 hB
  have hkk : ((k : Int) == (k : Int)) = true := by simp
  have haa : ((a : Int) == (a : Int)) = true := by simp
  have hnn : ((n : Int) == (n : Int)) = true := by simp
  have hdd : (d.toList == d.toList) = true := by simp
  go_enter Tryd.func19, Tryd.ntmps19
  go_wp2
  go_ret
  exact ⟨rfl, HB.out⟩
end Go.Proofs.YtiejhgdjkfhmoaaDoor
