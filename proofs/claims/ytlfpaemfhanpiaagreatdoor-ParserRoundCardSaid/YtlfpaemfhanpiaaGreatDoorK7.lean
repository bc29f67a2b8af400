/-
  The scanner: what classAt, lineEnd and skipSpace return. Conditions: the source is of a length of which we speak.
  The scanner's wordAt, numberAt, symbolAt, tokenAt: the token at a place of the source. Condition: the source is of a length of which we speak; strconv.ErrRange holds an error.
-/
import Derived.Test.YtlfpaemfhanpiaaGreatDoorK5
import Derived.Test.YtlfpaemfhanpiaaGreatDoorK6
import Derived.Test.YtlfpaemfhanpiaaGreatDoorK1
import Derived.BigQuiet
import Derived.Lib.AtoiAll

namespace Go.Proofs.YtlfpaemfhanpiaaGreatDoor
open Go Go.RowKit Go.Proofs Go.Proofs.YtlfpaemfhanpiaaGreatDoor.LX

/-- A source's bytes. -/
abbrev bsOf (s : ByteArray) : List UInt8 := s.data.toList
theorem bs_len (s : ByteArray) : (bsOf s).length = s.size := by rw [Array.length_toList]; rfl
/-- The scanner of source s lies at block g. -/
def Scn (W : World) (g : Nat) (s : ByteArray) : Prop := W.heap[g]? = some (.cells (#[Value.string s] ++ tabC) 102 (0, 0))
theorem Scn.lt {W : World} {g : Nat} {s : ByteArray} (h : Scn W g s) : g < W.heap.size := heap_lt h
theorem Scn.keep {W W' : World} {g : Nat} {s : ByteArray} (h : Scn W g s) (hb : W'.heap[g]? = W.heap[g]?) : Scn W' g s := hb.trans h
theorem Scn.below {W W' : World} {B g : Nat} {s : ByteArray} (h : Scn W g s) (hb : Below B W W') (hg : g < B) : Scn W' g s := h.keep (hb.block g hg)
theorem Scn.src {W : World} {g : Nat} {s : ByteArray} (h : Scn W g s) : W.cell? ⟨g, 0, none⟩ = some (.string s) := by
  rw [cell_of_row W g 0 _ _ (0, 0) h, Array.getElem?_append_left (by simp)]
  rfl
theorem Scn.at_ {W : World} {g x : Nat} {s : ByteArray} (h : Scn W g s) (hx : x < 256) : W.cell? ⟨g, 1 + x, none⟩ = some (.int .u8 ((clsN x : Nat) : Int)) := by
  rw [cell_of_row W g (1 + x) _ _ (0, 0) h, Array.getElem?_append_right (by simp)]
  simp only [List.size_toArray, List.length_cons, List.length_nil, Nat.add_sub_cancel_left, Nat.zero_add]
  exact tabC_at hx
/-- The class at a place of the source; nothing at its end. -/
def clsAt (s : ByteArray) (i : Nat) : Nat := if i = s.size then 0 else clsN ((bsOf s).getD i 0).toNat

set_option maxHeartbeats 2000000 in
theorem classAt_any (W : World) (g : Nat) (s : ByteArray) (i : Nat) (h : Scn W g s) (hi : i ≤ s.size) :
    Calls Tryz.prog 95 #[.pointer (some ⟨g, 0, none⟩), .int .i64 (i : Int)] W fun e w' => e = .returned (.int .u8 ((clsAt s i : Nat) : Int)) ∧ ∃ q, w' = W.drewN q := by
  have hsrc := h.src
  by_cases he : i = s.size
  · subst he
    have hr := Lib.hid (show clsAt s s.size = 0 by simp [clsAt])
    go_enter Tryz.func95, Tryz.ntmps95
    go_wp2
    go_ret
    exact ⟨by rw [hr.out]; rfl, 0, rfl⟩
  · have hlt : i < s.size := by omega
    obtain ⟨b, hb⟩ : ∃ b : UInt8, s[i]'hlt = b := ⟨_, rfl⟩
    have hbl := b.toNat_lt
    have hcell := h.at_ (x := b.toNat) (by omega)
    have hr := Lib.hid (show clsAt s i = clsN b.toNat by
      unfold clsAt
      rw [if_neg he, List.getD_eq_getElem?_getD, Lib.data_getElem? s i hlt, hb]
      rfl)
    have hb3 : (b.toNat : Int) < 256 := by omega
    have hne : ((i : Int) == (s.size : Int)) = false := by simp; omega
    obtain ⟨c, hc⟩ : ∃ c, clsN b.toNat = c := ⟨_, rfl⟩
    rw [hc] at hcell hr
    clear he hc
    go_enter Tryz.func95, Tryz.ntmps95
    go_wp2
    go_quiet (fail)
    go_wp2
    go_ret
    exact ⟨by rw [hr.out]; rfl, _, rfl⟩
theorem clsN_iff (c : Nat) : (clsN c = 1 ↔ c = 32 ∨ c = 9 ∨ c = 10) ∧ (clsN c = 2 ↔ c = 35) ∧ (clsN c = 3 ↔ 97 ≤ c ∧ c ≤ 122) ∧ (clsN c = 4 ↔ 48 ≤ c ∧ c ≤ 57) ∧ (clsN c = 6 ↔ c = 60 ∨ c = 62 ∨ c = 61 ∨ c = 33) ∧ (clsN c = 7 ↔ c = 124 ∨ c = 38) := by
  unfold clsN
  repeat' split
  all_goals omega
theorem clsAt_lt {s : ByteArray} {i : Nat} (h : i < s.size) : clsAt s i = clsN ((bsOf s).getD i 0).toNat := by
  unfold clsAt
  rw [if_neg (by omega)]
theorem clsAt_end (s : ByteArray) : clsAt s s.size = 0 := by simp [clsAt]
theorem bs_extract (s : ByteArray) (a b : Nat) : bsOf (s.extract a b) = ((bsOf s).drop a).take (b - a) := by
  show (s.extract a b).data.toList = _
  rw [ByteArray.data_extract, Array.toList_extract]
theorem skipT_index : ∀ l : List UInt8, (Lib.indexByte l 10 = -1 → skipS true l = []) ∧ (∀ k : Nat, Lib.indexByte l 10 = (k : Int) → k < l.length ∧ skipS true l = skip (l.drop k) ∧ (∀ c t, l = c :: t → c.toNat ≠ 10 → 0 < k))
  | [] => ⟨fun _ => rfl, fun k h => by simp [Lib.indexByte] at h⟩
  | b :: t => by
    obtain ⟨i1, i2⟩ := skipT_index t
    have hge := Lib.indexByte_ge t 10
    by_cases hb : b = 10
    · subst hb
      refine ⟨fun h => by simp [Lib.indexByte] at h, fun k h => ?_⟩
      have : k = 0 := by simp [Lib.indexByte] at h; omega
      subst this
      refine ⟨by simp, by simp [skip, skipS, isB], fun c t e hc => ?_⟩
      injection e with e1 e2
      subst e1
      exact absurd rfl hc
    · have hb1 : (b == 10) = false := by simp [hb]
      have hb2 : (b.toNat != 10) = true := by
        rw [bne_iff_ne]
        intro h
        exact hb (UInt8.toNat_inj.1 h)
      have hs : skipS true (b :: t) = skipS true t := by rw [skipS, hb2]
      have hi : Lib.indexByte (b :: t) 10 = if Lib.indexByte t 10 == -1 then -1 else Lib.indexByte t 10 + 1 := by rw [Lib.indexByte, hb1]; rfl
      by_cases h1 : Lib.indexByte t 10 = -1
      · rw [hi, h1]
        exact ⟨fun _ => by rw [hs]; exact i1 h1, fun k h => by simp at h⟩
      · rw [hi, if_neg (by simpa using h1)]
        refine ⟨fun h => by omega, fun k h => ?_⟩
        obtain ⟨m, hm⟩ := Int.eq_ofNat_of_zero_le (show 0 ≤ Lib.indexByte t 10 by omega)
        obtain ⟨j1, j2, _⟩ := i2 m hm
        have : k = m + 1 := by omega
        subst this
        exact ⟨by simp; omega, by rw [hs, j2]; rfl, fun _ _ _ _ => by omega⟩
set_option maxHeartbeats 2000000 in
theorem lineEnd_any (W : World) (g : Nat) (s : ByteArray) (i : Nat) (h : Scn W g s) (hi : i < s.size) (hc : ((bsOf s).getD i 0).toNat = 35) (hs : s.size ≤ 1000000000) :
    Calls Tryz.prog 96 #[.pointer (some ⟨g, 0, none⟩), .int .i64 (i : Int)] W fun e w' => (∃ k : Nat, i < k ∧ k ≤ s.size ∧ skip ((bsOf s).drop i) = skip ((bsOf s).drop k) ∧ e = .returned (.int .i64 (k : Int))) ∧ w' = W := by
  have hsrc := h.src
  have hlen := bs_len s
  have hix := Tryz.strings_IndexByte (s.extract i s.size) 10 W
  have he : (s.extract i s.size).data.toList = (bsOf s).drop i := by
    have h1 := bs_extract s i s.size
    rw [List.take_of_length_le (by rw [List.length_drop, hlen]; exact Nat.le_refl _)] at h1
    exact h1
  rw [he, show ((10 : Int).toNat.toUInt8 : UInt8) = 10 by rfl] at hix
  obtain ⟨k1, k2⟩ := skipT_index ((bsOf s).drop i)
  have hge := Lib.indexByte_ge ((bsOf s).drop i) 10
  have hcm := skip_comment (S := bsOf s) (i := i) (by rw [hlen]; exact hi) hc
  have hdc := drop_cons (S := bsOf s) (i := i) (by rw [hlen]; exact hi)
  have HIX := Lib.hid hix
  by_cases hm : Lib.indexByte ((bsOf s).drop i) 10 = -1
  · rw [hm] at HIX
    have HR := Lib.hid (show skip ((bsOf s).drop i) = skip ((bsOf s).drop s.size) by
      rw [hcm, k1 hm, List.drop_eq_nil_of_le (by rw [hlen]; exact Nat.le_refl _)]
      rfl)
    clear hix he k1 k2 hge hcm hdc hm hc hlen
    go_enter Tryz.func96, Tryz.ntmps96
    go_wp2_with (go_at_call 123
                 refine HIX.out.mono ?_
                 rintro e w2 ⟨rfl, rfl⟩)
    go_ret
    exact ⟨⟨s.size, hi, Nat.le_refl _, HR.out, rfl⟩, by first | rfl | trivial⟩
  · obtain ⟨m, hmm⟩ := Int.eq_ofNat_of_zero_le (show 0 ≤ Lib.indexByte ((bsOf s).drop i) 10 by omega)
    rw [hmm] at HIX
    obtain ⟨j1, j2, j3⟩ := k2 m hmm
    have j4 := j3 _ _ hdc (by omega)
    rw [List.length_drop, hlen] at j1
    have HR := Lib.hid (show skip ((bsOf s).drop i) = skip ((bsOf s).drop (i + m)) by rw [hcm, j2, List.drop_drop])
    clear hix he k1 k2 hge hcm hdc hm hc hlen hmm j2 j3
    go_enter Tryz.func96, Tryz.ntmps96
    go_wp2_with (go_at_call 123
                 refine HIX.out.mono ?_
                 rintro e w2 ⟨rfl, rfl⟩)
    go_ret
    exact ⟨⟨i + m, by omega, by omega, HR.out, by first | rfl | simp⟩, by first | rfl | trivial⟩
set_option maxHeartbeats 2000000 in
theorem skipSpace_any (W : World) (g : Nat) (s : ByteArray) (i : Nat) (h : Scn W g s) (hi : i ≤ s.size) (hs : s.size ≤ 1000000000) :
    Calls Tryz.prog 74 #[.pointer (some ⟨g, 0, none⟩), .int .i64 (i : Int)] W fun e w' => (∃ k : Nat, i ≤ k ∧ k ≤ s.size ∧ skip ((bsOf s).drop i) = (bsOf s).drop k ∧ e = .returned (.int .i64 (k : Int))) ∧ Below W.heap.size W w' := by
  have hlen := bs_len s
  have HS := Lib.hid h
  have HLEN := Lib.hid hlen
  clear h hlen
  go_enter Tryz.func74, Tryz.ntmps74
  go_wp2
  go_loopw [1] (fun x V => ∃ j : Nat, i ≤ j ∧ j ≤ s.size ∧ x = .int .i64 (j : Int) ∧ Hid (skip ((bsOf s).drop i) = skip ((bsOf s).drop j)) ∧ Below W.heap.size W V) (fun x _ => s.size - (intOf x).toNat)
  case atStart => exact ⟨i, Nat.le_refl _, hi, rfl, (show _ = _ from rfl), Below.refl _ _⟩
  case round =>
    obtain ⟨j, hj1, hj2, rfl, hsk, hB⟩ := hrel
    obtain ⟨wo, hwo⟩ : ∃ V, V = wr := ⟨_, rfl⟩
    subst hwo
    have hsn : Scn wo g s := HS.out.below hB HS.out.lt
    have HCA := Lib.hid (classAt_any wo g s j hsn hj2)
    have HLE := Lib.hid (fun V (hV : Scn V g s) h1 h2 => lineEnd_any V g s j hV h1 h2 hs)
    have hor : (j < s.size ∧ ((bsOf s).getD j 0).toNat = 35 ∧ clsAt s j = 2) ∨ (j < s.size ∧ isB ((bsOf s).getD j 0) = true ∧ clsAt s j = 1) ∨ (clsAt s j ≠ 1 ∧ clsAt s j ≠ 2 ∧ skip ((bsOf s).drop j) = (bsOf s).drop j) := by
      by_cases hlt : j < s.size
      · rw [clsAt_lt hlt]
        obtain ⟨b, hb⟩ : ∃ b, (bsOf s).getD j 0 = b := ⟨_, rfl⟩
        have hst := skip_stays (S := bsOf s) (i := j) (by rw [HLEN.out]; exact hlt)
        rw [hb] at hst ⊢
        obtain ⟨c1, c2, _⟩ := clsN_iff b.toNat
        by_cases h35 : b.toNat = 35
        · exact .inl ⟨hlt, h35, c2.2 h35⟩
        · by_cases hB : isB b = true
          · refine .inr (.inl ⟨hlt, hB, c1.2 ?_⟩)
            simp only [isB, Bool.or_eq_true, decide_eq_true_eq] at hB
            omega
          · refine .inr (.inr ⟨fun e => hB ?_, fun e => h35 (c2.1 e), hst h35 (by simpa using hB)⟩)
            have := c1.1 e
            simp only [isB, Bool.or_eq_true, decide_eq_true_eq]
            omega
      · obtain rfl : j = s.size := by omega
        rw [clsAt_end, List.drop_eq_nil_of_le (by rw [HLEN.out]; exact Nat.le_refl _)]
        exact .inr (.inr ⟨by decide, by decide, rfl⟩)
    obtain ⟨c, hc⟩ : ∃ c, clsAt s j = c := ⟨_, rfl⟩
    rw [hc] at HCA hor
    have HSN := Lib.hid hsn
    clear hc hsn
    rcases hor with ⟨hlt, hb, rfl⟩ | ⟨hlt, hb, rfl⟩ | ⟨hc1, hc2, hst⟩
    · have HC : Hid (Calls Tryz.prog 95 #[.pointer (some ⟨g, 0, none⟩), .int .i64 (j : Int)] wo fun e w' => e = .returned (.int .u8 2) ∧ ∃ q, w' = wo.drewN q) := HCA
      clear HCA
      go_wp2_with (first
        | (go_at_call 95
           refine HC.out.mono ?_
           rintro e w2 ⟨rfl, q, hq⟩
           subst hq)
        | (go_at_call 96
           refine (HLE.out (wo.drewN _) (HSN.out.keep rfl) hlt hb).mono ?_
           rintro e w3 ⟨⟨k, hk1, hk2, hk3, rfl⟩, rfl⟩
           have HK3 := Lib.hid (hsk.out.trans hk3)
           clear hk3))
      go_roundw
      case rel => exact ⟨k, by omega, hk2, rfl, HK3.out, below_drewN' hB _⟩
      case measure => simp [intOf]; omega
    · have HC : Hid (Calls Tryz.prog 95 #[.pointer (some ⟨g, 0, none⟩), .int .i64 (j : Int)] wo fun e w' => e = .returned (.int .u8 1) ∧ ∃ q, w' = wo.drewN q) := HCA
      have HK := Lib.hid (hsk.out.trans (skip_blank (by rw [HLEN.out]; exact hlt) hb))
      clear HCA hb
      go_wp2_with (go_at_call 95
                   refine HC.out.mono ?_
                   rintro e w2 ⟨rfl, q, hq⟩
                   subst hq)
      go_roundw
      case rel => exact ⟨j + 1, by omega, by omega, by go_num, HK.out, below_drewN' hB _⟩
      case measure => simp [intOf]; omega
    · have h1 : ((c : Int) == 1) = false := by simp; omega
      have h2 : ((c : Int) == 2) = false := by simp; omega
      have HST := Lib.hid (hsk.out.trans hst)
      clear hst hc1 hc2
      go_wp2_with (go_at_call 95
                   refine HCA.out.mono ?_
                   rintro e w2 ⟨rfl, q, hq⟩
                   subst hq)
      go_ret
      exact ⟨⟨j, hj1, hj2, HST.out, rfl⟩, below_drewN' hB _⟩
end Go.Proofs.YtlfpaemfhanpiaaGreatDoor

namespace Go.Proofs.YtlfpaemfhanpiaaGreatDoor
open Go Go.RowKit Go.Proofs Go.Proofs.YtlfpaemfhanpiaaGreatDoor.LX

/-- The zero token. -/
def tok0 : Array Value := #[.int .i64 0, .int .i64 0, .string ⟨#[]⟩, .int .i64 0]
/-- A token as the program's value. -/
def tokV (s : ByteArray) (i : Nat) : Res → Value
  | .bad _ => .agg #[.int .i64 0, .int .i64 (i : Int), .string ⟨#[]⟩, .int .i64 0]
  | .good k n v => .agg #[.int .i64 (k : Int), .int .i64 (i : Int), .string (s.extract i (i + n)), .int .i64 (v : Int)]
def tokC : Res → Nat
  | .bad c => c
  | .good _ _ _ => 0
def tokR (s : ByteArray) (i : Nat) (r : Res) : Value := .tuple #[tokV s i r, .int .i64 ((tokC r : Nat) : Int)]
theorem tok_cells {V : World} {b : Nat} {a0 a1 a2 a3 : Value} {t : TypeId} (h : V.heap[b]? = some (.cells #[a0, a1, a2, a3] t (0, 0))) : V.cell? ⟨b, 0, none⟩ = some a0 ∧ V.cell? ⟨b, 1, none⟩ = some a1 ∧ V.cell? ⟨b, 2, none⟩ = some a2 ∧ V.cell? ⟨b, 3, none⟩ = some a3 ∧ (∀ i, V.frozen? ⟨b, i, none⟩ = false) :=
  ⟨cell_of_row V b 0 _ _ (0, 0) h, cell_of_row V b 1 _ _ (0, 0) h, cell_of_row V b 2 _ _ (0, 0) h, cell_of_row V b 3 _ _ (0, 0) h, fun i => by simp [World.frozen?, h]⟩
theorem tok_set {V : World} {b : Nat} {a0 a1 a2 a3 : Value} {t : TypeId} (h : V.heap[b]? = some (.cells #[a0, a1, a2, a3] t (0, 0))) (c0 c1 c2 c3 : Value) : ((((V.setCell ⟨b, 0, none⟩ c0).setCell ⟨b, 1, none⟩ c1).setCell ⟨b, 2, none⟩ c2).setCell ⟨b, 3, none⟩ c3).heap[b]? = some (.cells #[c0, c1, c2, c3] t (0, 0)) :=
  row_set (row_set (row_set (row_set h c0) c1) c2) c3
theorem tok_below {B b : Nat} {W V : World} (h : Below B W V) (hb : B ≤ b) (c0 c1 c2 c3 : Value) : Below B W ((((V.setCell ⟨b, 0, none⟩ c0).setCell ⟨b, 1, none⟩ c1).setCell ⟨b, 2, none⟩ c2).setCell ⟨b, 3, none⟩ c3) :=
  (((h.setCell (p := ⟨b, 0, none⟩) hb c0).setCell (p := ⟨b, 1, none⟩) hb c1).setCell (p := ⟨b, 2, none⟩) hb c2).setCell (p := ⟨b, 3, none⟩) hb c3
theorem info_tok : (Tryz.prog.info? 86).map (·.size) = some 4 := by kernel_rfl
theorem tok_ret {fn : Func} {p u : Tmp} (hf : fn.results = #[.cell p 86, .tmp u]) {V : World} {b : Nat} {c0 c1 c2 c3 x : Value} (tmps : Array Value) (hp : tmps.getD p undef = .pointer (some ⟨b, 0, none⟩)) (hu : tmps.getD u undef = x) (h : V.heap[b]? = some (.cells #[c0, c1, c2, c3] 86 (0, 0))) :
    (results fn tmps).run Tryz.prog V = .ok (.tuple #[.agg #[c0, c1, c2, c3], x]) V := by
  rw [results_cell_tmp hf, hp, hu]
  have := run_loadVar_row (P := Tryz.prog) V b 86 86 #[c0, c1, c2, c3] (0, 0) _ h Tryz.underlying86 rfl info_tok
  simp [asAddr, Result.andThen, this]
theorem takeWhile_more {p : UInt8 → Bool} {S : List UInt8} {i e : Nat} (hi : i ≤ e) (hall : ∀ j, i ≤ j → j < e → p (S.getD j 0) = true) (he : e ≤ S.length) (hend : e < S.length → p (S.getD e 0) = false) : ((S.drop i).takeWhile p).length = e - i := by
  obtain ⟨n, rfl⟩ : ∃ n, e = i + n := ⟨e - i, by omega⟩
  clear hi
  induction n generalizing i with
  | zero =>
    rw [Nat.add_zero] at he hend ⊢
    rcases Nat.lt_or_ge i S.length with h | h
    · rw [drop_cons h, List.takeWhile_cons_of_neg (by rw [hend h]; simp)]
      simp
    · rw [List.drop_eq_nil_of_le h]
      simp
  | succ n ih =>
    have h1 : i < S.length := by omega
    rw [drop_cons h1, List.takeWhile_cons_of_pos (hall i (Nat.le_refl _) (by omega)), List.length_cons, ih (fun j a b => hall j (by omega) (by omega)) (by omega) (by rw [show i + 1 + n = i + (n + 1) by omega]; exact hend)]
    omega
theorem isA_cls (s : ByteArray) {i : Nat} (h : i < s.size) : isA ((bsOf s).getD i 0) = (decide (clsAt s i = 3) || decide (clsAt s i = 4)) := by
  rw [clsAt_lt h]
  obtain ⟨_, _, c3, c4, _⟩ := clsN_iff ((bsOf s).getD i 0).toNat
  rw [Bool.eq_iff_iff]
  simp only [isA, isW, isD, Bool.or_eq_true, Bool.and_eq_true, decide_eq_true_eq, c3, c4]
theorem isD_cls (s : ByteArray) {i : Nat} (h : i < s.size) : isD ((bsOf s).getD i 0) = decide (clsAt s i = 4) := by
  rw [clsAt_lt h]
  obtain ⟨_, _, _, c4, _⟩ := clsN_iff ((bsOf s).getD i 0).toNat
  rw [Bool.eq_iff_iff]
  simp only [isD, Bool.and_eq_true, decide_eq_true_eq, c4]
theorem isW_cls (s : ByteArray) {i : Nat} (h : i < s.size) : isW ((bsOf s).getD i 0) = decide (clsAt s i = 3) := by
  rw [clsAt_lt h]
  obtain ⟨_, _, c3, _⟩ := clsN_iff ((bsOf s).getD i 0).toNat
  rw [Bool.eq_iff_iff]
  simp only [isW, Bool.and_eq_true, decide_eq_true_eq, c3]

set_option maxRecDepth 100000 in
set_option maxHeartbeats 4000000 in
theorem wordAt_any (W : World) (g : Nat) (s : ByteArray) (i : Nat) (h : Scn W g s) (hi : i < s.size) (hs : s.size ≤ 1000000000) (hw : isW ((bsOf s).getD i 0) = true) :
    Calls Tryz.prog 97 #[.pointer (some ⟨g, 0, none⟩), .int .i64 (i : Int)] W fun e w' => e = .returned (tokR s i (tok1 ((bsOf s).drop i))) ∧ Below W.heap.size W w' := by
  have hlen := bs_len s
  have HS := Lib.hid h
  have HLEN := Lib.hid hlen
  have htok : ∀ n, (((bsOf s).drop i).takeWhile isA).length = n → tok1 ((bsOf s).drop i) = if 10 < n then .bad 2 else .good 1 n 0 := by
    intro n hn
    rw [drop_cons (by rw [hlen]; exact hi)] at hn ⊢
    simp only [tok1, hw, if_true, hn]
  have HTOK := Lib.hid htok
  clear h hlen htok
  go_enter Tryz.func97, Tryz.ntmps97
  go_wp2
  go_loopw [6] (fun x V => ∃ j : Nat, i ≤ j ∧ j ≤ s.size ∧ x = .int .i64 (j : Int) ∧ Hid (∀ k, i ≤ k → k < j → isA ((bsOf s).getD k 0) = true) ∧ Below W.heap.size W V ∧ V.heap[W.heap.size]? = some (.cells tok0 86 (0, 0))) (fun x _ => s.size - (intOf x).toNat)
  case atStart => exact ⟨i, Nat.le_refl _, by omega, rfl, (show ∀ k, i ≤ k → k < i → _ from fun k a b => absurd a (by omega)), (Below.refl _ W).alloc (Nat.le_refl _) _, World.alloc_heap_new W _⟩
  case round =>
    obtain ⟨j, hj1, hj2, rfl, hall, hB, htk⟩ := hrel
    obtain ⟨wo, hwo⟩ : ∃ V, V = wr := ⟨_, rfl⟩
    subst hwo
    have hsn : Scn wo g s := HS.out.below hB HS.out.lt
    have HCA := Lib.hid (fun V (hV : Scn V g s) => classAt_any V g s j hV hj2)
    have hor : (j < s.size ∧ isA ((bsOf s).getD j 0) = true ∧ clsAt s j = 3) ∨ (j < s.size ∧ isA ((bsOf s).getD j 0) = true ∧ clsAt s j = 4) ∨ (clsAt s j ≠ 3 ∧ clsAt s j ≠ 4 ∧ (j < s.size → isA ((bsOf s).getD j 0) = false)) := by
      by_cases hlt : j < s.size
      · rw [isA_cls s hlt]
        by_cases h3 : clsAt s j = 3
        · exact .inl ⟨hlt, by simp [h3], h3⟩
        · by_cases h4 : clsAt s j = 4
          · exact .inr (.inl ⟨hlt, by simp [h4], h4⟩)
          · exact .inr (.inr ⟨h3, h4, fun _ => by simp [h3, h4]⟩)
      · obtain rfl : j = s.size := by omega
        rw [clsAt_end]
        exact .inr (.inr ⟨by decide, by decide, fun h => absurd h (by omega)⟩)
    obtain ⟨c, hc⟩ : ∃ c, clsAt s j = c := ⟨_, rfl⟩
    rw [hc] at HCA hor
    have HSN := Lib.hid hsn
    have HTK := Lib.hid htk
    clear hc hsn htk
    have hor2 : (j < s.size ∧ isA ((bsOf s).getD j 0) = true ∧ ((c : Int) == 3) = true) ∨ (j < s.size ∧ isA ((bsOf s).getD j 0) = true ∧ ((c : Int) == 3) = false ∧ ((c : Int) == 4) = true) ∨ (((c : Int) == 3) = false ∧ ((c : Int) == 4) = false ∧ (j < s.size → isA ((bsOf s).getD j 0) = false)) := by
      rcases hor with ⟨a, b, rfl⟩ | ⟨a, b, rfl⟩ | ⟨a, b, d⟩
      · exact .inl ⟨a, b, rfl⟩
      · exact .inr (.inl ⟨a, b, rfl, rfl⟩)
      · exact .inr (.inr ⟨by simp; omega, by simp; omega, d⟩)
    clear hor
    rcases hor2 with ⟨hlt, hb, h3⟩ | ⟨hlt, hb, h3, h4⟩ | ⟨h3, h4, hend⟩
    · have HN := Lib.hid (show ∀ k, i ≤ k → k < j + 1 → isA ((bsOf s).getD k 0) = true from fun k a b => by
        rcases Nat.lt_or_ge k j with h | h
        · exact hall.out k a h
        · rw [show k = j by omega]; exact hb)
      clear hb
      go_wp2_with (go_at_call 95
                   refine (HCA.out wo HSN.out).mono ?_
                   rintro e w2 ⟨rfl, q, hq⟩
                   subst hq)
      go_roundw
      case rel => exact ⟨j + 1, by omega, by omega, by go_num, HN.out, below_drewN' hB _, HTK.out⟩
      case measure => simp [intOf]; omega
    · have HN := Lib.hid (show ∀ k, i ≤ k → k < j + 1 → isA ((bsOf s).getD k 0) = true from fun k a b => by
        rcases Nat.lt_or_ge k j with h | h
        · exact hall.out k a h
        · rw [show k = j by omega]; exact hb)
      clear hb
      go_wp2_with (first
        | (go_at_call 95
           refine (HCA.out wo HSN.out).mono ?_
           rintro e w2 ⟨rfl, q, hq⟩
           subst hq)
        | (go_at_call 95
           refine (HCA.out (wo.drewN _) (HSN.out.keep rfl)).mono ?_
           rintro e w2 ⟨rfl, q2, hq⟩
           subst hq))
      go_roundw
      case rel => exact ⟨j + 1, by omega, by omega, by go_num, HN.out, below_drewN' hB _, HTK.out⟩
      case measure => simp [intOf]; omega
    · have hnl : (((bsOf s).drop i).takeWhile isA).length = j - i := takeWhile_more hj1 hall.out (by rw [HLEN.out]; exact hj2) (by rw [HLEN.out]; exact hend)
      have HT := Lib.hid (HTOK.out (j - i) hnl)
      clear hend hnl
      have hB2 := hB
      obtain ⟨t0, t1, t2, t3, tf⟩ := tok_cells HTK.out
      have f0 := tf 0
      have f1 := tf 1
      have f2 := tf 2
      have f3 := tf 3
      clear tf
      by_cases h10 : 10 < j - i
      · have HT2 : Hid (tok1 ((bsOf s).drop i) = .bad 2) := by
          have := HT.out
          rw [if_pos h10] at this
          exact this
        have h11 : decide ((10 : Int) < (j : Int) - (i : Int)) = true := decide_eq_true (by omega)
        clear HT
        go_wp2_with (first
          | (go_at_call 95
             refine (HCA.out wo HSN.out).mono ?_
             rintro e w2 ⟨rfl, q, hq⟩
             subst hq)
          | (go_at_call 95
             refine (HCA.out (wo.drewN _) (HSN.out.keep rfl)).mono ?_
             rintro e w2 ⟨rfl, q2, hq⟩
             subst hq))
        refine bodyPost_ret (tok_ret rfl _ rfl rfl (tok_set (HTK.out : (wo.drewN (q + q2)).heap[W.heap.size]? = some (.cells tok0 86 (0, 0))) _ _ _ _)) rfl ⟨?_, ?_⟩
        · rw [HT2.out]; rfl
        · exact tok_below (below_drewN' hB2 _) (Nat.le_refl _) _ _ _ _
      · have HT2 : Hid (tok1 ((bsOf s).drop i) = .good 1 (j - i) 0) := by
          have := HT.out
          rw [if_neg h10] at this
          exact this
        have h11 : decide ((10 : Int) < (j : Int) - (i : Int)) = false := decide_eq_false (by omega)
        have hsrc := HSN.out.src
        have hij : i + (j - i) = j := by omega
        clear HT
        go_wp2_with (first
          | (go_at_call 95
             refine (HCA.out wo HSN.out).mono ?_
             rintro e w2 ⟨rfl, q, hq⟩
             subst hq)
          | (go_at_call 95
             refine (HCA.out (wo.drewN _) (HSN.out.keep rfl)).mono ?_
             rintro e w2 ⟨rfl, q2, hq⟩
             subst hq))
        refine bodyPost_ret (tok_ret rfl _ rfl rfl (tok_set (HTK.out : (wo.drewN (q + q2)).heap[W.heap.size]? = some (.cells tok0 86 (0, 0))) _ _ _ _)) rfl ⟨?_, ?_⟩
        · rw [HT2.out]
          show Ending.returned _ = Ending.returned (.tuple #[.agg #[_, _, .string (s.extract i (i + (j - i))), _], _])
          rw [hij]
          rfl
        · exact tok_below (below_drewN' hB2 _) (Nat.le_refl _) _ _ _ _

/-! ### numbers -/
theorem fold_ge : ∀ (l : List UInt8) (a : Nat), a ≤ l.foldl (fun n c => 10 * n + (c.toNat - 48)) a
  | [], a => Nat.le_refl _
  | c :: t, a => by
    rw [List.foldl_cons]
    have := fold_ge t (10 * a + (c.toNat - 48))
    omega
theorem parseUint_digits : ∀ (l : List UInt8) (a : Nat), (∀ c ∈ l, isD c = true) → a < 18446744073709551616 → Lib.parseUint10 a l = if l.foldl (fun n c => 10 * n + (c.toNat - 48)) a < 18446744073709551616 then .ok (l.foldl (fun n c => 10 * n + (c.toNat - 48)) a) else .range
  | [], a, _, ha => by simp [Lib.parseUint10, ha]
  | c :: t, a, hd, ha => by
    have hc := hd c (by simp)
    simp only [isD, Bool.and_eq_true, decide_eq_true_eq] at hc
    have hg := fold_ge t (10 * a + (c.toNat - 48))
    rw [List.foldl_cons, Lib.parseUint10, if_pos hc]
    by_cases h1 : 1844674407370955162 ≤ a
    · rw [if_pos h1, if_neg (by omega)]
    · rw [if_neg h1]
      by_cases h2 : 18446744073709551616 ≤ a * 10 + (c.toNat - 48)
      · rw [if_pos h2, if_neg (by omega)]
      · rw [if_neg h2, show a * 10 + (c.toNat - 48) = 10 * a + (c.toNat - 48) by omega]
        exact parseUint_digits t _ (fun x hx => hd x (by simp [hx])) (by omega)
theorem atoi_digits {l : List UInt8} (hd : ∀ c ∈ l, isD c = true) (hne : l ≠ []) : Lib.atoiAll l = if val l < 9223372036854775808 then .ok (val l : Int) else .range := by
  cases l with
  | nil => exact absurd rfl hne
  | cons c t =>
    have hc := hd c (by simp)
    simp only [isD, Bool.and_eq_true, decide_eq_true_eq] at hc
    have hp : Lib.parseMag (c :: t) = if val (c :: t) < 18446744073709551616 then .ok (val (c :: t)) else .range := by
      unfold Lib.parseMag
      rw [if_neg (by simp)]
      exact parseUint_digits (c :: t) 0 hd (by omega)
    unfold Lib.atoiAll
    simp only
    rw [if_neg (by omega), hp]
    by_cases h1 : val (c :: t) < 18446744073709551616
    · rw [if_pos h1]
      simp only
      by_cases h2 : val (c :: t) < 9223372036854775808
      · rw [if_neg (by omega), if_neg (by omega), if_pos h2, if_neg (by omega)]
      · rw [if_pos (by omega), if_neg h2]
    · rw [if_neg h1, if_neg (by omega)]
end Go.Proofs.YtlfpaemfhanpiaaGreatDoor
