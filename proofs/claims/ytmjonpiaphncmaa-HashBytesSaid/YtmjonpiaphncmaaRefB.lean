/-
  The contracts of the reference model's Bytes and Pair. Conditions: the slice holds bytes; the lengths are such of which we speak.
-/
import Derived.Test.YtmjonpiaphncmaaRef
namespace Go.Proofs.Ytmjonpiaphncmaa
open Go.RowKit

theorem cellsI_take (W : List Int) (k : Nat) (h : k < W.length) : (cellsI W).take (k + 1) = (cellsI W).take k ++ [Value.int .i64 (wrap64 (W[k]?.getD 0))] := by
  unfold cellsI
  rw [List.take_add_one, List.getElem?_map, List.getElem?_eq_getElem h]
  rfl

set_option maxHeartbeats 1000000 in
theorem refbytes_any (s : ByteArray) (A : Option Addr) (m c : Nat) (zs : List Int) (w : World) (hI : Ints .u8 w.heap.size w A m zs) (hbz : ∀ x ∈ zs, B8 x) (hs : s.size ≤ 1000) (hm : m ≤ 1000) :
    Calls Try.prog 18 #[.string s, .slice A m c] w fun e w' => e = .returned (.int .u64 (bytesI (sb s) zs)) ∧ Below w.heap.size w w' := by
  obtain ⟨i0, hi, hz0, hz1, hz2⟩ := info_parts info_int
  go_enter Try.func18, Try.ntmps18
  go_wp2_with fail
  refine (words_any _ _ _ zs _ hI hbz hm).mono ?_
  rintro e w1 ⟨A1, c1, rfl, -, -, hown, hB⟩
  have hI1 := Ints.of_own rfl hown
  have hwl : (wordsI zs).length ≤ 1000 := by unfold wordsI; rw [wordsTo_length, hI.len]; unfold nwords; omega
  have HL := Lib.hid hI.len
  obtain ⟨W, hW⟩ : ∃ W, wordsI zs = W := ⟨_, rfl⟩
  rw [hW] at hI1 hwl ⊢
  have HW := Lib.hid hW
  obtain ⟨N, hN⟩ : ∃ N, W.length = N := ⟨_, rfl⟩
  rw [hN] at hI1 hwl ⊢
  have HN := Lib.hid hN
  clear hown hI hW hN
  go_wp2
  go_loopw [6, 7] (fun o i wr => ∃ k : Nat, k ≤ N ∧ i = .int .i64 k ∧ wr.ownsRow w1.heap.size 3 1 o k ((cellsI W).take k) ∧ Below w1.heap.size w1 wr) (fun _ i _ => N - (intOf i).toNat)
  case atStart => exact ⟨0, Nat.zero_le _, rfl, ⟨rfl, .inl ⟨rfl, rfl⟩⟩, Below.refl _ _⟩
  case round =>
    obtain ⟨k, hk, rfl, hrow, hB1⟩ := hrel
    have hBz := hB1.size
    by_cases hlt : k < N
    · obtain ⟨b, off, rfl, hbl, hc⟩ := hI1.at_ (by omega)
      have hck := (hB1.cell (p := ⟨b, off + k, none⟩) hbl).trans (hc k hlt)
      have HS := Lib.hid (cellsI_take W k (by rw [HN.out]; exact hlt))
      clear hc hI1
      go_wp2_with (at_builtin
                   refine wpList_append_own _ rfl _ _ 22 rfl w1.heap.size 3 i0 _ 1 8 Try.underlying22 hi hz0 hz1 hz2 rfl (by decide) _ _ _ rfl (hrow.alloc _) ⟨wr.heap.size, 0, none⟩ 1 1 [.int .i64 (wrap64 (W[k]?.getD 0))] rfl rfl (cell_one_new _ _ _) (by simp [Value.oneCell']) (by simp only [maxLen]; omega) (by omega) (by simp; omega) ?_
                   intro v' w2 hown' hgrow _)
      go_roundw
      case rel => exact ⟨k + 1, by omega, by go_num, by rw [HS.out]; exact hown', (hB1.alloc hBz _).grown hgrow (by simp; omega) (fun g hg => own_low hrow hg)⟩
      case measure => simp [intOf]; omega
    · obtain rfl : k = N := by omega
      have e : (cellsI W).take k = cellsI W := List.take_of_length_le (by rw [cellsI_length, HN.out]; omega)
      rw [e] at hrow
      clear hI1 e
      go_wp2_with (at_builtin
                   refine wpList_append_own _ rfl _ _ 22 rfl w1.heap.size 3 i0 _ 1 8 Try.underlying22 hi hz0 hz1 hz2 rfl (by decide) _ _ _ rfl (hrow.alloc _) ⟨wr.heap.size, 0, none⟩ 1 1 [.int .i64 m] rfl rfl (cell_one_new _ _ _) (by simp [Value.oneCell']) (by simp only [maxLen]; omega) (by omega) (by simp; omega) ?_
                   intro v' w2 hown' hgrow _
                   obtain ⟨g', cap', rfl⟩ := ownsRow_succ hown')
      have hrX := own_bytes zs m HL.out (by rw [HW.out]; exact hown')
      have hB2 : Below w1.heap.size w1 w2 := (hB1.alloc hBz _).grown hgrow (by simp; omega) (fun g hg => own_low hrow hg)
      clear hown' hgrow
      refine (refsum_any s _ _ _ (bytesL zs) _ (Ints.of_own rfl hrX) hs (by unfold Len; omega)).mono ?_
      rintro e w3 ⟨rfl, hb3⟩
      have hB3 := hB2.trans (hb3.mono hB2.size)
      go_wp2
      go_ret
      exact ⟨rfl, hB.trans (hB3.mono hB.size)⟩

theorem refsum_two (s : ByteArray) (hs : s.size ≤ 1000) (x y : Int) (w : World) :
    Calls Try.prog 14 #[.string s, .slice (some ⟨w.heap.size, 0, none⟩) 2 2] (w.alloc (.cells #[.int .i64 x, .int .i64 y] 3)) fun e w' => e = .returned (.int .u64 (sumI (sb s) [x, y])) ∧ Below w.heap.size w w' :=
  (refsum_any s _ 2 2 [x, y] _ (Ints.lit .i64 w 3 [x, y] _ rfl 2 rfl) hs (len_small (by decide))).mono fun _ _ ⟨he, hb⟩ => ⟨he, ((Below.refl _ w).alloc (Nat.le_refl _) _).trans (hb.mono (by simp))⟩

set_option maxHeartbeats 400000 in
theorem refpair_any (a b : Int) (w : World) :
    Calls Try.prog 20 #[.int .u64 a, .int .u64 b] w fun e w' => e = .returned (.int .u64 (pairI a b)) ∧ Below w.heap.size w w' := by
  go_enter Try.func20, Try.ntmps20
  go_wp2_with (go_at_call 14; refine (refsum_two sPair (by decide) _ _ _).mono ?_; rintro e w' ⟨rfl, hb⟩)
  go_ret
  exact ⟨ret_u64 (by unfold pairI; rw [wrap64_i64, wrap64_i64, sb_pair]), hb⟩

/-- A slice that the call made, its length under a name. -/
def Got (t : TypeId) (k : IntKind) (w : World) (zs : List Int) (e : Ending) (w' : World) : Prop :=
  ∃ A n c, e = .returned (.slice A n c) ∧ zs.length = n ∧ Slc k w' A n c zs ∧ Ints k w'.heap.size w' A n zs ∧ w'.ownsRow w.heap.size t 1 (.slice A n c) n (zs.map (Value.int k)) ∧ Below w.heap.size w w'
theorem Made.got {t : TypeId} {k : IntKind} {w w' : World} {zs : List Int} {e : Ending} (h : Made t k w zs e w') : Got t k w zs e w' := by
  obtain ⟨A, c, he, h1, h2, hown, hb⟩ := h
  exact ⟨A, _, c, he, rfl, own_slc hown, Ints.of_own rfl hown, hown, hb⟩
theorem ints_got (a : Option Addr) (n c : Nat) (zs : List Int) (k : Int) (h0 : 0 ≤ k) (hk : k ≤ 1000) (w : World) (hS : Slc .i64 w a n c zs) :
    ∃ l, l = zs.take k.toNat ∧ l.length ≤ 1000 ∧ Calls Try.prog 12 #[.slice a n c, .int .i64 k] w (Got 3 .i64 w l) :=
  ⟨_, rfl, by rw [List.length_take]; omega, (ints_any a n c zs k h0 hk w hS).mono fun _ _ h => h.got⟩
theorem few_got (a : Option Addr) (n c : Nat) (zs : List Int) (k : Int) (h0 : 0 ≤ k) (hk : k ≤ 1000) (w : World) (hS : Slc .u8 w a n c zs) :
    ∃ l, l = zs.take k.toNat ∧ l.length ≤ 1000 ∧ Calls Try.prog 16 #[.slice a n c, .int .i64 k] w (Got 5 .u8 w l) :=
  ⟨_, rfl, by rw [List.length_take]; omega, (few_any a n c zs k h0 hk w hS).mono fun _ _ h => h.got⟩
theorem short_got (s : ByteArray) (k : Int) (h0 : 0 ≤ k) (hk : k ≤ 1000) (w : World) :
    ∃ r : ByteArray, r = s.extract 0 k.toNat ∧ r.size ≤ 1000 ∧ Calls Try.prog 11 #[.string s, .int .i64 k] w fun e w' => e = .returned (.string r) ∧ w = w' :=
  ⟨_, rfl, by rw [ByteArray.size_extract]; omega, short_any s k h0 hk w⟩
/-- A store into a slice of integers. -/
theorem Ints.set {k : IntKind} {B n : Nat} {w : World} {b off : Nat} {zs : List Int} (h : Ints k B w (some ⟨b, off, none⟩) n zs) (i : Nat) (hi : i < n) (v : Int) :
    Ints k B (w.setCell ⟨b, off + i, none⟩ (.int k v)) (some ⟨b, off, none⟩) n (zs.set i v) := by
  refine ⟨by rw [List.length_set]; exact h.1, fun hn => ?_⟩
  obtain ⟨b', off', e, hb, hc⟩ := h.2 hn
  injection e with e
  injection e with e1 e2
  subst e1 e2
  refine ⟨b, off, rfl, hb, fun j hj => ?_⟩
  by_cases hij : i = j
  · subst hij
    rw [World.cell?_setCell_same' _ _ _ (by rw [hc i hi]; rfl), List.getElem?_set_self (by rw [h.1]; exact hi)]
    rfl
  · rw [World.cell?_setCell_other _ _ _ _ (by intro e; injection e with _ e2; omega), hc j hj, List.getElem?_set_ne hij]
/-- Where the row that the call owns lies; it is not frozen. -/
theorem own_at {w : World} {base n c : Nat} {t : TypeId} {A : Option Addr} {xs : List Value} (h : w.ownsRow base t 1 (.slice A n c) n xs) (hn : 0 < n) :
    ∃ g, A = some ⟨g, 0, none⟩ ∧ base ≤ g ∧ g < w.heap.size ∧ n ≤ c ∧ ∀ o, w.frozen? ⟨g, o, none⟩ = false := by
  rcases h.2 with ⟨_, h0⟩ | ⟨g, cap, cur, e, hg, hh, h1, _⟩
  · omega
  · injection e with e1 e2 e3
    subst e3
    exact ⟨g, e1, hg, (Array.getElem?_eq_some_iff.1 hh).1, h1, fun o => by simp [World.frozen?, hh]⟩
theorem own_below {w w' : World} {base size n : Nat} {t : TypeId} {v : Value} {xs : List Value} (h : w.ownsRow base t size v n xs) (hb : Below w.heap.size w w') : w'.ownsRow base t size v n xs := by
  obtain ⟨h1, h2⟩ := h
  refine ⟨h1, ?_⟩
  rcases h2 with h2 | ⟨g, cap, cur, hv, hg, hh, r⟩
  · exact .inl h2
  · exact .inr ⟨g, cap, cur, hv, hg, (hb.block g (Array.getElem?_eq_some_iff.1 hh).1).trans hh, r⟩
theorem Row.b8 {w : World} {a : Option Addr} {len cap : Nat} {zs : List Int} (h : Row .u8 w a len cap zs) (k : Nat) : ∀ x ∈ (zs.take len).take k, B8 x :=
  fun x hx => b8_of h.ints.2.2.2 x (List.mem_of_mem_take hx)
theorem Row.i64 {w : World} {a : Option Addr} {len cap : Nat} {zs : List Int} (h : Row .i64 w a len cap zs) (k : Nat) : ∀ x ∈ (zs.take len).take k, I64 x :=
  fun x hx => i64_of h.ints.2.2.2 x (List.mem_of_mem_take hx)
end Go.Proofs.Ytmjonpiaphncmaa
