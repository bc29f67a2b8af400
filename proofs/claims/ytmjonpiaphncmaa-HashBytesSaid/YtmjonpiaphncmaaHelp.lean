/-
  The contracts of the reference model's small helpers. Conditions: each slice holds integers of its kind; the lengths are such of which we speak.
-/
import Derived.Test.YtmjonpiaphncmaaPair
import Derived.OpenShut
import Derived.Deep.QuietTactic
import Derived.BigQuiet
namespace Go.Proofs.Ytmjonpiaphncmaa
open Go.RowKit

/-- What a law is told of a slice of integers that came in. -/
def Row (k : IntKind) (w : World) (a : Option Addr) (len cap : Nat) (zs : List Int) : Prop :=
  (a = none ∧ len = 0 ∧ cap = 0 ∧ zs = []) ∨
  ∃ x, a = some x ∧ len ≤ cap ∧ cap ≤ maxLen ∧ zs.length = cap ∧ (∀ i, i < zs.length → w.cell? (x.add i) = some (.int k (zs.getD i 0))) ∧ ∀ n ∈ zs, (Lit.int k n).wf = true
theorem Row.ints {k : IntKind} {w : World} {a : Option Addr} {len cap : Nat} {zs : List Int} (h : Row k w a len cap zs) :
    Ints k w.heap.size w a len (zs.take len) ∧ len ≤ cap ∧ cap ≤ maxLen ∧ ∀ n ∈ zs.take len, (Lit.int k n).wf = true := by
  rcases h with ⟨rfl, rfl, rfl, rfl⟩ | ⟨x, rfl, hl, hm, hz, hcell, hwz⟩
  · exact ⟨Ints.nil _ _ _ _, Nat.le_refl _, by simp [maxLen], fun n hn => by cases hn⟩
  · refine ⟨⟨by simp; omega, fun hn => ?_⟩, hl, hm, fun n hn => hwz n (List.mem_of_mem_take hn)⟩
    obtain ⟨b, off, rfl, hc⟩ := ints_at hcell (by omega)
    have hb : b < w.heap.size := by
      have h0 := hc 0 (by omega)
      rcases Nat.lt_or_ge b w.heap.size with h | h
      · exact h
      · simp [World.cell?, Array.getElem?_eq_none h] at h0
    exact ⟨b, off, rfl, hb, fun j hj => by rw [hc j (by omega), List.getElem?_take_of_lt hj, List.getD_eq_getElem?_getD]⟩
theorem b8_of {l : List Int} (h : ∀ n ∈ l, (Lit.int .u8 n).wf = true) : ∀ n ∈ l, B8 n := fun n hn => by
  have := bounds_u8 (h n hn)
  unfold B8
  omega
theorem i64_of {l : List Int} (h : ∀ n ∈ l, (Lit.int .i64 n).wf = true) : ∀ n ∈ l, I64 n := fun n hn => by
  have := bounds_i64 (h n hn)
  unfold I64
  omega

/-- What may be appended to a slice of the call's own. -/
def Slc (k : IntKind) (w : World) (a : Option Addr) (n c : Nat) (zs : List Int) : Prop :=
  zs.length = n ∧ n ≤ c ∧ c ≤ maxLen ∧ ((a = none ∧ c = 0) ∨ ∃ x, a = some x ∧ ∀ i u, (zs.map (Value.int k))[i]? = some u → w.cell? (x.add i) = some u)
theorem Row.slc {k : IntKind} {w : World} {a : Option Addr} {len cap : Nat} {zs : List Int} (h : Row k w a len cap zs) : Slc k w a len cap (zs.take len) := by
  rcases h with ⟨rfl, rfl, rfl, rfl⟩ | ⟨x, rfl, hl, hm, hz, hcell, hwz⟩
  · exact ⟨rfl, Nat.le_refl _, by simp [maxLen], .inl ⟨rfl, rfl⟩⟩
  · refine ⟨by simp; omega, hl, hm, .inr ⟨x, rfl, fun i u hu => ?_⟩⟩
    rw [List.getElem?_map] at hu
    have hi : i < (zs.take len).length := by
      rcases Nat.lt_or_ge i (zs.take len).length with h | h
      · exact h
      · rw [List.getElem?_eq_none h] at hu; cases hu
    have hi2 : i < zs.length := by have := List.length_take_le' len zs; omega
    rw [hcell i hi2, ← hu, List.getElem?_eq_getElem hi, List.getElem_take, List.getD_eq_getElem?_getD, List.getElem?_eq_getElem hi2]
    rfl
theorem Slc.below {k : IntKind} {w w' : World} {a : Option Addr} {n c : Nat} {zs : List Int} (h : Slc k w a n c zs) (hb : Below w.heap.size w w') : Slc k w' a n c zs := by
  obtain ⟨h1, h2, h3, h4⟩ := h
  refine ⟨h1, h2, h3, ?_⟩
  rcases h4 with h4 | ⟨x, e, hx⟩
  · exact .inl h4
  · refine .inr ⟨x, e, fun i u hu => ?_⟩
    have hc := hx i u hu
    have hlt : (x.add i).block < w.heap.size := by
      rcases Nat.lt_or_ge (x.add i).block w.heap.size with h | h
      · exact h
      · simp [World.cell?, Array.getElem?_eq_none h] at hc
    exact (hb.cell hlt).trans hc

/-- A slice that the call made, of the integers zs. -/
def Made (t : TypeId) (k : IntKind) (w : World) (zs : List Int) (e : Ending) (w' : World) : Prop :=
  ∃ A c, e = .returned (.slice A zs.length c) ∧ zs.length ≤ c ∧ c ≤ maxLen ∧ w'.ownsRow w.heap.size t 1 (.slice A zs.length c) zs.length (zs.map (Value.int k)) ∧ Below w.heap.size w w'
theorem own_slice {w : World} {base : Nat} {e : TypeId} {v : Value} {n : Nat} {xs : List Value} (h : w.ownsRow base e 1 v n xs) : ∃ A c, v = .slice A n c ∧ n ≤ c ∧ c ≤ maxLen := by
  rcases h.2 with ⟨rfl, rfl⟩ | ⟨g, cap, cur, rfl, _, _, h1, h2, _⟩
  · exact ⟨none, 0, rfl, Nat.le_refl _, by simp [maxLen]⟩
  · exact ⟨_, cap, rfl, h1, h2⟩
theorem made_of {t : TypeId} {k : IntKind} {w w1 : World} {v : Value} {m : Nat} {zs : List Int} (h : w1.ownsRow w.heap.size t 1 v (0 + m) ([] ++ zs.map (Value.int k))) (hb : Below w.heap.size w w1) : Made t k w zs (.returned v) w1 := by
  have hl : zs.length = 0 + m := by have := h.1; simpa using this
  rw [← hl] at h
  obtain ⟨A, c, rfl, h1, h2⟩ := own_slice h
  exact ⟨A, c, rfl, h1, h2, by simpa using h, hb⟩
theorem own_slc {w : World} {base n c : Nat} {e : TypeId} {k : IntKind} {A : Option Addr} {zs : List Int} (h : w.ownsRow base e 1 (.slice A n c) n (zs.map (Value.int k))) : Slc k w A n c zs := by
  have hl : zs.length = n := by have := h.1; simpa using this
  rcases h.2 with ⟨e1, e2⟩ | ⟨g, cap, cur, e1, _, _, h1, h2, _⟩
  · injection e1 with ea eb ec
    exact ⟨hl, by omega, by rw [ec]; simp [maxLen], .inl ⟨ea, ec⟩⟩
  · injection e1 with ea eb ec
    subst ea ec
    exact ⟨hl, h1, h2, .inr ⟨_, rfl, h.cells rfl⟩⟩

set_option maxHeartbeats 400000 in
theorem short_any (s : ByteArray) (k : Int) (h0 : 0 ≤ k) (hk : k ≤ 1000) (w : World) :
    Calls Try.prog 11 #[.string s, .int .i64 k] w fun e w' => e = .returned (.string (s.extract 0 k.toNat)) ∧ w = w' := by
  obtain ⟨k, rfl⟩ := Int.eq_ofNat_of_zero_le h0
  have hk1 : k ≤ 1000 := by omega
  clear h0 hk
  by_cases h : k < s.size
  · go_enter Try.func11, Try.ntmps11
    go_wp2
    go_ret
    exact ⟨rfl, rfl⟩
  · have H := Lib.hid (show s.extract 0 k = s by
      apply ByteArray.ext
      rw [ByteArray.data_extract]
      exact Array.extract_eq_self_of_le (by show s.size ≤ k; omega))
    go_enter Try.func11, Try.ntmps11
    go_wp2
    go_ret
    exact ⟨by rw [Int.toNat_natCast, H.out]; rfl, rfl⟩
theorem short_len (s : ByteArray) (k : Int) (hk : k ≤ 1000) : Len (s.extract 0 k.toNat).size := by
  unfold Len
  rw [ByteArray.size_extract]
  omega

theorem info_byte : (Try.prog.info? 5).map (fun i => (i.zero, i.size, i.bytes)) = some (some (.int .u8 0), 1, 1) := by kernel_rfl

set_option maxHeartbeats 400000 in
theorem ints_any (a : Option Addr) (n c : Nat) (zs : List Int) (k : Int) (h0 : 0 ≤ k) (hk : k ≤ 1000) (w : World) (hS : Slc .i64 w a n c zs) :
    Calls Try.prog 12 #[.slice a n c, .int .i64 k] w (Made 3 .i64 w (zs.take k.toNat)) := by
  obtain ⟨k, rfl⟩ := Int.eq_ofNat_of_zero_le h0
  obtain ⟨i0, hi, hz0, hz1, hz2⟩ := info_parts info_int
  obtain ⟨hl, hnc, hcm, hx⟩ := hS
  have hlt : (zs.take k).length = min k n := by rw [List.length_take, hl]
  have HL := Lib.hid hlt
  unfold maxLen at hcm
  rcases hx with ⟨rfl, rfl⟩ | ⟨x, rfl, hc⟩
  · obtain rfl : n = 0 := by omega
    obtain rfl : zs = [] := List.eq_nil_of_length_eq_zero hl
    clear hlt
    go_enter Try.func12, Try.ntmps12
    go_wp2_with (at_builtin; refine wpList_append_own_none rfl _ _ 22 rfl w.heap.size 3 i0 1 Try.underlying22 hi (.slice none 0 0) 0 [] rfl ⟨rfl, .inl ⟨rfl, rfl⟩⟩ rfl ?_)
    go_ret
    exact ⟨none, 0, by simp, by simp, by simp [maxLen], ⟨by simp, .inl ⟨by simp, by simp⟩⟩, Below.refl _ _⟩
  · have hcs : ∀ j u, ((zs.take k).map (Value.int .i64))[j]? = some u → w.cell? (x.add j) = some u := fun j u hu => hc j u (by
      rw [List.map_take] at hu
      rw [← hu, List.getElem?_take_of_lt]
      rcases Nat.lt_or_ge j k with h | h
      · exact h
      · rw [List.getElem?_take_eq_none h] at hu; cases hu)
    have HC := Lib.hid hcs
    clear hc hcs hlt
    by_cases hkn : n ≤ k
    all_goals
      go_enter Try.func12, Try.ntmps12
      go_wp2_with (at_builtin
                   refine wpList_append_own _ rfl _ _ 22 rfl w.heap.size 3 i0 _ 1 8 Try.underlying22 hi hz0 hz1 hz2 rfl (by decide) (.slice none 0 0) 0 [] rfl ⟨rfl, .inl ⟨rfl, rfl⟩⟩ x _ _ ((zs.take k).map (Value.int .i64)) rfl (by rw [List.length_map, HL.out]; omega) HC.out (ints_oneCell _ _) (by simp only [maxLen]; omega) (by omega) (Nat.le_refl _) ?_
                   intro v' w1 hown' hgrow _)
      go_ret
      exact made_of hown' ((Below.refl _ w).grown hgrow (Nat.le_refl _) (fun k e => by cases e))

set_option maxHeartbeats 400000 in
theorem few_any (a : Option Addr) (n c : Nat) (zs : List Int) (k : Int) (h0 : 0 ≤ k) (hk : k ≤ 1000) (w : World) (hS : Slc .u8 w a n c zs) :
    Calls Try.prog 16 #[.slice a n c, .int .i64 k] w (Made 5 .u8 w (zs.take k.toNat)) := by
  obtain ⟨k, rfl⟩ := Int.eq_ofNat_of_zero_le h0
  obtain ⟨i0, hi, hz0, hz1, hz2⟩ := info_parts info_byte
  obtain ⟨hl, hnc, hcm, hx⟩ := hS
  have hlt : (zs.take k).length = min k n := by rw [List.length_take, hl]
  have HL := Lib.hid hlt
  unfold maxLen at hcm
  rcases hx with ⟨rfl, rfl⟩ | ⟨x, rfl, hc⟩
  · obtain rfl : n = 0 := by omega
    obtain rfl : zs = [] := List.eq_nil_of_length_eq_zero hl
    clear hlt
    go_enter Try.func16, Try.ntmps16
    go_wp2_with (at_builtin; refine wpList_append_own_none rfl _ _ 30 rfl w.heap.size 5 i0 1 Try.underlying30 hi (.slice none 0 0) 0 [] rfl ⟨rfl, .inl ⟨rfl, rfl⟩⟩ rfl ?_)
    go_ret
    exact ⟨none, 0, by simp, by simp, by simp [maxLen], ⟨by simp, .inl ⟨by simp, by simp⟩⟩, Below.refl _ _⟩
  · have hcs : ∀ j u, ((zs.take k).map (Value.int .u8))[j]? = some u → w.cell? (x.add j) = some u := fun j u hu => hc j u (by
      rw [List.map_take] at hu
      rw [← hu, List.getElem?_take_of_lt]
      rcases Nat.lt_or_ge j k with h | h
      · exact h
      · rw [List.getElem?_take_eq_none h] at hu; cases hu)
    have HC := Lib.hid hcs
    clear hc hcs hlt
    by_cases hkn : n ≤ k
    all_goals
      go_enter Try.func16, Try.ntmps16
      go_wp2_with (at_builtin
                   refine wpList_append_own _ rfl _ _ 30 rfl w.heap.size 5 i0 _ 1 1 Try.underlying30 hi hz0 hz1 hz2 rfl (by decide) (.slice none 0 0) 0 [] rfl ⟨rfl, .inl ⟨rfl, rfl⟩⟩ x _ _ ((zs.take k).map (Value.int .u8)) rfl (by rw [List.length_map, HL.out]; omega) HC.out (ints_oneCell _ _) (by simp only [maxLen]; omega) (by omega) (Nat.le_refl _) ?_
                   intro v' w1 hown' hgrow _)
      go_ret
      exact made_of hown' ((Below.refl _ w).grown hgrow (Nat.le_refl _) (fun k e => by cases e))

def around (n m : Int) : Int := (if n < 0 then -(n + 1) else n) % m
theorem around_in (n m : Int) (hm : 0 < m) : 0 ≤ around n m ∧ around n m < m := ⟨Int.emod_nonneg _ (by omega), Int.emod_lt_of_pos _ hm⟩
set_option maxHeartbeats 400000 in
theorem around_any (n m : Int) (hn : I64 n) (hm : 0 < m) (hm2 : m ≤ 1099511627776) (w : World) :
    Calls Try.prog 21 #[.int .i64 n, .int .i64 m] w fun e w' => e = .returned (.int .i64 (around n m)) ∧ w = w' := by
  obtain ⟨n0, n1⟩ := hn
  have hz : (m == 0) = false := by simp; omega
  by_cases h : n < 0
  · have H := Lib.hid (show around n m = -((n + 1).tmod m) by unfold around; rw [if_pos h, ← Int.neg_tmod, Int.tmod_eq_emod_of_nonneg (by omega)])
    go_enter Try.func21, Try.ntmps21
    go_wp2
    go_ret
    exact ⟨by rw [H.out]; rfl, rfl⟩
  · have H := Lib.hid (show around n m = n % m by unfold around; rw [if_neg h])
    go_enter Try.func21, Try.ntmps21
    go_wp2
    go_ret
    exact ⟨by rw [H.out]; rfl, rfl⟩

/-- A function tells a bool and writes nothing that was there. -/
def Tells (b : Bool) (w : World) (e : Ending) (w' : World) : Prop := e = .returned (.bool b) ∧ Below w.heap.size w w'
theorem below_drewN' {B : Nat} {a w : World} (h : Below B a w) (n : Nat) : Below B a (w.drewN n) := ⟨h.os, h.tape, h.output, h.size, h.block⟩
theorem take_step {xs ys : List Int} {n k : Nat} {x : Int} (hx : xs.length = n) (hy : ys.length = n) (hk : k < n) (h : xs.take k = ys.take k) (h1 : xs[k]?.getD 0 = x) (h2 : ys[k]?.getD 0 = x) : Hid (xs.take (k + 1) = ys.take (k + 1)) := by
  show xs.take (k + 1) = ys.take (k + 1)
  rw [List.take_add_one, List.take_add_one, h]
  rw [List.getElem?_eq_getElem (by omega)] at h1 h2 ⊢
  rw [List.getElem?_eq_getElem (by omega)]
  simp only [Option.getD_some] at h1 h2
  rw [h1, h2]
theorem take_all {xs ys : List Int} {n : Nat} (hx : xs.length = n) (hy : ys.length = n) (h : xs.take n = ys.take n) : xs = ys := by
  rw [List.take_of_length_le (by omega), List.take_of_length_le (by omega)] at h
  exact h

set_option maxHeartbeats 1000000 in
theorem sameInts_any (A A' : Option Addr) (n n' c c' : Nat) (xs ys : List Int) (w : World) (hx : Ints .i64 w.heap.size w A n xs) (hy : Ints .i64 w.heap.size w A' n' ys) (hn : n ≤ 1000) :
    Calls Try.prog 24 #[.slice A n c, .slice A' n' c'] w (Tells (decide (xs = ys)) w) := by
  by_cases hnn : n = n'
  · subst hnn
    have hlx := Lib.hid hx.len
    have hly := Lib.hid hy.len
    go_enter Try.func24, Try.ntmps24
    go_wp2
    go_loopw [5] (fun i wr => ∃ k : Nat, k ≤ n ∧ i = .int .i64 k ∧ Hid (xs.take k = ys.take k) ∧ Below w.heap.size w wr) (fun i _ => n - (intOf i).toNat)
    case atStart => exact ⟨0, Nat.zero_le _, rfl, rfl, Below.refl _ _⟩
    case round =>
      obtain ⟨k, hk, rfl, hT, hB⟩ := hrel
      by_cases hlt : k < n
      · obtain ⟨b, off, rfl, hb, hc⟩ := hx.at_ (by omega)
        obtain ⟨b', off', rfl, hb', hc'⟩ := hy.at_ (by omega)
        have hck := (hB.cell (p := ⟨b, off + k, none⟩) hb).trans (hc k hlt)
        have hck' := (hB.cell (p := ⟨b', off' + k, none⟩) hb').trans (hc' k hlt)
        clear hc hc' hx hy
        obtain ⟨x, ex⟩ : ∃ x, xs[k]?.getD 0 = x := ⟨_, rfl⟩
        obtain ⟨y, ey⟩ : ∃ y, ys[k]?.getD 0 = y := ⟨_, rfl⟩
        rw [ex] at hck
        rw [ey] at hck'
        have hxk := Lib.hid ex
        have hyk := Lib.hid ey
        clear ex ey
        by_cases he : x = y
        · subst he
          go_wp2
          go_quiet (fail)
          all_goals go_wp2
          go_roundw
          case rel => exact ⟨k + 1, by omega, by go_num, take_step hlx.out hly.out hlt hT.out hxk.out hyk.out, below_drewN' hB _⟩
          case measure => simp [intOf]; omega
        · have he1 : (x != y) = true := by simp [he]
          have hd := Lib.hid (show decide (xs = ys) = false by
            rw [decide_eq_false_iff_not]
            rintro rfl
            exact he (hxk.out.symm.trans hyk.out))
          clear he
          go_wp2
          go_quiet (fail)
          all_goals go_wp2
          go_ret
          exact ⟨by rw [hd.out]; rfl, below_drewN' hB _⟩
      · obtain rfl : k = n := by omega
        go_wp2
        go_ret
        exact ⟨by rw [decide_eq_true (take_all hlx.out hly.out hT.out)]; rfl, hB⟩
  · have hd := Lib.hid (show decide (xs = ys) = false by
      rw [decide_eq_false_iff_not]
      rintro rfl
      exact hnn (hx.len.symm.trans hy.len))
    have hne : ((n : Int) != n') = true := by rw [bne_iff_ne]; omega
    clear hnn hx hy
    go_enter Try.func24, Try.ntmps24
    go_wp2
    go_ret
    exact ⟨by rw [hd.out]; rfl, Below.refl _ _⟩
set_option maxHeartbeats 1000000 in
theorem sameBytes_any (A A' : Option Addr) (n n' c c' : Nat) (xs ys : List Int) (w : World) (hx : Ints .u8 w.heap.size w A n xs) (hy : Ints .u8 w.heap.size w A' n' ys) (hn : n ≤ 1000) :
    Calls Try.prog 22 #[.slice A n c, .slice A' n' c'] w (Tells (decide (xs = ys)) w) := by
  by_cases hnn : n = n'
  · subst hnn
    have hlx := Lib.hid hx.len
    have hly := Lib.hid hy.len
    go_enter Try.func22, Try.ntmps22
    go_wp2
    go_loopw [5] (fun i wr => ∃ k : Nat, k ≤ n ∧ i = .int .i64 k ∧ Hid (xs.take k = ys.take k) ∧ Below w.heap.size w wr) (fun i _ => n - (intOf i).toNat)
    case atStart => exact ⟨0, Nat.zero_le _, rfl, rfl, Below.refl _ _⟩
    case round =>
      obtain ⟨k, hk, rfl, hT, hB⟩ := hrel
      by_cases hlt : k < n
      · obtain ⟨b, off, rfl, hb, hc⟩ := hx.at_ (by omega)
        obtain ⟨b', off', rfl, hb', hc'⟩ := hy.at_ (by omega)
        have hck := (hB.cell (p := ⟨b, off + k, none⟩) hb).trans (hc k hlt)
        have hck' := (hB.cell (p := ⟨b', off' + k, none⟩) hb').trans (hc' k hlt)
        clear hc hc' hx hy
        obtain ⟨x, ex⟩ : ∃ x, xs[k]?.getD 0 = x := ⟨_, rfl⟩
        obtain ⟨y, ey⟩ : ∃ y, ys[k]?.getD 0 = y := ⟨_, rfl⟩
        rw [ex] at hck
        rw [ey] at hck'
        have hxk := Lib.hid ex
        have hyk := Lib.hid ey
        clear ex ey
        by_cases he : x = y
        · subst he
          go_wp2
          go_quiet (fail)
          all_goals go_wp2
          go_roundw
          case rel => exact ⟨k + 1, by omega, by go_num, take_step hlx.out hly.out hlt hT.out hxk.out hyk.out, below_drewN' hB _⟩
          case measure => simp [intOf]; omega
        · have he1 : (x != y) = true := by simp [he]
          have hd := Lib.hid (show decide (xs = ys) = false by
            rw [decide_eq_false_iff_not]
            rintro rfl
            exact he (hxk.out.symm.trans hyk.out))
          clear he
          go_wp2
          go_quiet (fail)
          all_goals go_wp2
          go_ret
          exact ⟨by rw [hd.out]; rfl, below_drewN' hB _⟩
      · obtain rfl : k = n := by omega
        go_wp2
        go_ret
        exact ⟨by rw [decide_eq_true (take_all hlx.out hly.out hT.out)]; rfl, hB⟩
  · have hd := Lib.hid (show decide (xs = ys) = false by
      rw [decide_eq_false_iff_not]
      rintro rfl
      exact hnn (hx.len.symm.trans hy.len))
    have hne : ((n : Int) != n') = true := by rw [bne_iff_ne]; omega
    clear hnn hx hy
    go_enter Try.func22, Try.ntmps22
    go_wp2
    go_ret
    exact ⟨by rw [hd.out]; rfl, Below.refl _ _⟩
end Go.Proofs.Ytmjonpiaphncmaa
