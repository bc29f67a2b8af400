/-
  The contracts of wire.Out: each method appends the encoding of its argument, Done hands back a copy. Conditions: the lengths are such of which we speak.
-/
import Derived.Test.YtcojbloflaeefaaWMath
import Derived.Test.YtcojbloflaeefaaFew
namespace Go.Proofs.Ytcojbloflaeefaa
open Go Go.RowKit

/-- The Out at block g has collected the bytes bs; it and its bytes lie from block 'base' on. -/
def OutAt (base : Nat) (w : World) (g : Nat) (bs : List Int) : Prop :=
  ∃ A m c, Boxed w g 32 (.slice A m c) ∧ base ≤ g ∧ bs.length = m ∧ w.ownsRow base 5 1 (.slice A m c) m (bs.map (Value.int .u8))

theorem OutAt.below {base g : Nat} {w w' : World} {bs : List Int} (h : OutAt base w g bs) (hb : Below w.heap.size w w') : OutAt base w' g bs := by
  obtain ⟨A, m, c, h1, h2, h3, h4⟩ := h
  exact ⟨A, m, c, (hb.block g h1.lt).trans h1, h2, h3, h4.1, by
    rcases h4.2 with h5 | ⟨g', cap, cur, hv, hg, hh, r⟩
    · exact .inl h5
    · exact .inr ⟨g', cap, cur, hv, hg, (hb.block g' (heap_lt hh)).trans hh, r⟩⟩
theorem OutAt.new (w : World) : OutAt w.heap.size (w.alloc (.cells #[.slice none 0 0] 32)) w.heap.size [] :=
  ⟨_, 0, _, Boxed.new w _ _, Nat.le_refl _, rfl, rfl, .inl ⟨rfl, rfl⟩⟩
theorem OutAt.size {base g : Nat} {w : World} {bs : List Int} (h : OutAt base w g bs) : base ≤ w.heap.size := by
  obtain ⟨A, m, c, h1, h2, h3, h4⟩ := h
  have := h1.lt
  omega

theorem more_or (n : Int) : bits .or .u8 (n % 256) 128 = 128 + n % 128 := by
  have h0 : 0 ≤ n % 256 := by omega
  have h1 : n % 256 < 256 := by omega
  rw [u8_or _ _ h0 h1 (by omega) (by omega)]
  obtain ⟨k, hk⟩ := Int.eq_ofNat_of_zero_le h0
  rw [hk]
  have hk2 : k < 256 := by omega
  have e : ((k : Int).toNat ||| (128 : Int).toNat) = 128 + k % 128 := by
    have : ∀ k : Fin 256, (k.val ||| 128) = 128 + k.val % 128 := by decide +kernel
    exact this ⟨k, hk2⟩
  rw [e]
  omega

/-- What is neither the Out's block nor a plain block of bytes lies as it lay. -/
def Kept (g : Nat) (w w' : World) : Prop := ∀ k o, w.heap[k]? = some o → k ≠ g → (∀ C, o ≠ .cells C 5 (0, 0)) → w'.heap[k]? = some o
theorem Kept.refl (g : Nat) (w : World) : Kept g w w := fun _ _ h _ _ => h
theorem Kept.trans {g : Nat} {a b c : World} (h : Kept g a b) (k : Kept g b c) : Kept g a c := fun i o hi hne ho => k i o (h i o hi hne ho) hne ho
theorem Kept.push {base g m : Nat} {W w1 : World} {v v' : Value} {xs : List Value} (hrow : W.ownsRow base 5 1 v m xs) (hgrow : W.grownBy w1 v.ownBlock) : Kept g W (w1.setCell ⟨g, 0, none⟩ v') := by
  intro k o hk hne ho
  rw [Below.heap_setCell _ _ _ _ hne, hgrow.block k (heap_lt hk) ?_]
  · exact hk
  · intro e
    rcases hrow.2 with ⟨rfl, _⟩ | ⟨g', cap, cur, rfl, _, hh, _⟩
    · cases e
    · have e2 : k = g' := by simpa [Value.ownBlock] using e
      subst e2
      rw [hh] at hk
      injection hk with hk
      exact ho _ hk.symm
theorem Kept.alloc (g : Nat) (w : World) (o : Obj) : Kept g w (w.alloc o) := fun k _ hk _ _ => (Below.heap_alloc w o k (heap_lt hk)).trans hk

/-- One byte more. -/
theorem out_push {base g : Nat} {W w1 : World} {bs : List Int} {v v' : Value} {m : Nat} {x : Int} {tmp : Obj} (hv : Boxed W g 32 v) (hg : base ≤ g) (hrow : W.ownsRow base 5 1 v m (bs.map (Value.int .u8))) (hm : bs.length = m)
    (hown : w1.ownsRow base 5 1 v' (m + 1) (bs.map (Value.int .u8) ++ [Value.int .u8 x])) (hgrow : (W.alloc tmp).grownBy w1 v.ownBlock) :
    OutAt base (w1.setCell ⟨g, 0, none⟩ v') g (bs ++ [x]) ∧ Below base W (w1.setCell ⟨g, 0, none⟩ v') := by
  obtain ⟨h1, h2, h3, _, h5⟩ := hv.appended (by decide) hrow (by have := hv.lt; omega) hg hown hgrow
  obtain ⟨A', c', rfl, _, _⟩ := own_slice hown
  exact ⟨⟨A', m + 1, c', h2, hg, by simp [hm], by rw [List.map_append]; exact h3⟩, h5⟩

set_option maxHeartbeats 1000000 in
theorem out_uint_k (base g : Nat) (n : Int) (bs : List Int) (w : World) (h : OutAt base w g bs) (hn : W64 n) (hl : bs.length ≤ 1000000) :
    Calls Try.prog 23 #[.pointer (some ⟨g, 0, none⟩), .int .u64 n] w fun e w' => e = .returned (.tuple #[]) ∧ OutAt base w' g (bs ++ encU n) ∧ Below base w w' ∧ Kept g w w' := by
  obtain ⟨i0, hi, hz0, hz1, hz2⟩ := info_parts info_byte
  obtain ⟨hn0, hn1⟩ := hn
  go_enter Try.func23, Try.ntmps23
  go_wp2
  go_loopw [1] (fun x wr => ∃ (f : Nat) (m : Int) (pre : List Int), f < 10 ∧ 0 ≤ m ∧ m < 2 * 128 ^ f ∧ m < 18446744073709551616 ∧ x = .int .u64 m ∧ pre.length + f = 9 ∧ Hid (pre ++ encF (f + 1) m = encU n) ∧ OutAt base wr g (bs ++ pre) ∧ Below base w wr ∧ Kept g w wr) (fun x _ => (intOf x).toNat)
  case atStart => exact ⟨9, n, [], by omega, hn0, by simpa using hn1, hn1, rfl, rfl, rfl, by simpa using h, Below.refl _ _, Kept.refl _ _⟩
  case round =>
    obtain ⟨f, m, pre, hf, h0, h1, h2, rfl, hp, hE, ⟨A, k, c, hv, hg, hk, hrow⟩, hB, hKp⟩ := hrel
    have hB0 : base ≤ wr.heap.size := by have := hv.lt; omega
    have hkl : k ≤ 1000010 := by simp at hk; omega
    have hc := hv.cell
    have hfz := hv.frozen
    have HK := Lib.hid hk
    clear hk h
    have ho := Lib.hid (more_or m)
    have hnr := hv.not_row (by decide) hrow
    by_cases hlt : m < 128
    · have hge : ¬ 128 ≤ m := by omega
      go_wp2_with (at_builtin
                   refine wpList_append_own _ rfl _ _ 24 rfl base 5 i0 _ 1 1 Try.underlying24 hi hz0 hz1 hz2 rfl (by decide) _ _ _ rfl (hrow.alloc _) ⟨wr.heap.size, 0, none⟩ 1 1 [_] rfl rfl (cell_one_new _ _ _) (by simp [Value.oneCell']) (by simp only [maxLen]; omega) (by omega) (by simp; omega) ?_
                   intro v' w1 hown' hgrow _
                   obtain ⟨g', cap', rfl⟩ := ownsRow_succ hown'
                   have hv1 := (hv.alloc _).kept hgrow hnr
                   have hc1 := hv1.cell
                   have hf1 := hv1.frozen)
      obtain ⟨ha, hb⟩ := out_push hv hg hrow HK.out hown' hgrow
      go_end0
      exact ⟨rfl, by rw [← hE.out, encF_last f m hlt, ← List.append_assoc]; exact ha, hB.trans hb, hKp.trans ((Kept.alloc _ _ _).trans (Kept.push (hrow.alloc _) hgrow))⟩
    · have hge : 128 ≤ m := by omega
      obtain ⟨q, rfl⟩ : ∃ q, f = q + 1 := ⟨f - 1, by
        rcases f with _ | f
        · simp at h1; omega
        · omega⟩
      have h1' : m / 128 < 2 * 128 ^ q := by rw [Int.pow_succ] at h1; omega
      clear h1
      go_wp2_with (at_builtin
                   refine wpList_append_own _ rfl _ _ 24 rfl base 5 i0 _ 1 1 Try.underlying24 hi hz0 hz1 hz2 rfl (by decide) _ _ _ rfl (hrow.alloc _) ⟨wr.heap.size, 0, none⟩ 1 1 [_] rfl rfl (cell_one_new _ _ _) (by simp [Value.oneCell']) (by simp only [maxLen]; omega) (by omega) (by simp; omega) ?_
                   intro v' w1 hown' hgrow _
                   obtain ⟨g', cap', rfl⟩ := ownsRow_succ hown'
                   have hv1 := (hv.alloc _).kept hgrow hnr
                   have hc1 := hv1.cell
                   have hf1 := hv1.frozen)
      obtain ⟨ha, hb⟩ := out_push hv hg hrow HK.out hown' hgrow
      go_roundw
      case rel => exact ⟨q, m / 128, pre ++ [128 + m % 128], by omega, by omega, h1', by omega, rfl, by simp; omega, by show _ = _; rw [← hE.out, encF_step _ _ hlt]; simp, by rw [← ho.out, ← List.append_assoc]; exact ha, hB.trans hb, hKp.trans ((Kept.alloc _ _ _).trans (Kept.push (hrow.alloc _) hgrow))⟩
      case measure => simp [intOf]; omega

theorem out_uint (base g : Nat) (n : Int) (bs : List Int) (w : World) (h : OutAt base w g bs) (hn : W64 n) (hl : bs.length ≤ 1000000) :
    Calls Try.prog 23 #[.pointer (some ⟨g, 0, none⟩), .int .u64 n] w fun e w' => e = .returned (.tuple #[]) ∧ OutAt base w' g (bs ++ encU n) ∧ Below base w w' :=
  (out_uint_k base g n bs w h hn hl).mono fun _ _ ⟨h1, h2, h3, _⟩ => ⟨h1, h2, h3⟩

theorem wrap_i64_id {n : Int} (h : I64 n) : wrap64 n = n := by
  obtain ⟨_, _⟩ := h
  simp only [wrap64]
  omega
theorem zig_pos {n : Int} (h : I64 n) (h0 : 0 ≤ n) : IntKind.u64.wrap (IntKind.u64.wrap n * 2) = zig n := by
  obtain ⟨_, _⟩ := h
  unfold zig
  rw [IntKind.wrap_u64, IntKind.wrap_u64, if_neg (by omega)]
  omega
theorem zig_neg {n : Int} (h : I64 n) (h0 : n < 0) : bits .xor .u64 IntKind.u64.max (IntKind.u64.wrap (IntKind.u64.wrap n * 2)) = zig n := by
  obtain ⟨_, _⟩ := h
  have e : IntKind.u64.wrap (IntKind.u64.wrap n * 2) = 2 * n + 18446744073709551616 := by
    rw [IntKind.wrap_u64, IntKind.wrap_u64]
    omega
  rw [e]
  obtain ⟨k, hk⟩ := Int.eq_ofNat_of_zero_le (show 0 ≤ 2 * n + 18446744073709551616 by omega)
  rw [hk]
  have hk2 : k < 18446744073709551616 := by omega
  have em : IntKind.u64.max = ((18446744073709551615 : Nat) : Int) := by decide
  rw [em, bits_xor_u64_nat _ _ (by decide) hk2]
  have ex : (18446744073709551615 : Nat) ^^^ k = 18446744073709551615 - k := by
    have e1 : (BitVec.allOnes 64 ^^^ BitVec.ofNat 64 k).toNat = (~~~ BitVec.ofNat 64 k).toNat := by rw [BitVec.allOnes_xor]
    rw [BitVec.toNat_xor, BitVec.toNat_not, BitVec.toNat_ofNat, BitVec.toNat_allOnes, Nat.mod_eq_of_lt (by omega)] at e1
    exact e1
  rw [ex]
  unfold zig
  rw [if_pos h0]
  omega

set_option maxHeartbeats 400000 in
theorem zigzag_any (n : Int) (h : I64 n) (w : World) :
    Calls Try.prog 41 #[.int .i64 n] w fun e w' => e = .returned (.int .u64 (zig n)) ∧ w = w' := by
  by_cases h0 : n < 0
  · have H := Lib.hid (zig_neg h h0)
    clear h
    go_enter Try.func41, Try.ntmps41
    go_wp2
    go_ret
    exact ⟨by rw [← H.out]; rfl, rfl⟩
  · have H := Lib.hid (zig_pos h (by omega))
    clear h
    go_enter Try.func41, Try.ntmps41
    go_wp2
    go_ret
    exact ⟨by rw [← H.out]; rfl, rfl⟩

set_option maxHeartbeats 400000 in
theorem out_int (base g : Nat) (n : Int) (bs : List Int) (w : World) (h : OutAt base w g bs) (hn : I64 n) (hl : bs.length ≤ 1000000) :
    Calls Try.prog 24 #[.pointer (some ⟨g, 0, none⟩), .int .i64 n] w fun e w' => e = .returned (.tuple #[]) ∧ OutAt base w' g (bs ++ encI n) ∧ Below base w w' := by
  go_enter Try.func24, Try.ntmps24
  go_wp2_with fail
  refine (zigzag_any n hn _).mono ?_
  rintro e w1 ⟨rfl, rfl⟩
  go_wp2_with fail
  refine (out_uint base g (zig n) bs _ h (zig_w hn) hl).mono ?_
  rintro e w1 ⟨rfl, h1, hb1⟩
  go_wp2_with fail
  go_end0
  exact ⟨rfl, h1, hb1⟩

theorem take_succ_getD (l : List Int) (k : Nat) (h : k < l.length) : l.take (k + 1) = l.take k ++ [l[k]?.getD 0] := by
  rw [List.take_add_one, List.getElem?_eq_getElem h]; rfl
theorem encI_le (zs : List Int) : (zs.flatMap encI).length ≤ 10 * zs.length := by
  induction zs with
  | nil => simp
  | cons x xs ih =>
    have := encU_len (zig x)
    rw [List.flatMap_cons, List.length_append, List.length_cons]
    unfold encI at *
    omega

set_option maxHeartbeats 1000000 in
theorem out_ints (base g : Nat) (A : Option Addr) (n c : Nat) (zs bs : List Int) (w : World) (h : OutAt base w g bs) (hz : Lst 3 .i64 base w A n c zs) (hi : ∀ x ∈ zs, I64 x) (hl : bs.length + 10 * n ≤ 900000) :
    Calls Try.prog 26 #[.pointer (some ⟨g, 0, none⟩), .slice A n c] w fun e w' => e = .returned (.tuple #[]) ∧ OutAt base w' g (bs ++ encL zs) ∧ Below base w w' := by
  have hw : IntKind.u64.wrap (n : Int) = n := by rw [IntKind.wrap_u64]; omega
  go_enter Try.func26, Try.ntmps26
  go_wp2_with fail
  refine (out_uint base g n bs _ h ⟨by omega, by omega⟩ (by omega)).mono ?_
  rintro e w1 ⟨rfl, h1, hb1⟩
  have hL := Lib.hid hz.len
  have HI := Lib.hid hi
  clear hw hi
  go_wp2_with fail
  go_loopw [13] (fun i wr => ∃ k : Nat, k ≤ n ∧ i = .int .i64 k ∧ OutAt base wr g (bs ++ encU n ++ (zs.take k).flatMap encI) ∧ Below base w wr) (fun i _ => n - (intOf i).toNat)
  case atStart => exact ⟨0, Nat.zero_le _, rfl, by simpa using h1, hb1⟩
  case round =>
    obtain ⟨k, hk, rfl, hO, hB⟩ := hrel
    by_cases hlt : k < n
    · obtain ⟨b, off, rfl, hbl, hcs⟩ := hz.ints.at_ (by omega)
      have hck := (hB.cell (p := ⟨b, off + k, none⟩) hbl).trans (hcs k hlt)
      have hel := encI_le (zs.take k)
      have htl : (zs.take k).length ≤ k := List.length_take_le _ _
      have hul := encU_len n
      have HS := Lib.hid (take_succ_getD zs k (by rw [hL.out]; exact hlt))
      have hx := HI.out _ (getD_mem (l := zs) (j := k) (by rw [hL.out]; exact hlt))
      clear hz hcs
      obtain ⟨x, ex⟩ : ∃ x, zs[k]?.getD 0 = x := ⟨_, rfl⟩
      rw [ex] at hck HS hx
      clear ex
      go_wp2_with fail
      refine (out_int base g x _ _ hO hx (by simp only [List.length_append]; omega)).mono ?_
      rintro e w2 ⟨rfl, h2, hb2⟩
      go_wp2_with fail
      go_roundw
      case rel => exact ⟨k + 1, by omega, by go_num, by rw [HS.out, List.flatMap_append]; simpa using h2, hB.trans hb2⟩
      case measure => simp [intOf]; omega
    · obtain rfl : k = n := by omega
      have e : zs.take k = zs := List.take_of_length_le (by rw [hL.out]; omega)
      rw [e] at hO
      clear e hz
      go_wp2_with fail
      go_end0
      exact ⟨rfl, by unfold encL; rw [hL.out, ← List.append_assoc]; exact hO, hB⟩

set_option maxHeartbeats 1000000 in
theorem out_bytes_k (base g : Nat) (A : Option Addr) (n c : Nat) (zs bs : List Int) (w : World) (h : OutAt base w g bs) (hz : ∀ W, Below base w W → Kept g w W → Slc .u8 W A n c zs) (hzl : zs.length = n) (hl : bs.length + n ≤ 900000) :
    Calls Try.prog 25 #[.pointer (some ⟨g, 0, none⟩), .slice A n c] w fun e w' => e = .returned (.tuple #[]) ∧ OutAt base w' g (bs ++ encB zs) ∧ Below base w w' := by
  have HZ := Lib.hid hz
  have HZL := Lib.hid hzl
  clear hz hzl
  have hw : IntKind.u64.wrap (n : Int) = n := by rw [IntKind.wrap_u64]; omega
  obtain ⟨i0, hi, hz0, hz1, hz2⟩ := info_parts info_byte
  go_enter Try.func25, Try.ntmps25
  go_wp2_with fail
  refine (out_uint_k base g n bs _ h ⟨by omega, by omega⟩ (by omega)).mono ?_
  rintro e w1 ⟨rfl, ⟨A1, m1, c1, hv, hg, hk, hrow⟩, hb1, hk1⟩
  have hB0 : base ≤ w1.heap.size := by have := hv.lt; omega
  have hul := encU_len n
  have hm1 : m1 ≤ bs.length + 10 := by simp at hk; omega
  have hc := hv.cell
  have hfz := hv.frozen
  have HK := Lib.hid hk
  have hnr := hv.not_row (by decide) hrow
  have hsl := HZ.out _ hb1 hk1
  have HL := HZL
  clear hk h hw hk1
  go_wp2_with (at_builtin
               refine wpList_append_slc rfl _ _ 24 rfl base 5 i0 _ 1 Try.underlying24 hi hz0 hz1 hz2 rfl _ _ _ rfl hrow .u8 _ _ _ _ rfl hsl (by simp only [maxLen]; omega) (by omega) hB0 ?_
               intro A' c' w2 hown' hgrow
               have hv1 := hv.kept hgrow hnr
               have hc1 := hv1.cell
               have hf1 := hv1.frozen)
  go_end0
  refine ⟨rfl, ⟨A', m1 + n, c', hv1.set _, hg, by unfold encB; rw [HL.out, ← List.append_assoc, List.length_append, HK.out, HL.out], ?_⟩, hb1.trans ?_⟩
  · unfold encB
    rw [HL.out, ← List.append_assoc, List.map_append]
    exact hown'.kept (grownBy_setCell' w2 g _) (.inr (hv1.not_row (by decide) hown').symm)
  · refine ((Below.refl base w1).grown hgrow hB0 fun k hk => (hrow.lt k hk).1).setCell (p := ⟨g, 0, none⟩) hg _
theorem out_bytes (base g : Nat) (A : Option Addr) (n c : Nat) (zs bs : List Int) (w : World) (h : OutAt base w g bs) (hz : Lst 5 .u8 base w A n c zs) (hl : bs.length + n ≤ 900000) :
    Calls Try.prog 25 #[.pointer (some ⟨g, 0, none⟩), .slice A n c] w fun e w' => e = .returned (.tuple #[]) ∧ OutAt base w' g (bs ++ encB zs) ∧ Below base w w' :=
  out_bytes_k base g A n c zs bs w h (fun _ hb _ => (hz.below hb).slc) hz.len hl
end Go.Proofs.Ytcojbloflaeefaa
