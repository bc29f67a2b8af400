/-
  The program's answers: set, and the map of a list of answers. Conditions: the list's length.
  The contracts of wire.In's Uint and Int: they read a varint. No condition beyond the reader's shape.
  The contracts of wire.In's Int, Bytes and Ints: they read what the readers of the mathematics read. No condition beyond the reader's shape.
  The reference's Same: two tapes have the same events and answers. No condition but the lengths.
  The contract of the reference's SameBytes. Condition: both slices hold bytes.
-/
import Derived.Test.YtiokiecnglmbnaaK4
import Derived.Test.YtiokiecnglmbnaaK3
import Derived.BigQuiet

namespace Go.Proofs.Ytiokiecnglmbnaa
open Go Go.RowKit Go.Proofs
attribute [local go_sem] Oper.semAt_some

def updQ (f : NM.Qu → Int) (q : NM.Qu) (n : Int) : NM.Qu → Int := fun r => if r = q then max 0 n else f r
set_option maxHeartbeats 1000000 in
set_option maxRecDepth 100000 in
theorem set_any (B m : Nat) (f : NM.Qu → Int) (q : NM.Qu) (y : Int) (w : World) (h : MapQ w B f m) :
    Calls Try.prog 50 #[.map (some B), quV q, .int .i64 y] w fun e w' => e = .returned (.tuple #[]) ∧ MapQ w' B (updQ f q y) (m + 1) ∧ w.grownBy w' (some B) := by
  obtain ⟨U, hU⟩ : ∃ U, w.alloc (.cells #[.int .i64 q.c, .int .i64 q.h, .int .i64 q.t, .int .i64 q.k, .int .i64 q.i] 30) = U := ⟨_, rfl⟩
  have hg : w.grownBy U (some B) := by rw [← hU]; exact World.grownBy_alloc w _ _
  have hM : MapQ U B f m := h.keep h.lt (by rw [← hU]; exact one_box w _)
  obtain ⟨k0, k1, k2, k3, k4⟩ := row5 (show U.heap[w.heap.size]? = some (.cells #[.int .i64 q.c, .int .i64 q.h, .int .i64 q.t, .int .i64 q.k, .int .i64 q.i] 30 (0, 0)) by rw [← hU]; exact new_at rfl)
  have HG := Lib.hid hg
  have HM := Lib.hid hM
  clear hg hM h
  go_enter Try.func50, Try.ntmps50
  by_cases hy : 0 < y
  · have d0 : decide (0 < y) = true := decide_eq_true hy
    have HE := Lib.hid (show ∀ r, updQ f q y r = (fun r => if r = q then y else f r) r from fun r => by unfold updQ; simp only; split <;> omega)
    go_wp2_with (first | (at_mapUpdate; refine wpList_update_q rfl _ _ _ rfl rfl HM.out q y rfl rfl hy ?_; intro w1 hm1 hg1) | fail)
    go_end0
    exact ⟨rfl, hm1.congr HE.out, ⟨hg1.os.trans HG.out.os, hg1.tape.trans HG.out.tape, hg1.output.trans HG.out.output, Nat.le_trans HG.out.size hg1.size, fun b hb hne => (hg1.block b (Nat.lt_of_lt_of_le hb HG.out.size) hne).trans (HG.out.block b hb hne)⟩⟩
  · have d0 : decide (0 < y) = false := decide_eq_false hy
    have HE := Lib.hid (show ∀ r, updQ f q y r = (fun r => if r = q then 0 else f r) r from fun r => by unfold updQ; simp only; split <;> omega)
    go_wp2_with (first | (at_delete; refine wpList_delete_q rfl _ _ rfl rfl HM.out q rfl ?_; intro w1 hm1 hg1) | fail)
    go_end0
    exact ⟨rfl, (hm1.congr HE.out).mono (Nat.le_succ _), ⟨hg1.os.trans HG.out.os, hg1.tape.trans HG.out.tape, hg1.output.trans HG.out.output, Nat.le_trans HG.out.size hg1.size, fun b hb hne => (hg1.block b (Nat.lt_of_lt_of_le hb HG.out.size) hne).trans (HG.out.block b hb hne)⟩⟩
theorem updQ_get (l : List TP.An) (x : TP.An) (q : NM.Qu) : TP.getA (l ++ [x]) q = updQ (TP.getA l) x.1 x.2 q := by
  rw [TP.getA_snoc]
  unfold updQ
  by_cases h : q = x.1
  · rw [if_pos h, if_pos h.symm]
  · rw [if_neg h, if_neg (fun e => h e.symm)]
set_option maxHeartbeats 2000000 in
set_option maxRecDepth 100000 in
theorem collectA_any {A : Option Addr} {n c : Nat} {l : List TP.An} (w : World) (ha : Ans w A n l) (bn : n ≤ 1000000) :
    Calls Try.prog 45 #[.slice A n c] w fun e w' => ∃ B, e = .returned (.map (some B)) ∧ w.heap.size ≤ B ∧ MapQ w' B (TP.getA l) n ∧ Below w.heap.size w w' := by
  have HA := Lib.hid ha
  have hmm := @run_makeMap Try.prog
  clear ha
  go_enter Try.func45, Try.ntmps45
  go_wp2_with fail
  go_loopw [5, 9] (fun _ i V => ∃ k : Nat, k ≤ n ∧ i = .int .i64 (k : Int) ∧ Hid (MapQ V w.heap.size (TP.getA (l.take k)) k) ∧ Hid (Below w.heap.size w V)) (fun _ i _ => n - (intOf i).toNat)
  case atStart => exact ⟨0, by omega, rfl, (MapQ.made w).congr fun q => by simp [TP.getA], (Below.refl _ w).alloc (Nat.le_refl _) _⟩
  case round =>
    obtain ⟨k, hk, rfl, HM, HV⟩ := hrel
    clear hmm
    by_cases hin : k < n
    · have dk : decide (k < n) = true := decide_eq_true hin
      obtain ⟨x, hx⟩ : ∃ x, l[k]? = some x := ⟨_, List.getElem?_eq_getElem (by rw [HA.out.1]; exact hin)⟩
      obtain ⟨g, hg, hgl, hxa⟩ := HA.out.2 (by omega)
      obtain ⟨c0, c1, c2, c3, c4, c5⟩ := (hxa k x hx).keep hgl HV.out
      subst hg
      have HX := Lib.hid (show ∀ q, TP.getA (l.take (k + 1)) q = updQ (TP.getA (l.take k)) x.1 x.2 q from fun q => by rw [List.take_add_one, hx]; exact updQ_get _ _ _)
      obtain ⟨⟨qc, qh, qt, qk, qi⟩, y⟩ := x
      clear hxa hx
      have HM2 := Lib.hid (HM.out.keep HM.out.lt (show Below wr.heap.size wr (wr.alloc (.cells #[.int .i64 qc, .int .i64 qh, .int .i64 qt, .int .i64 qk, .int .i64 qi, .int .i64 y] 71)) from one_box wr _))
      have HV2 := Lib.hid (HV.out.alloc HV.out.size (.cells #[.int .i64 qc, .int .i64 qh, .int .i64 qt, .int .i64 qk, .int .i64 qi, .int .i64 y] 71))
      have hsz := HV.out.size
      go_wp2_with (go_at_call 50; refine (set_any w.heap.size k _ ⟨qc, qh, qt, qk, qi⟩ y _ HM2.out).mono ?_; rintro e w1 ⟨rfl, hm1, hg1⟩; have HM3 := Lib.hid (hm1.congr HX.out); have HV3 := Lib.hid (HV2.out.grown hg1 (by simp; omega) (fun b e => by injection e with e; omega)); clear hm1 hg1)
      go_roundw
      case rel => exact ⟨k + 1, by omega, by go_num, HM3, HV3⟩
      case measure => simp [intOf]; omega
    · have dk : decide (k < n) = false := decide_eq_false hin
      obtain rfl : k = n := by omega
      have HT := Lib.hid (show l.take k = l from List.take_of_length_le (by rw [HA.out.1]; exact Nat.le_refl _))
      go_wp2_with fail
      go_ret
      refine ⟨_, rfl, Nat.le_refl _, ?_, HV.out⟩
      have := HM.out
      rw [HT.out] at this
      exact this
end Go.Proofs.Ytiokiecnglmbnaa

namespace Go.Proofs.Ytiokiecnglmbnaa
open Go Go.RowKit

theorem ret_u64 {a b : Int} (h : a = b) : Ending.returned (.int .u64 a) = .returned (.int .u64 b) := by rw [h]
theorem ret_i64 {a b : Int} (h : a = b) : Ending.returned (.int .i64 a) = .returned (.int .i64 b) := by rw [h]
theorem pow7 (k : Nat) (hk : k ≤ 9) : (2 : Nat) ^ (7 * k) = 128 ^ k ∧ 128 ^ k ≤ 9223372036854775808 ∧ (k ≤ 8 → 128 ^ k ≤ 72057594037927936) := by
  have : ∀ k : Fin 10, (2 : Nat) ^ (7 * k.val) = 128 ^ k.val ∧ 128 ^ k.val ≤ 9223372036854775808 ∧ (k.val ≤ 8 → 128 ^ k.val ≤ 72057594037927936) := by decide +kernel
  exact this ⟨k, by omega⟩
theorem or_step (k : Nat) (acc x : Int) (hk : k ≤ 9) (h9 : k = 9 → x ≤ 1) (h0 : 0 ≤ x) (h1 : x < 256) (ha0 : 0 ≤ acc) (ha1 : acc < 128 ^ k) :
    bits .or .u64 acc (IntKind.u64.wrap (IntKind.u64.wrap (bits .andNot .u8 x 128) * 2 ^ (7 * k))) = acc + (x % 128) * 128 ^ k ∧ 0 ≤ acc + (x % 128) * 128 ^ k ∧ acc + (x % 128) * 128 ^ k < 128 ^ (k + 1) := by
  obtain ⟨hp1, hp2, hp3⟩ := pow7 k hk
  have e1 : bits .andNot .u8 x 128 = x % 128 := by
    rw [u8_andNot x 128 h0 h1 (by omega) (by omega)]
    show ((x.toNat &&& 127 : Nat) : Int) = _
    rw [nat_mask7]
    omega
  have e2 : IntKind.u64.wrap (x % 128) = x % 128 := by rw [IntKind.wrap_u64]; omega
  rw [e1, e2]
  obtain ⟨a, rfl⟩ := Int.eq_ofNat_of_zero_le ha0
  obtain ⟨y, hy⟩ := Int.eq_ofNat_of_zero_le (show 0 ≤ x % 128 by omega)
  rw [hy]
  have hy1 : y < 128 := by omega
  have hy9 : k = 9 → y ≤ 1 := fun h => by have := h9 h; omega
  have ep : ((128 : Int) ^ k) = ((128 ^ k : Nat) : Int) := by rw [Int.natCast_pow]; rfl
  have ep2 : ((2 : Int) ^ (7 * k)) = ((128 ^ k : Nat) : Int) := by rw [← hp1, Int.natCast_pow]; rfl
  rw [ep] at ha1
  rw [ep2, Int.pow_succ, ep]
  have hP : 0 < 128 ^ k := Nat.pow_pos (by omega)
  have haP : a < 128 ^ k := by omega
  have hyP : y * 128 ^ k < 18446744073709551616 := by
    by_cases h : k = 9
    · have := hy9 h
      have := Nat.mul_le_mul this hp2
      omega
    · have := Nat.mul_le_mul (show y ≤ 127 by omega) (hp3 (by omega))
      omega
  have e3 : ((y : Int) * ((128 ^ k : Nat) : Int)) = ((y * 128 ^ k : Nat) : Int) := by rw [Int.natCast_mul]
  have e4 : IntKind.u64.wrap ((y * 128 ^ k : Nat) : Int) = ((y * 128 ^ k : Nat) : Int) := by rw [IntKind.wrap_u64]; omega
  have e5 : a ||| (y * 128 ^ k) = a + y * 128 ^ k := by
    rw [Nat.or_comm, nat_join (7 * k) (y * 128 ^ k) a (by rw [hp1]; exact Nat.mul_mod_left _ _) (by rw [hp1]; exact haP), Nat.add_comm]
  rw [e3, e4, u64_or_nat _ _ (by omega) hyP, e5]
  have e6 : y * 128 ^ k + 128 ^ k ≤ 128 ^ k * 128 := by
    have := Nat.mul_le_mul_right (128 ^ k) (show y + 1 ≤ 128 by omega)
    rw [Nat.add_mul, Nat.one_mul] at this
    omega
  refine ⟨by omega, by omega, by omega⟩

set_option maxHeartbeats 400000 in
theorem in_uint_bad {B : Nat} (g : Nat) (e : Int) (w : World) (h : InAt B w g (.bad e)) :
    Calls Try.prog 93 #[.pointer (some ⟨g, 0, none⟩)] w fun r w' => r = .returned (.int .u64 0) ∧ InAt B w' g (.bad e) ∧ But g w w' := by
  go_enter Try.func93, Try.ntmps93
  go_wp2
  go_loopw [3, 4] (fun n i wr => n = .int .u64 0 ∧ i = .int .i64 0 ∧ wr = w) (fun _ _ _ => 0)
  case atStart => exact ⟨rfl, rfl, rfl⟩
  case round =>
    obtain ⟨rfl, rfl, rfl⟩ := hrel
    go_wp2_with fail
    refine (in_octet g (.bad e) _ h).mono ?_
    rintro r w1 ⟨rfl, h1, hb⟩
    have h1' := h1
    obtain ⟨A, n, c, hg, h0, hi0⟩ := h1
    have hc := two_c1 hg
    have HI := Lib.hid hi0
    clear hi0
    have e0 : (rdO (.bad e)).1 = 0 := rfl
    rw [e0]
    clear e0 h
    go_wp2_with fail
    go_ret
    exact ⟨rfl, h1', hb⟩

set_option maxHeartbeats 1000000 in
theorem in_uint_ok {B : Nat} (g : Nat) (bs : List Int) (w : World) (h : InAt B w g (.ok bs)) :
    Calls Try.prog 93 #[.pointer (some ⟨g, 0, none⟩)] w fun r w' => r = .returned (.int .u64 (decF 0 0 bs).1) ∧ InAt B w' g (decF 0 0 bs).2 ∧ But g w w' := by
  go_enter Try.func93, Try.ntmps93
  go_wp2
  go_loopw [3, 4] (fun n i wr => ∃ (k : Nat) (acc : Int) (cs : List Int), k ≤ 9 ∧ n = .int .u64 acc ∧ i = .int .i64 k ∧ 0 ≤ acc ∧ acc < 128 ^ k ∧ Hid (decF k acc cs = decF 0 0 bs) ∧ InAt B wr g (.ok cs) ∧ But g w wr) (fun _ i _ => 10 - (intOf i).toNat)
  case atStart => exact ⟨0, 0, bs, by omega, rfl, rfl, by omega, by simp, rfl, h, but_refl _ _⟩
  case round =>
    obtain ⟨k, acc, cs, hk, rfl, rfl, ha0, ha1, hD, hI, hB⟩ := hrel
    clear h
    have HA := Lib.hid ha1
    clear ha1
    cases cs with
    | nil =>
      go_wp2_with fail
      refine (in_octet g (.ok []) _ hI).mono ?_
      rintro r w1 ⟨rfl, h1, hb⟩
      have h1' := h1
      obtain ⟨A, n, c, hg, h0, hi0⟩ := h1
      have hc := two_c1 hg
      clear hi0
      have e0 : (rdO (.ok [])).1 = 0 := rfl
      rw [e0]
      clear e0 hI
      by_cases hk0 : k = 0
      · subst hk0
        go_wp2_with fail
        go_ret
        exact ⟨by rw [← hD.out]; rfl, by rw [← hD.out]; exact h1', but_trans hB hb⟩
      · have hkp : (0 : Int) < k := by omega
        have hF := Lib.hid (in_fail g (.bad 7) 8 w1 h1' (by decide) (by unfold I64; omega))
        go_wp2_with fail
        refine hF.out.mono ?_
        rintro r w2 ⟨rfl, h2, hb2⟩
        have h2' := h2
        obtain ⟨A, n, c, hg, h0, hi0⟩ := h2
        have hc := two_c1 hg
        clear hi0
        go_wp2_with fail
        go_ret
        exact ⟨by rw [← hD.out]; rfl, by rw [← hD.out]; exact h2', but_trans (but_trans hB hb) hb2⟩
    | cons x xs =>
      have hx : B8 x := by obtain ⟨A, n, c, hg, hL, h8, hn⟩ := hI; exact h8 x (by simp)
      obtain ⟨hx0, hx1⟩ := hx
      go_wp2_with fail
      refine (in_octet g (.ok (x :: xs)) _ hI).mono ?_
      rintro r w1 ⟨rfl, h1, hb⟩
      have h1' : InAt B w1 g (.ok xs) := h1
      have h1'' := h1'
      obtain ⟨A, n, c, hg, hL1, h81, hn1⟩ := h1''
      have hc := two_c1 hg
      have e0 : (rdO (.ok (x :: xs))).1 = x := rfl
      rw [e0]
      clear e0 hI h1 h81 hL1
      obtain ⟨y, hy⟩ : ∃ y, bits .or .u64 acc (IntKind.u64.wrap (IntKind.u64.wrap (bits .andNot .u8 x 128) * 2 ^ (7 * k))) = y := ⟨_, rfl⟩
      have HY := Lib.hid hy
      clear hy
      by_cases hbad : (0 < k ∧ x = 0) ∨ (k = 9 ∧ 1 < x)
      · -- the byte may not stand here
        have e8 : decF k acc (x :: xs) = (0, .bad 8) := by rw [decF, if_pos hbad]
        have HD := Lib.hid (e8.symm.trans hD.out)
        have hF := Lib.hid (in_fail g (.ok xs) 8 w1 h1' (by decide) (by unfold I64; omega))
        have hkp : (0 : Int) < k := by omega
        clear e8
        by_cases hx0' : x = 0
        · have hxn : (x == 0) = true := by simp [hx0']
          clear hx0' hbad
          go_wp2_with fail
          refine hF.out.mono ?_
          rintro r w2 ⟨rfl, h2, hb2⟩
          have h2' := h2
          obtain ⟨A', n', c', hg', h0, hi0⟩ := h2
          have hc' := two_c1 hg'
          clear hi0 hc hg
          go_wp2_with fail
          go_ret
          exact ⟨by rw [← HD.out]; rfl, by rw [← HD.out]; exact h2', but_trans (but_trans hB hb) hb2⟩
        · have hxn : (x == 0) = false := by simp [hx0']
          have hk9 : ((k : Int) == 9) = true := by simp; omega
          have hx1' : 1 < x := by omega
          clear hx0' hbad
          go_wp2_with fail
          refine hF.out.mono ?_
          rintro r w2 ⟨rfl, h2, hb2⟩
          have h2' := h2
          obtain ⟨A', n', c', hg', h0, hi0⟩ := h2
          have hc' := two_c1 hg'
          clear hi0 hc hg
          go_wp2_with fail
          go_ret
          exact ⟨by rw [← HD.out]; rfl, by rw [← HD.out]; exact h2', but_trans (but_trans hB hb) hb2⟩
      · obtain ⟨hy1, hy2, hy3⟩ := or_step k acc x hk (fun h => by omega) hx0 hx1 ha0 HA.out
        rw [HY.out] at hy1
        rw [← hy1] at hy2 hy3
        have HY1 := Lib.hid hy1
        have HY3 := Lib.hid hy3
        have hS : decF k acc (x :: xs) = if x < 128 then (acc + x * 128 ^ k, .ok xs) else decF (k + 1) (acc + (x - 128) * 128 ^ k) xs := by rw [decF, if_neg hbad]
        have HS := Lib.hid (hS.symm.trans hD.out)
        have HB := Lib.hid hbad
        clear hS hbad hy1 hy3
        have hcase : k = 0 ∨ (0 < k ∧ k ≠ 9 ∧ x ≠ 0) ∨ (k = 9 ∧ x ≠ 0 ∧ ¬ 1 < x) := by have := HB.out; omega
        by_cases hx128 : x < 128
        · have e := HS.out
          have hxm : x % 128 = x := by omega
          rw [if_pos hx128, ← hxm, ← HY1.out] at e
          have HE := Lib.hid e
          clear e hxm
          rcases hcase with hk0 | ⟨hk0, hk1, hx00⟩ | ⟨hk1, hx00, hx2⟩
          · have hk2 : ¬ (0 : Int) < k := by omega
            have hk9 : ((k : Int) == 9) = false := by simp; omega
            clear hk0
            go_wp2_with fail
            go_ret
            exact ⟨by rw [← HE.out]; exact ret_u64 HY.out, by rw [← HE.out]; exact h1', but_trans hB hb⟩
          · have hk2 : (0 : Int) < k := by omega
            have hk9 : ((k : Int) == 9) = false := by simp; omega
            have hxn : (x == 0) = false := by simp [hx00]
            clear hx00 hk1
            go_wp2_with fail
            go_ret
            exact ⟨by rw [← HE.out]; exact ret_u64 HY.out, by rw [← HE.out]; exact h1', but_trans hB hb⟩
          · have hk2 : (0 : Int) < k := by omega
            have hk9 : ((k : Int) == 9) = true := by simp; omega
            have hxn : (x == 0) = false := by simp [hx00]
            have hK := Lib.hid hk1
            clear hx00 hk1
            go_wp2_with fail
            go_ret
            exact ⟨by rw [← HE.out]; exact ret_u64 HY.out, by rw [← HE.out]; exact h1', but_trans hB hb⟩
        · have e := HS.out
          rw [if_neg hx128] at e
          have HE := Lib.hid e
          have hxm := Lib.hid (show x % 128 = x - 128 by omega)
          clear e
          have hk8 : k ≤ 8 := by omega
          rcases hcase with hk0 | ⟨hk0, hk1, hx00⟩ | ⟨hk1, hx00, hx2⟩
          · have hk2 : ¬ (0 : Int) < k := by omega
            have hk9 : ((k : Int) == 9) = false := by simp; omega
            clear hk0
            go_wp2_with fail
            go_roundw
            case rel => exact ⟨k + 1, y, xs, by omega, by rw [HY.out], by go_num, hy2, HY3.out, by show _ = _; rw [HY1.out, hxm.out]; exact HE.out, h1', but_trans hB hb⟩
            case measure => simp [intOf]; omega
          · have hk2 : (0 : Int) < k := by omega
            have hk9 : ((k : Int) == 9) = false := by simp; omega
            have hxn : (x == 0) = false := by simp [hx00]
            clear hx00 hk1
            go_wp2_with fail
            go_roundw
            case rel => exact ⟨k + 1, y, xs, by omega, by rw [HY.out], by go_num, hy2, HY3.out, by show _ = _; rw [HY1.out, hxm.out]; exact HE.out, h1', but_trans hB hb⟩
            case measure => simp [intOf]; omega
          · omega

theorem in_uint {B : Nat} (g : Nat) (s : St) (w : World) (h : InAt B w g s) :
    Calls Try.prog 93 #[.pointer (some ⟨g, 0, none⟩)] w fun r w' => r = .returned (.int .u64 (rdU s).1) ∧ InAt B w' g (rdU s).2 ∧ But g w w' := by
  cases s with
  | ok bs => exact in_uint_ok g bs w h
  | bad e => exact in_uint_bad g e w h
end Go.Proofs.Ytiokiecnglmbnaa

namespace Go.Proofs.Ytiokiecnglmbnaa
open Go Go.RowKit

theorem decF_cases (bs : List Int) (hb : ∀ x ∈ bs, B8 x) : (∃ v r, decF 0 0 bs = (v, .ok r) ∧ W64 v ∧ bs = encU v ++ r) ∨ (∃ e, decF 0 0 bs = (0, .bad e)) := by
  have main : ∀ (bs : List Int) (i : Nat) (acc : Int), (∃ v r, decF i acc bs = (v, .ok r)) ∨ (∃ e, decF i acc bs = (0, .bad e)) := by
    intro bs
    induction bs with
    | nil => intro i acc; exact .inr ⟨7, rfl⟩
    | cons c cs ih =>
      intro i acc
      rw [decF]
      split
      · exact .inr ⟨8, rfl⟩
      · split
        · exact .inl ⟨_, _, rfl⟩
        · exact ih _ _
  rcases main bs 0 0 with ⟨v, r, h⟩ | h
  · obtain ⟨h1, h2⟩ := rdU_inv (bs := bs) hb h
    exact .inl ⟨v, r, h, h1, h2⟩
  · exact .inr h
theorem InAt.w64 {B g : Nat} {w : World} {s : St} (h : InAt B w g s) : W64 (rdU s).1 := by
  cases s with
  | bad e => exact ⟨by simp [rdU], by simp [rdU]⟩
  | ok bs =>
    rcases decF_cases bs h.b8 with ⟨v, r, e, hv, _⟩ | ⟨e', e⟩
    · show W64 (decF 0 0 bs).1
      rw [e]
      exact hv
    · show W64 (decF 0 0 bs).1
      rw [e]
      exact ⟨by simp, by simp⟩

theorem and_one (z : Int) (h : W64 z) : bits .and .u64 z 1 = z % 2 := by
  obtain ⟨h0, h1⟩ := h
  rw [u64_and z 1 h0 h1 (by omega) (by omega)]
  show ((z.toNat &&& 1 : Nat) : Int) = _
  rw [nat_mask1]
  omega
theorem xor_max (n : Int) (h0 : 0 ≤ n) (h1 : n < 18446744073709551616) : bits .xor .u64 IntKind.u64.max n = 18446744073709551615 - n := by
  obtain ⟨k, rfl⟩ := Int.eq_ofNat_of_zero_le h0
  have hk2 : k < 18446744073709551616 := by omega
  have em : IntKind.u64.max = ((18446744073709551615 : Nat) : Int) := by decide
  rw [em, bits_xor_u64_nat _ _ (by decide) hk2]
  have e1 : (BitVec.allOnes 64 ^^^ BitVec.ofNat 64 k).toNat = (~~~ BitVec.ofNat 64 k).toNat := by rw [BitVec.allOnes_xor]
  rw [BitVec.toNat_xor, BitVec.toNat_not, BitVec.toNat_ofNat, BitVec.toNat_allOnes, Nat.mod_eq_of_lt (by omega)] at e1
  have ex : (18446744073709551615 : Nat) ^^^ k = 18446744073709551615 - k := e1
  rw [ex]
  omega
theorem wrap64_eq (n : Int) : wrap64 n = (n + 9223372036854775808) % 18446744073709551616 - 9223372036854775808 := by simp only [wrap64]

set_option maxHeartbeats 400000 in
theorem unzigzag_any (z : Int) (h : W64 z) (w : World) :
    Calls Try.prog 102 #[.int .u64 z] w fun e w' => e = .returned (.int .i64 (unzig z)) ∧ w = w' := by
  have ha := and_one z h
  obtain ⟨h0, h1⟩ := h
  by_cases h2 : z % 2 = 1
  · have ht : (bits .and .u64 z 1 == 1) = true := by rw [ha, h2]; rfl
    have HX := Lib.hid (xor_max (z / 2) (by omega) (by omega))
    have H2 := Lib.hid h2
    have HB := Lib.hid (show z < 18446744073709551616 from h1)
    clear ha h2 h1
    go_enter Try.func102, Try.ntmps102
    go_wp2
    go_ret
    refine ⟨?_, rfl⟩
    have := H2.out
    have := HB.out
    exact ret_i64 (by unfold unzig; rw [HX.out, wrap64_eq, if_pos H2.out]; omega)
  · have ht : (bits .and .u64 z 1 == 1) = false := by rw [ha]; simp; omega
    have H2 := Lib.hid h2
    have HB := Lib.hid (show z < 18446744073709551616 from h1)
    clear ha h2 h1
    go_enter Try.func102, Try.ntmps102
    go_wp2
    go_ret
    refine ⟨?_, rfl⟩
    have := H2.out
    have := HB.out
    exact ret_i64 (by unfold unzig; rw [wrap64_eq, if_neg H2.out]; omega)

set_option maxHeartbeats 400000 in
theorem in_int {B : Nat} (g : Nat) (s : St) (w : World) (h : InAt B w g s) :
    Calls Try.prog 94 #[.pointer (some ⟨g, 0, none⟩)] w fun r w' => r = .returned (.int .i64 (rdI s).1) ∧ InAt B w' g (rdI s).2 ∧ But g w w' := by
  go_enter Try.func94, Try.ntmps94
  go_wp2_with fail
  refine (in_uint g s _ h).mono ?_
  rintro r w1 ⟨rfl, h1, hb⟩
  go_wp2_with fail
  refine (unzigzag_any _ h.w64 _).mono ?_
  rintro r w2 ⟨rfl, rfl⟩
  go_wp2_with fail
  go_ret
  exact ⟨rfl, h1, hb⟩

def lenOf : Value → Nat | .slice _ n _ => n | _ => 0
/-- A slice of the integers zs that the call made; of what was there no other block than g has turned. -/
def MkB (t : TypeId) (k : IntKind) (g : Nat) (w : World) (zs : List Int) (e : Ending) (w' : World) : Prop :=
  ∃ A n c, e = .returned (.slice A n c) ∧ zs.length = n ∧ Lst t k w'.heap.size w' A n c zs ∧ w'.ownsRow w.heap.size t 1 (.slice A n c) n (zs.map (Value.int k)) ∧ But g w w'
end Go.Proofs.Ytiokiecnglmbnaa

namespace Go.Proofs.Ytiokiecnglmbnaa
open Go Go.RowKit Go.Proofs
attribute [local go_sem] Oper.semAt_some

theorem take_differ {α : Type} {l r : List α} {k : Nat} {x y : α} (hx : l[k]? = some x) (hy : r[k]? = some y) (h : x ≠ y) : l ≠ r := fun e => by
  subst e
  rw [hx] at hy
  injection hy with hy
  exact h hy
theorem take_more {α : Type} {l r : List α} {k : Nat} {x : α} (h : l.take k = r.take k) (hx : l[k]? = some x) (hy : r[k]? = some x) : l.take (k + 1) = r.take (k + 1) := by
  rw [List.take_add_one, List.take_add_one, h, hx, hy]
theorem take_both {α : Type} {l r : List α} {k : Nat} (h : l.take k = r.take k) (hl : l.length ≤ k) (hr : r.length ≤ k) : l = r := by
  rwa [List.take_of_length_le hl, List.take_of_length_le hr] at h
theorem dec_f {p : Prop} [Decidable p] (h : ¬ p) : decide p = false := decide_eq_false h
set_option maxHeartbeats 8000000 in
set_option maxRecDepth 100000 in
theorem refSame_any {E1 A1 E2 A2 : Option Addr} {n1 c1 a1 d1 n2 c2 a2 d2 : Nat} {e1 e2 : List NM.Ev} {l1 l2 : List TP.An} (w : World) (he1 : Evs w E1 n1 e1) (ha1 : Ans w A1 a1 l1) (he2 : Evs w E2 n2 e2) (ha2 : Ans w A2 a2 l2) (bn : n1 ≤ 1000000) (ba : a1 ≤ 1000000) :
    Calls Try.prog 16 #[.agg #[.slice E1 n1 c1, .slice A1 a1 d1], .agg #[.slice E2 n2 c2, .slice A2 a2 d2]] w fun e w' => e = .returned (.bool (decide (e1 = e2 ∧ l1 = l2))) ∧ Below w.heap.size w w' := by
  obtain ⟨U, hU, hb, k1, k2, hlt⟩ := two_boxes w (.cells #[.slice E1 n1 c1, .slice A1 a1 d1] 26) (.cells #[.slice E2 n2 c2, .slice A2 a2 d2] 26)
  have HE1 := Lib.hid (he1.keep hb)
  have HA1 := Lib.hid (ha1.keep hb)
  have HE2 := Lib.hid (he2.keep hb)
  have HA2 := Lib.hid (ha2.keep hb)
  have HK := Lib.hid (fun (V : World) (hV : Below U.heap.size U V) => And.intro (And.intro ((hV.cell (p := ⟨w.heap.size, 0, none⟩) (by show w.heap.size < _; omega)).trans (cell_of_row U _ 0 _ _ (0, 0) k1)) ((hV.cell (p := ⟨w.heap.size, 1, none⟩) (by show w.heap.size < _; omega)).trans (cell_of_row U _ 1 _ _ (0, 0) k1)))
    (And.intro ((hV.cell (p := ⟨w.heap.size + 1, 0, none⟩) hlt).trans (cell_of_row U _ 0 _ _ (0, 0) k2)) ((hV.cell (p := ⟨w.heap.size + 1, 1, none⟩) hlt).trans (cell_of_row U _ 1 _ _ (0, 0) k2))))
  have HB := Lib.hid hb
  have HN := Lib.hid (And.intro (And.intro he1.1 ha1.1) (And.intro he2.1 ha2.1))
  clear k1 k2 hb he1 ha1 he2 ha2
  obtain ⟨⟨x0, x1⟩, y0, y1⟩ := HK.out U (Below.refl _ _)
  go_enter Try.func16, Try.ntmps16
  by_cases hn : n1 = n2
  · by_cases ha : a1 = a2
    · subst hn
      subst ha
      go_wp2_with fail
      clear hU x0 x1 y0 y1
      go_loopw [5] (fun i V => ∃ k : Nat, k ≤ n1 ∧ i = .int .i64 (k : Int) ∧ Hid (e1.take k = e2.take k) ∧ Hid (Below U.heap.size U V)) (fun i _ => n1 - (intOf i).toNat)
      case atStart => exact ⟨0, by omega, rfl, rfl, Below.refl _ _⟩
      case round =>
        obtain ⟨k, hk, rfl, HQ, HV⟩ := hrel
        obtain ⟨⟨x0, x1⟩, y0, y1⟩ := HK.out wr HV.out
        by_cases hin : k < n1
        · have dk : decide (k < n1) = true := decide_eq_true hin
          obtain ⟨x, hx⟩ : ∃ x, e1[k]? = some x := ⟨_, List.getElem?_eq_getElem (by rw [HN.out.1.1]; exact hin)⟩
          obtain ⟨y, hy⟩ : ∃ y, e2[k]? = some y := ⟨_, List.getElem?_eq_getElem (by rw [HN.out.2.1]; exact hin)⟩
          obtain ⟨g, hg, hgl, hxa⟩ := HE1.out.2 (by omega)
          obtain ⟨g', hg', hgl', hya⟩ := HE2.out.2 (by omega)
          obtain ⟨p0, p1, p2, p3, p4, p5, p6, p7⟩ := (hxa k x hx).keep hgl HV.out
          obtain ⟨q0, q1, q2, q3, q4, q5, q6, q7⟩ := (hya k y hy).keep hgl' HV.out
          subst hg
          subst hg'
          have hne : ∀ V, (binOp .neq 47 (evV x) (evV y)).run Try.prog V = .ok (.bool (!decide (x = y))) V := fun V => neE_any x y V
          have HX := Lib.hid (And.intro hx hy)
          clear hxa hya hx hy
          by_cases hxy : x = y
          · have dq : decide (x = y) = true := decide_eq_true hxy
            simp only [dq, Bool.not_true] at hne
            have HT := Lib.hid (take_more HQ.out HX.out.1 (hxy ▸ HX.out.2))
            clear HX hxy dq
            go_wp2_with (go_quiet (fail))
            go_roundw
            case rel => exact ⟨k + 1, by omega, by go_num, HT, HV.out.trans ((drewN_below wr _).mono HV.out.size)⟩
            case measure => simp [intOf]; omega
          · have dq : decide (x = y) = false := decide_eq_false hxy
            simp only [dq, Bool.not_false] at hne
            have HT := Lib.hid (dec_f (p := e1 = e2 ∧ l1 = l2) fun h => take_differ HX.out.1 HX.out.2 hxy h.1)
            clear HX hxy dq
            go_wp2_with (go_quiet (fail))
            go_ret
            exact ⟨by rw [HT.out]; rfl, HB.out.trans ((HV.out.trans ((drewN_below wr _).mono HV.out.size)).mono HB.out.size)⟩
        · have dk : decide (k < n1) = false := decide_eq_false hin
          have HEQ := Lib.hid (take_both HQ.out (by have := HN.out.1.1; omega) (by have := HN.out.2.1; omega))
          clear HQ
          obtain ⟨wo, hwo⟩ : ∃ W, W = wr := ⟨_, rfl⟩
          subst hwo
          go_wp2_with fail
          clear x0 x1 y0 y1
          go_loopw [6] (fun i V => ∃ j : Nat, j ≤ a1 ∧ i = .int .i64 (j : Int) ∧ Hid (l1.take j = l2.take j) ∧ Hid (Below U.heap.size U V)) (fun i _ => a1 - (intOf i).toNat)
          case atStart => exact ⟨0, by omega, rfl, rfl, HV⟩
          case round =>
            obtain ⟨j, hj, rfl, HQ, HV2⟩ := hrel
            obtain ⟨⟨x0, x1⟩, y0, y1⟩ := HK.out wr HV2.out
            by_cases hjn : j < a1
            · have dj : decide (j < a1) = true := decide_eq_true hjn
              obtain ⟨x, hx⟩ : ∃ x, l1[j]? = some x := ⟨_, List.getElem?_eq_getElem (by rw [HN.out.1.2]; exact hjn)⟩
              obtain ⟨y, hy⟩ : ∃ y, l2[j]? = some y := ⟨_, List.getElem?_eq_getElem (by rw [HN.out.2.2]; exact hjn)⟩
              obtain ⟨g, hg, hgl, hxa⟩ := HA1.out.2 (by omega)
              obtain ⟨g', hg', hgl', hya⟩ := HA2.out.2 (by omega)
              obtain ⟨p0, p1, p2, p3, p4, p5⟩ := (hxa j x hx).keep hgl HV2.out
              obtain ⟨q0, q1, q2, q3, q4, q5⟩ := (hya j y hy).keep hgl' HV2.out
              subst hg
              subst hg'
              have hne : ∀ V, (binOp .neq 71 (anV x) (anV y)).run Try.prog V = .ok (.bool (!decide (x = y))) V := fun V => neA_any x y V
              have HX := Lib.hid (And.intro hx hy)
              clear hxa hya hx hy
              by_cases hxy : x = y
              · have dq : decide (x = y) = true := decide_eq_true hxy
                simp only [dq, Bool.not_true] at hne
                have HT := Lib.hid (take_more HQ.out HX.out.1 (hxy ▸ HX.out.2))
                clear HX hxy dq
                go_wp2_with (go_quiet (fail))
                go_roundw
                case rel => exact ⟨j + 1, by omega, by go_num, HT, HV2.out.trans ((drewN_below wr _).mono HV2.out.size)⟩
                case measure => simp [intOf]; omega
              · have dq : decide (x = y) = false := decide_eq_false hxy
                simp only [dq, Bool.not_false] at hne
                have HT := Lib.hid (dec_f (p := e1 = e2 ∧ l1 = l2) fun h => take_differ HX.out.1 HX.out.2 hxy h.2)
                clear HX hxy dq
                go_wp2_with (go_quiet (fail))
                go_ret
                exact ⟨by rw [HT.out]; rfl, HB.out.trans ((HV2.out.trans ((drewN_below wr _).mono HV2.out.size)).mono HB.out.size)⟩
            · have dj : decide (j < a1) = false := decide_eq_false hjn
              have HT := Lib.hid (show decide (e1 = e2 ∧ l1 = l2) = true from decide_eq_true ⟨HEQ.out, take_both HQ.out (by have := HN.out.1.2; omega) (by have := HN.out.2.2; omega)⟩)
              clear HQ
              go_wp2_with fail
              go_ret
              exact ⟨by rw [HT.out]; rfl, HB.out.trans (HV2.out.mono HB.out.size)⟩
    · subst hn
      have da : decide ((a1 : Int) = (a2 : Int)) = false := decide_eq_false (by omega)
      have da2 : ((a1 : Int) != (a2 : Int)) = true := by simp; omega
      have HT := Lib.hid (dec_f (p := e1 = e2 ∧ l1 = l2) fun h => ha (by have := HN.out; rw [← this.1.2, ← this.2.2, h.2]))
      go_wp2_with fail
      go_ret
      exact ⟨by rw [HT.out]; rfl, HB.out⟩
  · have dn : decide ((n1 : Int) = (n2 : Int)) = false := decide_eq_false (by omega)
    have dn2 : ((n1 : Int) != (n2 : Int)) = true := by simp; omega
    have HT := Lib.hid (dec_f (p := e1 = e2 ∧ l1 = l2) fun h => hn (by have := HN.out; rw [← this.1.1, ← this.2.1, h.1]))
    go_wp2_with fail
    go_ret
    exact ⟨by rw [HT.out]; rfl, HB.out⟩
end Go.Proofs.Ytiokiecnglmbnaa

namespace Go.Proofs.Ytiokiecnglmbnaa
open Go Go.RowKit

set_option maxHeartbeats 1000000 in
theorem sameBytes_any (A A' : Option Addr) (n n' c c' : Nat) (xs ys : List Int) (w : World) (hx : Ints .u8 w.heap.size w A n xs) (hy : Ints .u8 w.heap.size w A' n' ys) (hn : n ≤ 1000000) :
    Calls Try.prog 32 #[.slice A n c, .slice A' n' c'] w (Tells (decide (xs = ys)) w) := by
  by_cases hnn : n = n'
  · subst hnn
    have hlx := Lib.hid hx.len
    have hly := Lib.hid hy.len
    go_enter Try.func32, Try.ntmps32
    go_wp2
    go_loopw [5] (fun i wr => ∃ k : Nat, k ≤ n ∧ i = .int .i64 k ∧ Hid (xs.take k = ys.take k) ∧ Below w.heap.size w wr) (fun i _ => n - (intOf i).toNat)
    case atStart => exact ⟨0, Nat.zero_le _, rfl, rfl, Below.refl _ _⟩
    case round =>
      obtain ⟨k, hk, rfl, hT, hB⟩ := hrel
      by_cases hlt : k < n
      · obtain ⟨b, off, rfl, hb, hc⟩ := hx.at_ (by omega)
        obtain ⟨b', off', rfl, hb', hc'⟩ := hy.at_ (by omega)
        have hck := (hB.cell (p := ⟨b, off + k, none⟩) hb).trans (hc k hlt)
        have hck' := (hB.cell (p := ⟨b', off' + k, none⟩) hb').trans (hc' k hlt)
        clear hc hc' hx hy
        obtain ⟨x, ex⟩ : ∃ x, xs[k]?.getD 0 = x := ⟨_, rfl⟩
        obtain ⟨y, ey⟩ : ∃ y, ys[k]?.getD 0 = y := ⟨_, rfl⟩
        rw [ex] at hck
        rw [ey] at hck'
        have hxk := Lib.hid ex
        have hyk := Lib.hid ey
        clear ex ey
        by_cases he : x = y
        · subst he
          go_wp2
          go_quiet (fail)
          all_goals go_wp2
          go_roundw
          case rel => exact ⟨k + 1, by omega, by go_num, take_step hlx.out hly.out hlt hT.out hxk.out hyk.out, below_drewN' hB _⟩
          case measure => simp [intOf]; omega
        · have he1 : (x != y) = true := by simp [he]
          have hd := Lib.hid (show decide (xs = ys) = false by
            rw [decide_eq_false_iff_not]
            rintro rfl
            exact he (hxk.out.symm.trans hyk.out))
          clear he
          go_wp2
          go_quiet (fail)
          all_goals go_wp2
          go_ret
          exact ⟨by rw [hd.out]; rfl, below_drewN' hB _⟩
      · obtain rfl : k = n := by omega
        go_wp2
        go_ret
        exact ⟨by rw [decide_eq_true (take_all hlx.out hly.out hT.out)]; rfl, hB⟩
  · have hd := Lib.hid (show decide (xs = ys) = false by
      rw [decide_eq_false_iff_not]
      rintro rfl
      exact hnn (hx.len.symm.trans hy.len))
    have hne : ((n : Int) != n') = true := by rw [bne_iff_ne]; omega
    clear hnn hx hy
    go_enter Try.func32, Try.ntmps32
    go_wp2
    go_ret
    exact ⟨by rw [hd.out]; rfl, Below.refl _ _⟩
end Go.Proofs.Ytiokiecnglmbnaa
