/-
  The reference's reader reads what the readers of the mathematics read. No condition beyond the reader's shape.
  The reference's reader: Int. No condition beyond the reader's shape.
  The contract of the reference model's Has: whether a list holds a number. Condition: the slice holds integers.
-/
import Derived.Test.YtiokiecnglmbnaaK5
import Derived.Test.YtiokiecnglmbnaaK3

namespace Go.Proofs.Ytiokiecnglmbnaa
open Go Go.RowKit

/-- The reference's In at block g: its unread bytes, or the error that it has recorded. -/
def RAt (B : Nat) (w : World) (g : Nat) : St → Prop
  | .ok bs => ∃ A n c, w.heap[g]? = some (.cells #[.slice A n c, .int .i64 0] 104 (0, 0)) ∧ Lst 5 .u8 B w A n c bs ∧ (∀ x ∈ bs, B8 x) ∧ n ≤ 1000000
  | .bad e => ∃ A n c, w.heap[g]? = some (.cells #[.slice A n c, .int .i64 e] 104 (0, 0)) ∧ (e == 0) = false ∧ I64 e
theorem RAt.lt {B g : Nat} {w : World} {s : St} (h : RAt B w g s) : g < w.heap.size := by
  cases s with
  | ok bs => obtain ⟨A, n, c, hg, _⟩ := h; exact heap_lt hg
  | bad e => obtain ⟨A, n, c, hg, _⟩ := h; exact heap_lt hg
theorem RAt.keep {B g : Nat} {w w' : World} {s : St} (h : RAt B w g s) (hg : w'.heap[g]? = w.heap[g]?) (hk : ∀ b C, b < B → w.heap[b]? = some (.cells C 5 (0, 0)) → w'.heap[b]? = w.heap[b]?) : RAt B w' g s := by
  cases s with
  | ok bs => obtain ⟨A, n, c, h1, h2, h3, h4⟩ := h; exact ⟨A, n, c, hg.trans h1, h2.keep hk, h3, h4⟩
  | bad e => obtain ⟨A, n, c, h1, h2, h3⟩ := h; exact ⟨A, n, c, hg.trans h1, h2, h3⟩
theorem RAt.below {B g : Nat} {w w' : World} {s : St} (h : RAt B w g s) (hb : Below w.heap.size w w') : RAt B w' g s :=
  h.keep (hb.block g h.lt) fun b _ _ hC => hb.block b (heap_lt hC)
theorem RAt.grown {B g : Nat} {w w' : World} {s : St} {row : Option Nat} (h : RAt B w g s) (hg : w.grownBy w' row) (hne : some g ≠ row) (hr : ∀ b, row = some b → B ≤ b ∨ ∀ C, w.heap[b]? ≠ some (.cells C 5 (0, 0))) : RAt B w' g s :=
  h.keep (hg.block g h.lt hne) fun b C hb hC => hg.block b (heap_lt hC) fun e => by
    rcases hr b e.symm with h1 | h1
    · omega
    · exact h1 C hC
theorem RAt.struct {B g : Nat} {w : World} {s : St} (h : RAt B w g s) : ∃ cs, w.heap[g]? = some (.cells cs 104 (0, 0)) := by
  cases s with
  | ok bs => obtain ⟨A, n, c, hg, _⟩ := h; exact ⟨_, hg⟩
  | bad e => obtain ⟨A, n, c, hg, _⟩ := h; exact ⟨_, hg⟩
theorem RAt.b8 {B g : Nat} {w : World} {bs : List Int} (h : RAt B w g (.ok bs)) : ∀ x ∈ bs, B8 x := by
  obtain ⟨_, _, _, _, _, h8, _⟩ := h
  exact h8
theorem RAt.w64 {B g : Nat} {w : World} {s : St} (h : RAt B w g s) : W64 (rdU s).1 := by
  cases s with
  | bad e => exact ⟨by simp [rdU], by simp [rdU]⟩
  | ok bs =>
    rcases decF_cases bs h.b8 with ⟨v, r, e, hv, _⟩ | ⟨e', e⟩
    · show W64 (decF 0 0 bs).1
      rw [e]
      exact hv
    · show W64 (decF 0 0 bs).1
      rw [e]
      exact ⟨by simp, by simp⟩

set_option maxHeartbeats 400000 in
theorem r_fail {B : Nat} (g : Nat) (s : St) (e : Int) (w : World) (h : RAt B w g s) (he : (e == 0) = false) (hi : I64 e) :
    Calls Try.prog 61 #[.pointer (some ⟨g, 0, none⟩), .int .i64 e] w fun r w' => r = .returned (.tuple #[]) ∧ RAt B w' g (s.fail e) ∧ But g w w' := by
  have HI := Lib.hid hi
  cases s with
  | ok bs =>
    obtain ⟨A, n, c, hg, hL, h8, hn⟩ := h
    have hc := two_c1 hg
    have hf := two_f hg 1
    have HE := Lib.hid he
    have H8 := Lib.hid h8
    clear he h8 hi
    go_enter Try.func61, Try.ntmps61
    go_wp2
    go_end0
    exact ⟨rfl, ⟨A, n, c, two_s1 hg _, HE.out, HI.out⟩, but_set _ _ _ _⟩
  | bad e0 =>
    obtain ⟨A, n, c, hg, h0, hi0⟩ := h
    have hc := two_c1 hg
    have HI0 := Lib.hid hi0
    clear he hi hi0
    go_enter Try.func61, Try.ntmps61
    go_wp2
    go_end0
    exact ⟨rfl, ⟨A, n, c, hg, h0, HI0.out⟩, but_refl _ _⟩

set_option maxHeartbeats 400000 in
theorem r_end {B : Nat} (g : Nat) (s : St) (w : World) (h : RAt B w g s) :
    Calls Try.prog 62 #[.pointer (some ⟨g, 0, none⟩)] w fun r w' => r = .returned (.int .i64 s.endE) ∧ w = w' := by
  cases s with
  | ok bs =>
    obtain ⟨A, n, c, hg, hL, h8, hn⟩ := h
    have hc0 := two_c0 hg
    have hc1 := two_c1 hg
    have HE := Lib.hid (endE_ok (bs := bs))
    have HL := Lib.hid hL.len
    clear h8 hL
    by_cases hn0 : 0 < n
    · go_enter Try.func62, Try.ntmps62
      go_wp2
      go_ret
      exact ⟨by rw [HE.out, if_pos (by rw [HL.out]; exact hn0)]; rfl, rfl⟩
    · go_enter Try.func62, Try.ntmps62
      go_wp2
      go_ret
      exact ⟨by rw [HE.out, if_neg (by rw [HL.out]; exact hn0)]; rfl, rfl⟩
  | bad e0 =>
    obtain ⟨A, n, c, hg, h0, hi0⟩ := h
    have hc := two_c1 hg
    have hc0 := two_c0 hg
    clear hi0
    go_enter Try.func62, Try.ntmps62
    go_wp2
    go_ret
    exact ⟨rfl, rfl⟩

set_option maxHeartbeats 400000 in
theorem r_uint_bad {B : Nat} (g : Nat) (e : Int) (w : World) (h : RAt B w g (.bad e)) :
    Calls Try.prog 83 #[.pointer (some ⟨g, 0, none⟩)] w fun r w' => r = .returned (.int .u64 0) ∧ RAt B w' g (.bad e) ∧ But g w w' := by
  have h' := h
  obtain ⟨A, n, c, hg, h0, hi0⟩ := h
  have hc := two_c1 hg
  clear hi0
  go_enter Try.func83, Try.ntmps83
  go_wp2
  go_loopw [3, 4, 5] (fun n u i wr => n = .int .u64 0 ∧ u = .int .u64 1 ∧ i = .int .i64 0 ∧ wr = w) (fun _ _ _ _ => 0)
  case atStart => exact ⟨rfl, rfl, rfl, rfl⟩
  case round =>
    obtain ⟨rfl, rfl, rfl, rfl⟩ := hrel
    go_wp2_with fail
    go_ret
    exact ⟨rfl, h', but_refl _ _⟩

theorem Lst.dropTo {t : TypeId} {k : IntKind} {B n c b off : Nat} {w : World} {zs : List Int} (h : Lst t k B w (some ⟨b, off, none⟩) n c zs) (m : Nat) (hm : m ≤ n) (off' : Nat) (ho : off' = off + m ∨ n - m = 0) : Lst t k B w (some ⟨b, off', none⟩) (n - m) (c - m) (zs.drop m) := by
  obtain ⟨h1, h2, h3, h4⟩ := h
  refine ⟨by rw [List.length_drop, h1], by omega, by omega, ?_⟩
  rcases h4 with ⟨h4, _⟩ | ⟨b', off0, C, e, hb, hc, hj⟩
  · cases h4
  · injection e with e
    injection e with e1 e2
    subst e1 e2
    refine .inr ⟨b, off', C, rfl, hb, hc, fun j hjn => ?_⟩
    rcases ho with rfl | h0
    · rw [List.getElem?_drop, ← hj (m + j) (by omega), Nat.add_assoc]
    · omega
theorem Lst.capEq {t : TypeId} {k : IntKind} {B n c d : Nat} {A : Option Addr} {w : World} {zs : List Int} (h : Lst t k B w A n c zs) (e : c = d) : Lst t k B w A n d zs := by rw [← e]; exact h
theorem sum_step (k : Nat) (acc x P : Int) (hP : P = 128 ^ k) (hk : k ≤ 9) (h9 : k = 9 → x ≤ 1) (h0 : 0 ≤ x) (h1 : x < 256) (ha0 : 0 ≤ acc) (ha1 : acc < P) :
    0 ≤ x % 128 * P ∧ x % 128 * P ≤ 18446744073709551615 ∧ 0 ≤ acc + x % 128 * P ∧ acc + x % 128 * P ≤ 18446744073709551615 ∧ acc + x % 128 * P < P * 128 := by
  obtain ⟨_, hp2, hp3⟩ := pow7 k hk
  obtain ⟨Q, hQ⟩ : ∃ Q, 128 ^ k = Q := ⟨_, rfl⟩
  have ep : P = (Q : Int) := by rw [hP, ← hQ, Int.natCast_pow]; rfl
  rw [hQ] at hp2 hp3
  subst ep
  clear hP hQ
  obtain ⟨y, hy⟩ := Int.eq_ofNat_of_zero_le (show 0 ≤ x % 128 by omega)
  have hy1 : y < 128 := by omega
  have hy9 : k = 9 → y ≤ 1 := fun h => by have := h9 h; omega
  obtain ⟨a, rfl⟩ := Int.eq_ofNat_of_zero_le ha0
  rw [hy]
  have haQ : a < Q := by omega
  have e3 : ((y : Int) * (Q : Int)) = ((y * Q : Nat) : Int) := by rw [Int.natCast_mul]
  rw [e3]
  have e6 : y * Q + Q ≤ Q * 128 := by
    have := Nat.mul_le_mul_right Q (show y + 1 ≤ 128 by omega)
    rw [Nat.add_mul, Nat.one_mul] at this
    omega
  have hb : y * Q + a ≤ 18446744073709551615 := by
    by_cases h : k = 9
    · have := Nat.mul_le_mul_right Q (hy9 h)
      omega
    · have := hp3 (by omega)
      omega
  refine ⟨by omega, by omega, by omega, by omega, by omega⟩
theorem p_step (k : Nat) (P : Int) (hP : P = 128 ^ k) (hk : k ≤ 8) : P * 128 ≤ 9223372036854775808 ∧ P * 128 = 128 ^ (k + 1) := by
  obtain ⟨_, _, hp3⟩ := pow7 k (by omega)
  have := hp3 hk
  have ep : P = ((128 ^ k : Nat) : Int) := by rw [hP, Int.natCast_pow]; rfl
  refine ⟨by omega, by rw [hP, Int.pow_succ]⟩

set_option maxRecDepth 100000 in
set_option maxHeartbeats 1000000 in
theorem r_uint_ok {B : Nat} (g : Nat) (bs : List Int) (w : World) (h : RAt B w g (.ok bs)) :
    Calls Try.prog 83 #[.pointer (some ⟨g, 0, none⟩)] w fun r w' => r = .returned (.int .u64 (decF 0 0 bs).1) ∧ RAt B w' g (decF 0 0 bs).2 ∧ But g w w' := by
  have h' := h
  obtain ⟨A, n, c, hg, hL, h8, hn⟩ := h
  have hc0 := two_c0 hg
  have hc1 := two_c1 hg
  have hf := two_f hg 0
  have HL := Lib.hid hL
  have HLL := Lib.hid hL.len
  have HI := Lib.hid hL.ints
  have H8 := Lib.hid h8
  have HG := Lib.hid hg
  have hnc := hL.le
  clear hL h8 hg
  go_enter Try.func83, Try.ntmps83
  go_wp2
  go_loop [3, 4, 5] (fun a u i => ∃ (k : Nat) (acc P : Int), k ≤ 9 ∧ k ≤ n ∧ a = .int .u64 acc ∧ u = .int .u64 P ∧ i = .int .i64 k ∧ Hid (P = 128 ^ k) ∧ 0 ≤ acc ∧ acc < P ∧ 0 < P ∧ P ≤ 9223372036854775808 ∧ Hid (decF k acc (bs.drop k) = decF 0 0 bs)) (fun _ _ i => 10 - (intOf i).toNat)
  case atStart => exact ⟨0, 0, 1, by omega, by omega, rfl, rfl, rfl, rfl, by omega, by omega, by omega, by omega, rfl⟩
  case round =>
    obtain ⟨k, acc, P, hk, hkn, rfl, rfl, rfl, hP, ha0, ha1, hP0, hP1, hD⟩ := hrel
    by_cases hlt : k < n
    · obtain ⟨b, off, rfl, hbl, hcs⟩ := HI.out.at_ (by omega)
      have hck := hcs k hlt
      have hx := H8.out _ (getD_mem (l := bs) (j := k) (by rw [HLL.out]; exact hlt))
      obtain ⟨x, ex⟩ : ∃ x, bs[k]?.getD 0 = x := ⟨_, rfl⟩
      have hdr : bs.drop k = x :: bs.drop (k + 1) := by
        rw [List.drop_eq_getElem_cons (by rw [HLL.out]; exact hlt), ← ex, List.getElem?_eq_getElem (by rw [HLL.out]; exact hlt)]
        rfl
      rw [ex] at hck hx
      obtain ⟨hx0, hx1⟩ := hx
      rw [hdr] at hD
      clear ex hcs hdr
      by_cases hbad : (0 < k ∧ x = 0) ∨ (k = 9 ∧ 1 < x)
      · have e8 : decF k acc (x :: bs.drop (k + 1)) = (0, .bad 8) := by rw [decF, if_pos hbad]
        have HD := Lib.hid (e8.symm.trans hD.out)
        have hF := Lib.hid (r_fail g (.ok bs) 8 w h' (by decide) (by unfold I64; omega))
        have hkp : (0 : Int) < k := by omega
        clear e8
        by_cases hx0' : x = 0
        · have hxn : (x == 0) = true := by simp [hx0']
          have hx1n : ¬ 1 < x := by omega
          by_cases hk9 : k = 9
          · have hk9b : ((k : Int) == 9) = true := by simp; omega
            clear hx0' hbad hk9
            go_wp2_with fail
            refine hF.out.mono ?_
            rintro r w2 ⟨rfl, h2, hb2⟩
            go_wp2_with fail
            go_ret
            exact ⟨by rw [← HD.out]; rfl, by rw [← HD.out]; exact h2, hb2⟩
          · have hk9b : ((k : Int) == 9) = false := by simp; omega
            clear hx0' hbad hk9
            go_wp2_with fail
            refine hF.out.mono ?_
            rintro r w2 ⟨rfl, h2, hb2⟩
            go_wp2_with fail
            go_ret
            exact ⟨by rw [← HD.out]; rfl, by rw [← HD.out]; exact h2, hb2⟩
        · have hxn : (x == 0) = false := by simp [hx0']
          have hk9 : ((k : Int) == 9) = true := by simp; omega
          have hx1' : 1 < x := by omega
          clear hx0' hbad
          go_wp2_with fail
          refine hF.out.mono ?_
          rintro r w2 ⟨rfl, h2, hb2⟩
          go_wp2_with fail
          go_ret
          exact ⟨by rw [← HD.out]; rfl, by rw [← HD.out]; exact h2, hb2⟩
      · obtain ⟨m0, m1, m2, m3, m4⟩ := sum_step k acc x P hP.out hk (fun h => by omega) hx0 hx1 ha0 ha1
        have hcase : k = 0 ∨ (0 < k ∧ k ≠ 9 ∧ x ≠ 0) ∨ (k = 9 ∧ x ≠ 0 ∧ ¬ 1 < x) := by omega
        have hS : decF k acc (x :: bs.drop (k + 1)) = if x < 128 then (acc + x * 128 ^ k, .ok (bs.drop (k + 1))) else decF (k + 1) (acc + (x - 128) * 128 ^ k) (bs.drop (k + 1)) := by rw [decF, if_neg hbad]
        have HS := Lib.hid (hS.symm.trans hD.out)
        clear hS hbad
        by_cases hx128 : x < 128
        · have e := HS.out
          rw [if_pos hx128, ← hP.out] at e
          have HE := Lib.hid e
          have hxm := Lib.hid (show x % 128 = x by omega)
          clear e
          rcases hcase with hk0 | ⟨hk0, hk1, hx00⟩ | ⟨hk1, hx00, hx2⟩
          · have hk2 : ¬ (0 : Int) < k := by omega
            have hk9 : ((k : Int) == 9) = false := by simp; omega
            clear hk0
            go_wp2
            · have hfin := (Lst.dropTo HL.out (k + 1) (by omega) off (.inr (by omega))).set HG.out (by decide) 0 (.slice (some ⟨b, off, none⟩) (n - (k + 1)) 0)
              go_ret
              refine ⟨?_, ?_, but_set _ _ _ _⟩
              · rw [← HE.out]; exact ret_u64 (by rw [hxm.out])
              · rw [← HE.out]; exact ⟨_, n - (k + 1), 0, two_s0 HG.out _, Lst.capEq hfin (by omega), fun y hy => H8.out y (List.mem_of_mem_drop hy), by omega⟩
            · have hfin := (Lst.dropTo HL.out (k + 1) (by omega) (off + (k + 1)) (.inl rfl)).set HG.out (by decide) 0 (.slice (some ⟨b, off + (k + 1), none⟩) (n - (k + 1)) (c - (k + 1)))
              go_ret
              refine ⟨?_, ?_, but_set _ _ _ _⟩
              · rw [← HE.out]; exact ret_u64 (by rw [hxm.out])
              · rw [← HE.out]; exact ⟨_, n - (k + 1), c - (k + 1), two_s0 HG.out _, hfin, fun y hy => H8.out y (List.mem_of_mem_drop hy), by omega⟩
          · have hk2 : (0 : Int) < k := by omega
            have hk9 : ((k : Int) == 9) = false := by simp; omega
            have hxn : (x == 0) = false := by simp [hx00]
            clear hx00 hk1
            go_wp2
            · have hfin := (Lst.dropTo HL.out (k + 1) (by omega) off (.inr (by omega))).set HG.out (by decide) 0 (.slice (some ⟨b, off, none⟩) (n - (k + 1)) 0)
              go_ret
              refine ⟨?_, ?_, but_set _ _ _ _⟩
              · rw [← HE.out]; exact ret_u64 (by rw [hxm.out])
              · rw [← HE.out]; exact ⟨_, n - (k + 1), 0, two_s0 HG.out _, Lst.capEq hfin (by omega), fun y hy => H8.out y (List.mem_of_mem_drop hy), by omega⟩
            · have hfin := (Lst.dropTo HL.out (k + 1) (by omega) (off + (k + 1)) (.inl rfl)).set HG.out (by decide) 0 (.slice (some ⟨b, off + (k + 1), none⟩) (n - (k + 1)) (c - (k + 1)))
              go_ret
              refine ⟨?_, ?_, but_set _ _ _ _⟩
              · rw [← HE.out]; exact ret_u64 (by rw [hxm.out])
              · rw [← HE.out]; exact ⟨_, n - (k + 1), c - (k + 1), two_s0 HG.out _, hfin, fun y hy => H8.out y (List.mem_of_mem_drop hy), by omega⟩
          · have hk2 : (0 : Int) < k := by omega
            have hk9 : ((k : Int) == 9) = true := by simp; omega
            have hxn : (x == 0) = false := by simp [hx00]
            have hK := Lib.hid hk1
            clear hx00 hk1
            go_wp2
            · have hfin := (Lst.dropTo HL.out (k + 1) (by omega) off (.inr (by omega))).set HG.out (by decide) 0 (.slice (some ⟨b, off, none⟩) (n - (k + 1)) 0)
              go_ret
              refine ⟨?_, ?_, but_set _ _ _ _⟩
              · rw [← HE.out]; exact ret_u64 (by rw [hxm.out])
              · rw [← HE.out]; exact ⟨_, n - (k + 1), 0, two_s0 HG.out _, Lst.capEq hfin (by omega), fun y hy => H8.out y (List.mem_of_mem_drop hy), by omega⟩
            · have hfin := (Lst.dropTo HL.out (k + 1) (by omega) (off + (k + 1)) (.inl rfl)).set HG.out (by decide) 0 (.slice (some ⟨b, off + (k + 1), none⟩) (n - (k + 1)) (c - (k + 1)))
              go_ret
              refine ⟨?_, ?_, but_set _ _ _ _⟩
              · rw [← HE.out]; exact ret_u64 (by rw [hxm.out])
              · rw [← HE.out]; exact ⟨_, n - (k + 1), c - (k + 1), two_s0 HG.out _, hfin, fun y hy => H8.out y (List.mem_of_mem_drop hy), by omega⟩
        · have e := HS.out
          rw [if_neg hx128] at e
          have hxm := Lib.hid (show x - 128 = x % 128 by omega)
          rw [hxm.out] at e
          have HE := Lib.hid e
          have hk8 : k ≤ 8 := by omega
          obtain ⟨p4, p5'⟩ := p_step k P hP.out hk8
          have p5 := Lib.hid p5'
          clear e p5'
          rcases hcase with hk0 | ⟨hk0, hk1, hx00⟩ | ⟨hk1, hx00, hx2⟩
          · have hk2 : ¬ (0 : Int) < k := by omega
            have hk9 : ((k : Int) == 9) = false := by simp; omega
            clear hk0
            go_wp2
            go_round
            case rel => exact ⟨k + 1, _, _, by omega, by omega, rfl, rfl, by go_num, p5.out, m2, m4, by omega, p4, by show _ = _; rw [hP.out]; exact HE.out⟩
            case measure => simp [intOf]; omega
          · have hk2 : (0 : Int) < k := by omega
            have hk9 : ((k : Int) == 9) = false := by simp; omega
            have hxn : (x == 0) = false := by simp [hx00]
            clear hx00 hk1
            go_wp2
            go_round
            case rel => exact ⟨k + 1, _, _, by omega, by omega, rfl, rfl, by go_num, p5.out, m2, m4, by omega, p4, by show _ = _; rw [hP.out]; exact HE.out⟩
            case measure => simp [intOf]; omega
          · omega
    · have hF := Lib.hid (r_fail g (.ok bs) 7 w h' (by decide) (by unfold I64; omega))
      have e0 : bs.drop k = [] := List.drop_of_length_le (by rw [HLL.out]; omega)
      rw [e0] at hD
      clear e0
      go_wp2_with fail
      refine hF.out.mono ?_
      rintro r w2 ⟨rfl, h2, hb2⟩
      go_wp2_with fail
      go_ret
      exact ⟨by rw [← hD.out]; rfl, by rw [← hD.out]; exact h2, hb2⟩
theorem r_uint {B : Nat} (g : Nat) (s : St) (w : World) (h : RAt B w g s) :
    Calls Try.prog 83 #[.pointer (some ⟨g, 0, none⟩)] w fun r w' => r = .returned (.int .u64 (rdU s).1) ∧ RAt B w' g (rdU s).2 ∧ But g w w' := by
  cases s with
  | ok bs => exact r_uint_ok g bs w h
  | bad e => exact r_uint_bad g e w h
end Go.Proofs.Ytiokiecnglmbnaa

namespace Go.Proofs.Ytiokiecnglmbnaa
open Go Go.RowKit

set_option maxHeartbeats 400000 in
theorem back_any (z : Int) (h : W64 z) (w : World) :
    Calls Try.prog 96 #[.int .u64 z] w fun e w' => e = .returned (.int .i64 (unzig z)) ∧ w = w' := by
  obtain ⟨h0, h1⟩ := h
  have hq0 : 0 ≤ z / 2 := by omega
  have hq1 : z / 2 < 9223372036854775808 := by omega
  by_cases h2 : z % 2 = 1
  · have ht : (z % 2 == 1) = true := by rw [h2]; rfl
    have H := Lib.hid (show unzig z = -(z / 2) - 1 by unfold unzig; rw [if_pos h2])
    clear h2
    go_enter Try.func96, Try.ntmps96
    go_wp2
    go_ret
    exact ⟨by rw [H.out]; rfl, rfl⟩
  · have ht : (z % 2 == 1) = false := by simp; omega
    have H := Lib.hid (show unzig z = z / 2 by unfold unzig; rw [if_neg h2])
    clear h2
    go_enter Try.func96, Try.ntmps96
    go_wp2
    go_ret
    exact ⟨by rw [H.out]; rfl, rfl⟩

set_option maxHeartbeats 400000 in
theorem r_int {B : Nat} (g : Nat) (s : St) (w : World) (h : RAt B w g s) :
    Calls Try.prog 84 #[.pointer (some ⟨g, 0, none⟩)] w fun r w' => r = .returned (.int .i64 (rdI s).1) ∧ RAt B w' g (rdI s).2 ∧ But g w w' := by
  go_enter Try.func84, Try.ntmps84
  go_wp2_with fail
  refine (r_uint g s _ h).mono ?_
  rintro r w1 ⟨rfl, h1, hb⟩
  go_wp2_with fail
  refine (back_any _ h.w64 _).mono ?_
  rintro r w2 ⟨rfl, rfl⟩
  go_wp2_with fail
  go_ret
  exact ⟨rfl, h1, hb⟩
end Go.Proofs.Ytiokiecnglmbnaa

namespace Go.Proofs.Ytiokiecnglmbnaa
open Go Go.RowKit

set_option maxHeartbeats 1000000 in
theorem has_any (A : Option Addr) (n c : Nat) (xs : List Int) (z : Int) (w : World) (hx : Ints .i64 w.heap.size w A n xs) (hn : n ≤ 1000000) :
    Calls Try.prog 31 #[.slice A n c, .int .i64 z] w fun e w' => e = .returned (.bool (decide (z ∈ xs))) ∧ w' = w := by
  have hlx := Lib.hid hx.len
  go_enter Try.func31, Try.ntmps31
  go_wp2
  go_loopw [5] (fun i wr => ∃ k : Nat, k ≤ n ∧ i = .int .i64 k ∧ Hid (z ∉ xs.take k) ∧ wr = w) (fun i _ => n - (intOf i).toNat)
  case atStart => exact ⟨0, Nat.zero_le _, rfl, (show z ∉ xs.take 0 by simp), rfl⟩
  case round =>
    obtain ⟨k, hk, rfl, hT, rfl⟩ := hrel
    by_cases hlt : k < n
    · obtain ⟨b, off, rfl, hb, hc⟩ := hx.at_ (by omega)
      have hck := hc k hlt
      obtain ⟨x, ex⟩ : ∃ x, xs[k]?.getD 0 = x := ⟨_, rfl⟩
      rw [ex] at hck
      have hxk : xs[k]? = some x := by
        rw [List.getElem?_eq_getElem (by rw [hlx.out]; exact hlt)] at ex ⊢
        exact congrArg some ex
      have HX := Lib.hid hxk
      clear hc hx ex hxk
      by_cases he : x = z
      · subst he
        have HD := Lib.hid (show decide (x ∈ xs) = true from decide_eq_true (List.mem_of_getElem? HX.out))
        go_wp2
        go_ret
        exact ⟨by rw [HD.out]; rfl, by first | rfl | trivial⟩
      · have he1 : (x == z) = false := by simp [he]
        have HNE := Lib.hid he
        clear he
        go_wp2
        go_roundw
        case rel =>
          refine ⟨k + 1, by omega, by go_num, ?_, trivial⟩
          show z ∉ xs.take (k + 1)
          rw [List.take_add_one, HX.out, List.mem_append]
          rintro (h | h)
          · exact hT.out h
          · simp at h
            exact HNE.out h.symm
        case measure => simp [intOf]; omega
    · obtain rfl : k = n := by omega
      have HD := Lib.hid (show decide (z ∈ xs) = false from decide_eq_false (by
        have := hT.out
        rw [List.take_of_length_le (by rw [hlx.out]; exact Nat.le_refl _)] at this
        exact this))
      go_wp2
      go_ret
      exact ⟨by rw [HD.out]; rfl, by first | rfl | trivial⟩
end Go.Proofs.Ytiokiecnglmbnaa
