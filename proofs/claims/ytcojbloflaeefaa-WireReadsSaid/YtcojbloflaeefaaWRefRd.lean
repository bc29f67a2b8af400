/-
  The reference's reader: Int, length, Bytes. No condition beyond the reader's shape.
-/
import Derived.Test.YtcojbloflaeefaaWRefIn
import Derived.Test.YtcojbloflaeefaaWPure
namespace Go.Proofs.Ytcojbloflaeefaa
open Go Go.RowKit

set_option maxHeartbeats 400000 in
theorem back_any (z : Int) (h : W64 z) (w : World) :
    Calls Try.prog 49 #[.int .u64 z] w fun e w' => e = .returned (.int .i64 (unzig z)) ∧ w = w' := by
  obtain ⟨h0, h1⟩ := h
  have hq0 : 0 ≤ z / 2 := by omega
  have hq1 : z / 2 < 9223372036854775808 := by omega
  by_cases h2 : z % 2 = 1
  · have ht : (z % 2 == 1) = true := by rw [h2]; rfl
    have H := Lib.hid (show unzig z = -(z / 2) - 1 by unfold unzig; rw [if_pos h2])
    clear h2
    go_enter Try.func49, Try.ntmps49
    go_wp2
    go_ret
    exact ⟨by rw [H.out]; rfl, rfl⟩
  · have ht : (z % 2 == 1) = false := by simp; omega
    have H := Lib.hid (show unzig z = z / 2 by unfold unzig; rw [if_neg h2])
    clear h2
    go_enter Try.func49, Try.ntmps49
    go_wp2
    go_ret
    exact ⟨by rw [H.out]; rfl, rfl⟩

set_option maxHeartbeats 400000 in
theorem r_int {B : Nat} (g : Nat) (s : St) (w : World) (h : RAt B w g s) :
    Calls Try.prog 38 #[.pointer (some ⟨g, 0, none⟩)] w fun r w' => r = .returned (.int .i64 (rdI s).1) ∧ RAt B w' g (rdI s).2 ∧ But g w w' := by
  go_enter Try.func38, Try.ntmps38
  go_wp2_with fail
  refine (r_uint g s _ h).mono ?_
  rintro r w1 ⟨rfl, h1, hb⟩
  go_wp2_with fail
  refine (back_any _ h.w64 _).mono ?_
  rintro r w2 ⟨rfl, rfl⟩
  go_wp2_with fail
  go_ret
  exact ⟨rfl, h1, hb⟩

theorem RAt.cases {B g : Nat} {w : World} {s : St} (h : RAt B w g s) : (∃ e, rdU s = (0, .bad e)) ∨ (∃ N r, rdU s = (N, .ok r) ∧ W64 N) := by
  cases s with
  | bad e => exact .inl ⟨e, rfl⟩
  | ok bs =>
    rcases decF_cases bs h.b8 with ⟨v, r, e, hv, _⟩ | h2
    · exact .inr ⟨v, r, e, hv⟩
    · exact .inl h2

set_option maxHeartbeats 1000000 in
theorem r_length {B : Nat} (g : Nat) (s : St) (most : Int) (w : World) (h : RAt B w g s) (hm : I64 most) :
    Calls Try.prog 50 #[.pointer (some ⟨g, 0, none⟩), .int .i64 most] w fun r w' => r = .returned (.int .i64 (lim most (rdU s)).1) ∧ RAt B w' g (lim most (rdU s)).2 ∧ But g w w' := by
  obtain ⟨hm0, hm1⟩ := hm
  have hu := r_uint g s w h
  rcases h.cases with ⟨e0, hU⟩ | ⟨N, r0, hU, hN0, hN1⟩
  · rw [hU] at hu ⊢
    have HU := Lib.hid hu
    clear hu hU
    go_enter Try.func50, Try.ntmps50
    go_wp2_with fail
    refine HU.out.mono ?_
    rintro r w1 ⟨rfl, h1, hb⟩
    have h1' := h1
    obtain ⟨A, n, c, hg, h0, hi0⟩ := h1
    have hc := two_c1 hg
    clear hi0 hg
    go_wp2_with fail
    go_ret
    exact ⟨rfl, h1', hb⟩
  · rw [hU] at hu ⊢
    have HU := Lib.hid hu
    clear hu hU
    by_cases hl : most < 0 ∨ most < N
    · have HL := Lib.hid (show lim most (N, .ok r0) = (0, .bad 2) by simp only [lim, if_pos hl])
      by_cases hneg : most < 0
      · clear hl
        go_enter Try.func50, Try.ntmps50
        go_wp2_with fail
        refine HU.out.mono ?_
        rintro r w1 ⟨rfl, h1, hb⟩
        have hF := Lib.hid (r_fail g (.ok r0) 2 w1 h1 (by decide) (by unfold I64; omega))
        obtain ⟨A, n, c, hg, hL1, h81, hn1⟩ := h1
        have hc := two_c1 hg
        clear hg hL1 h81
        go_wp2_with fail
        refine hF.out.mono ?_
        rintro r w2 ⟨rfl, h2, hb2⟩
        have h2' := h2
        obtain ⟨A2, n2, c2, hg2, h0, hi0⟩ := h2
        have hc2 := two_c1 hg2
        clear hi0 hg2 hc
        go_wp2_with fail
        go_ret
        exact ⟨by rw [HL.out]; rfl, by rw [HL.out]; exact h2', but_trans hb hb2⟩
      · have hlt : most < N := by omega
        have hw : IntKind.u64.wrap most = most := by rw [IntKind.wrap_u64]; omega
        have hge : 0 ≤ most := by omega
        clear hl
        go_enter Try.func50, Try.ntmps50
        go_wp2_with fail
        refine HU.out.mono ?_
        rintro r w1 ⟨rfl, h1, hb⟩
        have hF := Lib.hid (r_fail g (.ok r0) 2 w1 h1 (by decide) (by unfold I64; omega))
        obtain ⟨A, n, c, hg, hL1, h81, hn1⟩ := h1
        have hc := two_c1 hg
        clear hg hL1 h81
        go_wp2_with fail
        all_goals
          refine hF.out.mono ?_
          rintro r w2 ⟨rfl, h2, hb2⟩
          have h2' := h2
          obtain ⟨A2, n2, c2, hg2, h0, hi0⟩ := h2
          have hc2 := two_c1 hg2
          clear hi0 hg2 hc
          go_wp2_with fail
          go_ret
          exact ⟨by rw [HL.out]; rfl, by rw [HL.out]; exact h2', but_trans hb hb2⟩
    · have HL := Lib.hid (show lim most (N, .ok r0) = (N, .ok r0) by simp only [lim, if_neg hl])
      have hw : IntKind.u64.wrap most = most := by rw [IntKind.wrap_u64]; omega
      have hge : 0 ≤ most := by omega
      have hNm : N ≤ most := by omega
      clear hl
      go_enter Try.func50, Try.ntmps50
      go_wp2_with fail
      refine HU.out.mono ?_
      rintro r w1 ⟨rfl, h1, hb⟩
      have h1' := h1
      obtain ⟨A, n, c, hg, hL1, h81, hn1⟩ := h1
      have hc := two_c1 hg
      clear hg hL1 h81
      go_wp2_with fail
      all_goals
        go_ret
        exact ⟨by rw [HL.out]; rfl, by rw [HL.out]; exact h1', hb⟩

theorem lim_ok {B g : Nat} {w : World} {s : St} (h : RAt B w g s) {most N : Int} {r : List Int} (hl : lim most (rdU s) = (N, .ok r)) : 0 ≤ N ∧ N ≤ most := by
  rcases h.cases with ⟨e, hU⟩ | ⟨M, r0, hU, hM0, _⟩
  · rw [hU] at hl; simp [lim] at hl
  · rw [hU] at hl
    simp only [lim] at hl
    split at hl
    · simp at hl
    · simp only [Prod.mk.injEq, St.ok.injEq] at hl
      obtain ⟨rfl, rfl⟩ := hl
      exact ⟨hM0, by omega⟩
/-- A slice of the integers zs; of what was there no other block than g has turned. -/
def MkR (t : TypeId) (k : IntKind) (g : Nat) (w : World) (zs : List Int) (e : Ending) (w' : World) : Prop :=
  ∃ A n c, e = .returned (.slice A n c) ∧ zs.length = n ∧ Lst t k w'.heap.size w' A n c zs ∧ But g w w'
theorem mkR_nil (t : TypeId) (k : IntKind) (g : Nat) (w w' : World) (h : But g w w') : MkR t k g w [] (.returned (.slice none 0 0)) w' :=
  ⟨none, 0, 0, rfl, rfl, Lst.none_ _ _ _ _, h⟩
theorem Lst.cutR {t : TypeId} {k : IntKind} {B n c : Nat} {w : World} {A : Option Addr} {zs : List Int} (h : Lst t k B w A n c zs) (a : Nat) (ha : a ≤ n) : Lst t k B w A a c (zs.take a) := by
  obtain ⟨h1, h2, h3, h4⟩ := h
  refine ⟨by rw [List.length_take]; omega, by omega, h3, ?_⟩
  rcases h4 with h4 | ⟨b, off, C, e, hb, hc, hj⟩
  · exact .inl h4
  · exact .inr ⟨b, off, C, e, hb, hc, fun j hja => by rw [hj j (by omega), List.getElem?_take_of_lt hja]⟩
theorem Lst.dropAny {t : TypeId} {k : IntKind} {B n c : Nat} {w : World} {A : Option Addr} {zs : List Int} (h : Lst t k B w A n c zs) (m : Nat) (hm : m ≤ n) (A' : Option Addr) (hA : A' = (if c = m then A else A.map (·.add m))) : Lst t k B w A' (n - m) (c - m) (zs.drop m) := by
  rcases A with _ | ⟨b, off, sp⟩
  · have h' := h
    obtain ⟨h1, h2, h3, h4⟩ := h
    have e : A' = none := by rw [hA]; split <;> rfl
    subst e
    rcases h4 with ⟨_, h4⟩ | ⟨b, off, C, e, _⟩
    · exact ⟨by rw [List.length_drop, h1], by omega, by omega, .inl ⟨rfl, by omega⟩⟩
    · cases e
  · have hsp : sp = none := by
      rcases h.2.2.2 with ⟨e, _⟩ | ⟨b', off', C, e, _⟩
      · cases e
      · injection e with e; injection e with _ _ e3
    subst hsp
    have hle := h.le
    by_cases hc : c = m
    · rw [if_pos hc] at hA
      subst hA
      exact Lst.dropTo h m hm off (.inr (by omega))
    · rw [if_neg hc] at hA
      simp only [Option.map_some, Addr.add_lit] at hA
      subst hA
      exact Lst.dropTo h m hm (off + m) (.inl rfl)

set_option maxHeartbeats 1000000 in
theorem r_bytes {B : Nat} (g : Nat) (s : St) (most : Int) (w : World) (h : RAt B w g s) (hBw : B ≤ w.heap.size) (hm : I64 most) :
    Calls Try.prog 39 #[.pointer (some ⟨g, 0, none⟩), .int .i64 most] w fun r w' => MkR 5 .u8 g w (rdB most s).1 r w' ∧ RAt B w' g (rdB most s).2 := by
  have hl := r_length g s most w h hm
  obtain ⟨N, S, hNS⟩ : ∃ N S, lim most (rdU s) = (N, S) := ⟨_, _, rfl⟩
  have hE : rdB most s = rdN rdO N.toNat [] S := by unfold rdB rdList; rw [hNS]
  rw [hNS] at hl
  have HL := Lib.hid hl
  obtain ⟨_, hm1⟩ := hm
  clear hl
  cases S with
  | bad e0 =>
    rw [rdN_bad] at hE
    have HE := Lib.hid hE
    clear hNS hE
    go_enter Try.func39, Try.ntmps39
    go_wp2_with fail
    refine HL.out.mono ?_
    rintro r w1 ⟨rfl, h1, hb⟩
    have h1' := h1
    obtain ⟨A, n, c, hg, h0, hi0⟩ := h1
    have hc := two_c1 hg
    clear hi0 hg
    go_wp2_with fail
    go_ret
    rw [HE.out]
    exact ⟨mkR_nil _ _ _ _ _ hb, h1'⟩
  | ok r0 =>
    obtain ⟨hN0, hN1⟩ := lim_ok h hNS
    obtain ⟨N, rfl⟩ := Int.eq_ofNat_of_zero_le hN0
    rw [Int.toNat_natCast, rdN_O] at hE
    have HE := Lib.hid hE
    clear hNS hE
    go_enter Try.func39, Try.ntmps39
    go_wp2_with fail
    refine HL.out.mono ?_
    rintro r w1 ⟨rfl, h1, hb⟩
    have h1' := h1
    have hF := Lib.hid (r_fail g (.ok r0) 7 w1 h1 (by decide) (by unfold I64; omega))
    obtain ⟨A, n, c, hg, hL, h8, hn⟩ := h1
    have hc0 := two_c0 hg
    have hc1 := two_c1 hg
    have hf := two_f hg 0
    have HG := Lib.hid hg
    have HLL := Lib.hid hL.len
    have hnc := hL.le
    have HLs := Lib.hid hL
    have H8 := Lib.hid h8
    have hsz := hb.size
    clear hg hL h8
    by_cases hgt : n < N
    · have hEE : rdB most s = ([], .bad 7) := by rw [HE.out, if_neg (by rw [HLL.out]; omega)]
      have HEE := Lib.hid hEE
      clear hEE
      go_wp2_with fail
      refine hF.out.mono ?_
      rintro r w2 ⟨rfl, h2, hb2⟩
      have h2' := h2
      obtain ⟨A2, n2, c2, hg2, h0, hi0⟩ := h2
      have hc2 := two_c1 hg2
      clear hi0 hg2 hc0 hc1
      go_wp2_with fail
      go_ret
      rw [HEE.out]
      exact ⟨mkR_nil _ _ _ _ _ (but_trans hb hb2), h2'⟩
    · have hEE : rdB most s = (r0.take N, .ok (r0.drop N)) := by rw [HE.out, if_pos (by rw [HLL.out]; omega)]; rfl
      have HEE := Lib.hid hEE
      clear hEE
      by_cases hcap : c = N
      · subst hcap
        obtain rfl : n = c := by omega
        have hz0 := (Lst.dropAny HLs.out n (by omega) A (by rw [if_pos rfl])).set HG.out (by decide) 0 (.slice A 0 0)
        rw [Nat.sub_self] at hz0
        have HZ0 := Lib.hid hz0
        clear hz0
        go_wp2_with fail
        go_ret
        rw [HEE.out]
        exact ⟨⟨A, n, n, rfl, by rw [List.length_take, HLL.out]; omega, ((HLs.out.cutR n (by omega)).set HG.out (by decide) 0 _).more (by show B ≤ (w1.setCell _ _).heap.size; simp [World.setCell]; omega), but_trans hb (but_set _ _ _ _)⟩,
          ⟨A, 0, 0, two_s0 HG.out _, HZ0.out, fun y hy => H8.out y (List.mem_of_mem_drop hy), by omega⟩⟩
      · have hcN := Lib.hid hcap
        go_wp2_with fail
        go_ret
        rw [HEE.out]
        exact ⟨⟨A, N, c, rfl, by rw [List.length_take, HLL.out]; omega, ((HLs.out.cutR N (by omega)).set HG.out (by decide) 0 _).more (by show B ≤ (w1.setCell _ _).heap.size; simp [World.setCell]; omega), but_trans hb (but_set _ _ _ _)⟩,
          ⟨_, n - N, c - N, two_s0 HG.out _, (Lst.dropAny HLs.out N (by omega) _ (by rw [if_neg hcN.out])).set HG.out (by decide) 0 _, fun y hy => H8.out y (List.mem_of_mem_drop hy), by omega⟩⟩

set_option maxHeartbeats 1000000 in
theorem r_ints {B : Nat} (g : Nat) (s : St) (most : Int) (w : World) (h : RAt B w g s) (hBw : B ≤ w.heap.size) (hm : I64 most) :
    Calls Try.prog 40 #[.pointer (some ⟨g, 0, none⟩), .int .i64 most] w fun r w' => MkR 3 .i64 g w (rdL most s).1 r w' ∧ RAt B w' g (rdL most s).2 := by
  obtain ⟨i2, hi2, hq0, hq1, hq2⟩ := info_parts info_int
  have hl := r_length g s most w h hm
  obtain ⟨N, S, hNS⟩ : ∃ N S, lim most (rdU s) = (N, S) := ⟨_, _, rfl⟩
  have hE : rdL most s = rdN rdI N.toNat [] S := by unfold rdL rdList; rw [hNS]
  rw [hNS] at hl
  have HL := Lib.hid hl
  have hgw := Lib.hid h.lt
  obtain ⟨_, hm1⟩ := hm
  clear hl
  cases S with
  | bad e0 =>
    have hN0 : N = 0 := by
      rcases h.cases with ⟨e, hU⟩ | ⟨M, r0, hU, _, _⟩
      · rw [hU] at hNS; simp only [lim, Prod.mk.injEq] at hNS; exact hNS.1.symm
      · rw [hU] at hNS
        simp only [lim] at hNS
        split at hNS
        · simp only [Prod.mk.injEq] at hNS; exact hNS.1.symm
        · simp at hNS
    subst hN0
    rw [rdN_bad] at hE
    have HE := Lib.hid hE
    clear hNS hE
    go_enter Try.func40, Try.ntmps40
    go_wp2_with fail
    refine HL.out.mono ?_
    rintro r w1 ⟨rfl, h1, hb⟩
    have h1' := h1
    obtain ⟨A, n, c, hg, h0, hi0⟩ := h1
    have hc := two_c1 hg
    clear hi0 hg
    go_wp2_with fail
    go_loopw [6, 7] (fun o i wr => o = .slice none 0 0 ∧ i = .int .i64 0 ∧ wr = w1) (fun _ _ _ => 0)
    case atStart => exact ⟨rfl, rfl, rfl⟩
    case round =>
      obtain ⟨rfl, rfl, rfl⟩ := hrel
      go_wp2_with fail
      go_ret
      rw [HE.out]
      exact ⟨mkR_nil _ _ _ _ _ hb, h1'⟩
  | ok r0 =>
    obtain ⟨hN0, hN1⟩ := lim_ok h hNS
    obtain ⟨N, rfl⟩ := Int.eq_ofNat_of_zero_le hN0
    rw [Int.toNat_natCast] at hE
    have HE := Lib.hid hE
    clear hNS hE
    go_enter Try.func40, Try.ntmps40
    go_wp2_with fail
    refine HL.out.mono ?_
    rintro r w1 ⟨rfl, h1, hb⟩
    have hr0 : r0.length ≤ 1000000 := by obtain ⟨_, n, _, _, hL, _, hn⟩ := h1; rw [hL.len]; exact hn
    clear h
    go_wp2_with fail
    go_loopw [6, 7] (fun o i wr => ∃ (k : Nat) (A : Option Addr) (c : Nat) (zs : List Int) (s' : St), k ≤ N ∧ k ≤ r0.length + 1 ∧ i = .int .i64 k ∧ o = .slice A k c ∧ Hid (zs.length = k) ∧ wr.ownsRow w.heap.size 3 1 (.slice A k c) k (zs.map (Value.int .i64)) ∧ Hid (k + s'.left ≤ r0.length ∨ ∃ e, s' = .bad e) ∧ RAt B wr g s' ∧ But g w wr ∧ Hid (rdN rdI (N - k) zs s' = rdN rdI N [] (.ok r0))) (fun _ i _ => r0.length + 2 - (intOf i).toNat)
    case atStart => exact ⟨0, none, 0, [], _, Nat.zero_le _, Nat.zero_le _, rfl, rfl, rfl, ⟨rfl, .inl ⟨rfl, rfl⟩⟩, .inl (by simp [St.left]), h1, hb, rfl⟩
    case round =>
      obtain ⟨k, A1, c1, zs, s', hk, hk2, rfl, rfl, hz, hrow, hleft, hR, hB2, hRd⟩ := hrel
      clear h1 hb
      cases s' with
      | bad e =>
        have hRR := hRd.out
        rw [rdN_bad] at hRR
        have HRR := Lib.hid hRR
        have hR' := hR
        obtain ⟨A, n, c, hg, h0, hi0⟩ := hR
        have hc := two_c1 hg
        clear hRR hi0 hg hrow
        by_cases hlt : k < N
        · go_wp2_with fail
          go_ret
          rw [HE.out, ← HRR.out]
          exact ⟨mkR_nil _ _ _ _ _ hB2, hR'⟩
        · go_wp2_with fail
          go_ret
          rw [HE.out, ← HRR.out]
          exact ⟨mkR_nil _ _ _ _ _ hB2, hR'⟩
      | ok r =>
        have hkr : k + r.length ≤ r0.length := by
          rcases hleft.out with h | ⟨e, h⟩
          · exact h
          · cases h
        have hRc := Lib.hid hR
        obtain ⟨A, n, c, hg, hL, h8, hn⟩ := hR
        have hc := two_c1 hg
        have HG := Lib.hid hg
        clear hg hL h8
        by_cases hlt : k < N
        · obtain ⟨v, S', hv⟩ : ∃ v S', rdI (.ok r) = (v, S') := ⟨_, _, rfl⟩
          have hci := r_int g (.ok r) _ hRc.out
          rw [hv] at hci
          have HC := Lib.hid hci
          have hRR := hRd.out
          have e1 : N - k = (N - (k + 1)) + 1 := by omega
          rw [e1, rdN, hv] at hRR
          have HR := Lib.hid hRR
          have hlf : Hid (k + 1 + S'.left ≤ r0.length ∨ ∃ e, S' = .bad e) := by
            cases S' with
            | bad e => exact .inr ⟨e, rfl⟩
            | ok r2 =>
              have := rdI_less hRc.out.b8 hv
              exact .inl (by simp only [St.left]; omega)
          clear hci hv hRd hRR e1
          go_wp2_with fail
          refine HC.out.mono ?_
          rintro r' w3 ⟨rfl, h3, hb3⟩
          have hrow3 := own_but hrow hb3 HG.out (by decide)
          have hs3 : w.heap.size ≤ w3.heap.size := Nat.le_trans hB2.size hb3.size
          obtain ⟨ci, hci⟩ := h3.struct
          have hnr : some g ≠ (Value.slice A1 k c1).ownBlock := fun e => by have := (hrow3.lt g e.symm).1; have := hgw.out; omega
          clear hci
          go_wp2_with (at_builtin
                       refine wpList_append_slc rfl _ _ 22 rfl w.heap.size 3 i2 _ 8 Try.underlying22 hi2 hq0 hq1 hq2 rfl _ _ _ rfl (hrow3.alloc _) .i64 _ _ _ _ rfl (slc_one _ _ _ _) (by simp only [maxLen]; omega) (by omega) (by simp; omega) ?_
                       intro A2 c2 w4 hown4 hgrow4)
          have h4 : RAt B w4 g S' := (h3.below ((Below.refl _ _).alloc (Nat.le_refl _) _)).grown hgrow4 hnr (fun b e => .inl (by have := (hrow3.lt b e).1; omega))
          have hb4 : But g w w4 := by
            have hq := but_below (but_trans hB2 hb3) ((Below.refl _ w3).alloc (Nat.le_refl _) (.cells #[.int .i64 v] 3))
            exact ⟨hgrow4.os.trans hq.os, hgrow4.tape.trans hq.tape, hgrow4.output.trans hq.output, Nat.le_trans hq.size hgrow4.size, fun i hi hne => (hgrow4.block i (Nat.lt_of_lt_of_le hi hq.size) (fun e => by have := (hrow3.lt i e.symm).1; omega)).trans (hq.block i hi hne)⟩
          go_roundw
          case rel => exact ⟨k + 1, A2, c2, zs ++ [v], S', by omega, by omega, by go_num, rfl, (by show _ = _; rw [List.length_append, hz.out]; rfl), (by rw [List.map_append]; exact hown4), hlf, h4, hb4, HR.out⟩
          case measure => simp [intOf]; omega
        · obtain rfl : N = k := by omega
          have hRR := hRd.out
          rw [Nat.sub_self, rdN] at hRR
          have HRR := Lib.hid hRR
          clear hRd hRR
          go_wp2_with fail
          go_ret
          rw [HE.out, ← HRR.out]
          exact ⟨⟨A1, N, c1, rfl, hz.out, Lst.of_own hrow, hB2⟩, hRc.out⟩
end Go.Proofs.Ytcojbloflaeefaa
