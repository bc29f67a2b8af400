/-
  The contracts of wire.In's Int, Bytes and Ints: they read what the readers of the mathematics read. No condition beyond the reader's shape.
-/
import Derived.Test.YtcojbloflaeefaaWInU
namespace Go.Proofs.Ytcojbloflaeefaa
open Go Go.RowKit

theorem decF_cases (bs : List Int) (hb : ∀ x ∈ bs, B8 x) : (∃ v r, decF 0 0 bs = (v, .ok r) ∧ W64 v ∧ bs = encU v ++ r) ∨ (∃ e, decF 0 0 bs = (0, .bad e)) := by
  have main : ∀ (bs : List Int) (i : Nat) (acc : Int), (∃ v r, decF i acc bs = (v, .ok r)) ∨ (∃ e, decF i acc bs = (0, .bad e)) := by
    intro bs
    induction bs with
    | nil => intro i acc; exact .inr ⟨7, rfl⟩
    | cons c cs ih =>
      intro i acc
      rw [decF]
      split
      · exact .inr ⟨8, rfl⟩
      · split
        · exact .inl ⟨_, _, rfl⟩
        · exact ih _ _
  rcases main bs 0 0 with ⟨v, r, h⟩ | h
  · obtain ⟨h1, h2⟩ := rdU_inv (bs := bs) hb h
    exact .inl ⟨v, r, h, h1, h2⟩
  · exact .inr h
theorem InAt.w64 {B g : Nat} {w : World} {s : St} (h : InAt B w g s) : W64 (rdU s).1 := by
  cases s with
  | bad e => exact ⟨by simp [rdU], by simp [rdU]⟩
  | ok bs =>
    rcases decF_cases bs h.b8 with ⟨v, r, e, hv, _⟩ | ⟨e', e⟩
    · show W64 (decF 0 0 bs).1
      rw [e]
      exact hv
    · show W64 (decF 0 0 bs).1
      rw [e]
      exact ⟨by simp, by simp⟩

theorem and_one (z : Int) (h : W64 z) : bits .and .u64 z 1 = z % 2 := by
  obtain ⟨h0, h1⟩ := h
  rw [u64_and z 1 h0 h1 (by omega) (by omega)]
  show ((z.toNat &&& 1 : Nat) : Int) = _
  rw [nat_mask1]
  omega
theorem xor_max (n : Int) (h0 : 0 ≤ n) (h1 : n < 18446744073709551616) : bits .xor .u64 IntKind.u64.max n = 18446744073709551615 - n := by
  obtain ⟨k, rfl⟩ := Int.eq_ofNat_of_zero_le h0
  have hk2 : k < 18446744073709551616 := by omega
  have em : IntKind.u64.max = ((18446744073709551615 : Nat) : Int) := by decide
  rw [em, bits_xor_u64_nat _ _ (by decide) hk2]
  have e1 : (BitVec.allOnes 64 ^^^ BitVec.ofNat 64 k).toNat = (~~~ BitVec.ofNat 64 k).toNat := by rw [BitVec.allOnes_xor]
  rw [BitVec.toNat_xor, BitVec.toNat_not, BitVec.toNat_ofNat, BitVec.toNat_allOnes, Nat.mod_eq_of_lt (by omega)] at e1
  have ex : (18446744073709551615 : Nat) ^^^ k = 18446744073709551615 - k := e1
  rw [ex]
  omega
theorem wrap64_eq (n : Int) : wrap64 n = (n + 9223372036854775808) % 18446744073709551616 - 9223372036854775808 := by simp only [wrap64]

set_option maxHeartbeats 400000 in
theorem unzigzag_any (z : Int) (h : W64 z) (w : World) :
    Calls Try.prog 45 #[.int .u64 z] w fun e w' => e = .returned (.int .i64 (unzig z)) ∧ w = w' := by
  have ha := and_one z h
  obtain ⟨h0, h1⟩ := h
  by_cases h2 : z % 2 = 1
  · have ht : (bits .and .u64 z 1 == 1) = true := by rw [ha, h2]; rfl
    have HX := Lib.hid (xor_max (z / 2) (by omega) (by omega))
    have H2 := Lib.hid h2
    have HB := Lib.hid (show z < 18446744073709551616 from h1)
    clear ha h2 h1
    go_enter Try.func45, Try.ntmps45
    go_wp2
    go_ret
    refine ⟨?_, rfl⟩
    have := H2.out
    have := HB.out
    exact ret_i64 (by unfold unzig; rw [HX.out, wrap64_eq, if_pos H2.out]; omega)
  · have ht : (bits .and .u64 z 1 == 1) = false := by rw [ha]; simp; omega
    have H2 := Lib.hid h2
    have HB := Lib.hid (show z < 18446744073709551616 from h1)
    clear ha h2 h1
    go_enter Try.func45, Try.ntmps45
    go_wp2
    go_ret
    refine ⟨?_, rfl⟩
    have := H2.out
    have := HB.out
    exact ret_i64 (by unfold unzig; rw [wrap64_eq, if_neg H2.out]; omega)

set_option maxHeartbeats 400000 in
theorem in_int {B : Nat} (g : Nat) (s : St) (w : World) (h : InAt B w g s) :
    Calls Try.prog 33 #[.pointer (some ⟨g, 0, none⟩)] w fun r w' => r = .returned (.int .i64 (rdI s).1) ∧ InAt B w' g (rdI s).2 ∧ But g w w' := by
  go_enter Try.func33, Try.ntmps33
  go_wp2_with fail
  refine (in_uint g s _ h).mono ?_
  rintro r w1 ⟨rfl, h1, hb⟩
  go_wp2_with fail
  refine (unzigzag_any _ h.w64 _).mono ?_
  rintro r w2 ⟨rfl, rfl⟩
  go_wp2_with fail
  go_ret
  exact ⟨rfl, h1, hb⟩

def lenOf : Value → Nat | .slice _ n _ => n | _ => 0
/-- A slice of the integers zs that the call made; of what was there no other block than g has turned. -/
def MkB (t : TypeId) (k : IntKind) (g : Nat) (w : World) (zs : List Int) (e : Ending) (w' : World) : Prop :=
  ∃ A n c, e = .returned (.slice A n c) ∧ zs.length = n ∧ Lst t k w'.heap.size w' A n c zs ∧ w'.ownsRow w.heap.size t 1 (.slice A n c) n (zs.map (Value.int k)) ∧ But g w w'

theorem rdO_less {bs r : List Int} {v : Int} (h : rdO (.ok bs) = (v, .ok r)) : r.length < bs.length := by
  cases bs with
  | nil => simp [rdO] at h
  | cons c cs => simp [rdO] at h; simp [← h.2]
theorem rdI_less {bs r : List Int} {v : Int} (hb : ∀ x ∈ bs, B8 x) (h : rdI (.ok bs) = (v, .ok r)) : r.length < bs.length := by
  have h2 : (decF 0 0 bs).2 = .ok r := congrArg Prod.snd h
  rcases decF_cases bs hb with ⟨v', r', e, hv, e2⟩ | ⟨e', e⟩
  · rw [e] at h2
    injection h2 with h2
    subst h2
    have := encU_pos v'
    rw [e2, List.length_append]
    omega
  · rw [e] at h2; cases h2
theorem mkB_nil (t : TypeId) (k : IntKind) (g : Nat) (w w' : World) (h : But g w w') : MkB t k g w [] (.returned (.slice none 0 0)) w' :=
  ⟨none, 0, 0, rfl, rfl, Lst.none_ _ _ _ _, ⟨rfl, .inl ⟨rfl, rfl⟩⟩, h⟩
theorem own_but {t : TypeId} {base n g : Nat} {v : Value} {xs : List Value} {w w' : World} {cs : Array Value} {tg : TypeId} {f : Nat × Nat} (h : w.ownsRow base t 1 v n xs) (hb : But g w w') (hg : w.heap[g]? = some (.cells cs tg f)) (hne : tg ≠ t) : w'.ownsRow base t 1 v n xs := by
  refine h.kept hb ?_
  rcases h.2 with ⟨rfl, _⟩ | ⟨g', cap, cur, rfl, _, hh, _⟩
  · exact .inl rfl
  · refine .inr fun e => ?_
    have : g' = g := by simpa [Value.ownBlock] using e
    subst this
    exact heap_ne hg hh hne rfl
theorem InAt.struct {B g : Nat} {w : World} {s : St} (h : InAt B w g s) : ∃ cs, w.heap[g]? = some (.cells cs 65 (0, 0)) := by
  cases s with
  | ok bs => obtain ⟨A, n, c, hg, _⟩ := h; exact ⟨_, hg⟩
  | bad e => obtain ⟨A, n, c, hg, _⟩ := h; exact ⟨_, hg⟩

set_option maxHeartbeats 1000000 in
theorem rlb_bad {B : Nat} (g : Nat) (s : St) (most : Int) (w : World) (h : InAt B w g s) (v : Value) (e0 : Int) (hU : rdU s = (0, .bad e0)) (hm : I64 most) :
    Calls Try.prog 46 #[.pointer (some ⟨g, 0, none⟩), .int .i64 most, v] w fun r w' => MkB 5 .u8 g w [] r w' ∧ InAt B w' g (.bad e0) := by
  have hu := in_uint g s w h
  rw [hU] at hu
  have HU := Lib.hid hu
  clear hu hU
  go_enter Try.func46, Try.ntmps46
  go_wp2_with fail
  refine HU.out.mono ?_
  rintro r w1 ⟨rfl, h1, hb⟩
  have h1' := h1
  obtain ⟨A, n, c, hg, h0, hi0⟩ := h1
  have hc := two_c1 hg
  have HI := Lib.hid hi0
  clear hi0
  by_cases hm0 : most < 0
  · have hF := Lib.hid (in_fail g (.bad e0) 2 w1 h1' (by decide) (by unfold I64; omega))
    clear hc hg
    go_wp2_with fail
    refine hF.out.mono ?_
    rintro r w2 ⟨rfl, h2, hb2⟩
    have h2' := h2
    obtain ⟨A, n, c, hg, h0, hi0⟩ := h2
    have hc := two_c1 hg
    clear hi0
    go_wp2_with fail
    go_ret
    exact ⟨mkB_nil _ _ _ _ _ (but_trans hb hb2), h2'⟩
  · obtain ⟨_, hm1⟩ := hm
    have hw : IntKind.u64.wrap most = most := by rw [IntKind.wrap_u64]; omega
    go_wp2_with fail
    go_ret
    exact ⟨mkB_nil _ _ _ _ _ hb, h1'⟩

set_option maxHeartbeats 1000000 in
theorem rlb_lim {B : Nat} (g : Nat) (s : St) (most : Int) (w : World) (h : InAt B w g s) (v : Value) (N : Int) (r0 : List Int) (hU : rdU s = (N, .ok r0)) (hm : I64 most) (hl : most < 0 ∨ most < N) :
    Calls Try.prog 46 #[.pointer (some ⟨g, 0, none⟩), .int .i64 most, v] w fun r w' => MkB 5 .u8 g w [] r w' ∧ InAt B w' g (.bad 2) := by
  have hu := in_uint g s w h
  rw [hU] at hu
  have HU := Lib.hid hu
  clear hu hU
  go_enter Try.func46, Try.ntmps46
  go_wp2_with fail
  refine HU.out.mono ?_
  rintro r w1 ⟨rfl, h1, hb⟩
  have hF := Lib.hid (in_fail g (.ok r0) 2 w1 h1 (by decide) (by unfold I64; omega))
  by_cases hm0 : most < 0
  · clear hl
    go_wp2_with fail
    refine hF.out.mono ?_
    rintro r w2 ⟨rfl, h2, hb2⟩
    have h2' := h2
    obtain ⟨A, n, c, hg, h0, hi0⟩ := h2
    have hc := two_c1 hg
    clear hi0
    go_wp2_with fail
    go_ret
    exact ⟨mkB_nil _ _ _ _ _ (but_trans hb hb2), h2'⟩
  · obtain ⟨_, hm1⟩ := hm
    have hw : IntKind.u64.wrap most = most := by rw [IntKind.wrap_u64]; omega
    have hlt : most < N := by omega
    clear hl
    go_wp2_with fail
    refine hF.out.mono ?_
    rintro r w2 ⟨rfl, h2, hb2⟩
    have h2' := h2
    obtain ⟨A, n, c, hg, h0, hi0⟩ := h2
    have hc := two_c1 hg
    clear hi0
    go_wp2_with fail
    go_ret
    exact ⟨mkB_nil _ _ _ _ _ (but_trans hb hb2), h2'⟩

set_option maxHeartbeats 1000000 in
theorem rlb_ok {B : Nat} (g : Nat) (s : St) (most : Int) (w : World) (h : InAt B w g s) (hBw : B ≤ w.heap.size) (N : Int) (r0 : List Int) (hU : rdU s = (N, .ok r0)) (hm : I64 most) (hm0 : 0 ≤ most) (hl : N ≤ most) (hN : 0 ≤ N) :
    Calls Try.prog 46 #[.pointer (some ⟨g, 0, none⟩), .int .i64 most, .func (.func 43) #[.pointer (some ⟨g, 0, none⟩)] #[]] w fun r w' => MkB 5 .u8 g w (rdN rdO N.toNat [] (.ok r0)).1 r w' ∧ InAt B w' g (rdN rdO N.toNat [] (.ok r0)).2 := by
  obtain ⟨i0, hi, hz0, hz1, hz2⟩ := info_parts info_byte
  have hu := in_uint g s w h
  rw [hU] at hu
  have HU := Lib.hid hu
  clear hu hU
  obtain ⟨N, rfl⟩ := Int.eq_ofNat_of_zero_le hN
  simp only [Int.toNat_natCast]
  obtain ⟨_, hm1⟩ := hm
  have hw : IntKind.u64.wrap most = most := by rw [IntKind.wrap_u64]; omega
  go_enter Try.func46, Try.ntmps46
  go_wp2_with fail
  refine HU.out.mono ?_
  rintro r w1 ⟨rfl, h1, hb⟩
  have h1' := h1
  obtain ⟨A, n, c, hg, hL, h8, hn⟩ := h1
  have hc0 := two_c0 hg
  have hc1 := two_c1 hg
  have HL := Lib.hid hL
  clear h8 hL
  have hsz : w.heap.size ≤ w1.heap.size := hb.size
  have hr0 : r0.length ≤ 1000000 := h1'.short
  have hgw := Lib.hid (h.lt)
  clear h
  by_cases hNn : n < N
  all_goals
    go_wp2_with (at_make
                 refine wpList_make_own _ rfl _ _ 24 rfl w.heap.size 5 i0 _ 1 Try.underlying24 hi hz0 hz1 .i64 .u64 _ _ rfl rfl rfl (by rw [hz2]; omega) (by simp only [maxLen]; omega) hsz ?_
                 intro w2 hown hgrow)
    have h2 : InAt B w2 g (.ok r0) := h1'.grown hgrow (by simp) (fun b e => by cases e)
    have hb2 : But g w w2 := but_below hb ((Below.refl _ _).grown hgrow (Nat.le_refl _) (fun k e => by cases e))
    clear hgrow hc0 hc1 hg h1' hb
    go_loopw [8] (fun l wr => ∃ (A : Option Addr) (c k : Nat) (zs r : List Int), k ≤ N ∧ l = .slice A k c ∧ zs.length = k ∧ wr.ownsRow w.heap.size 5 1 (.slice A k c) k (zs.map (Value.int .u8)) ∧ k + r.length ≤ r0.length ∧ InAt B wr g (.ok r) ∧ But g w wr ∧ Hid (rdN rdO (N - k) zs (.ok r) = rdN rdO N [] (.ok r0))) (fun l _ => r0.length + 1 - lenOf l)
    case atStart => exact ⟨_, _, 0, [], r0, Nat.zero_le _, rfl, rfl, hown, by omega, h2, hb2, rfl⟩
    case round =>
      obtain ⟨A1, c1, k, zs, r, hk, rfl, hz, hrow, hkr, hI, hB2, hR⟩ := hrel
      clear h2 hb2 hown
      have HZ := Lib.hid hz
      clear hz
      by_cases hlt : k < N
      · obtain ⟨v, S', hv⟩ : ∃ v S', rdO (.ok r) = (v, S') := ⟨_, _, rfl⟩
        have hc := in_octet g (.ok r) _ hI
        rw [hv] at hc
        have HC := Lib.hid hc
        have hR' := hR.out
        have e1 : N - k = (N - (k + 1)) + 1 := by omega
        rw [e1, rdN, hv] at hR'
        have HR := Lib.hid hR'
        have HV := Lib.hid hv
        clear hc hv hR hR' e1
        go_wp2_with fail
        refine HC.out.mono ?_
        rintro r' w3 ⟨rfl, h3, hb3⟩
        have hI3 := hI.struct
        cases S' with
        | bad e =>
          have h3' := h3
          obtain ⟨A', n', c', hg', h0, hi0⟩ := h3
          have hcc := two_c1 hg'
          have HRR := Lib.hid (show ([], St.bad e) = rdN rdO N [] (.ok r0) by rw [← HR.out]; cases N - (k + 1) <;> rfl)
          clear hi0 hg'
          go_wp2_with fail
          go_ret
          rw [← HRR.out]
          exact ⟨mkB_nil _ _ _ _ _ (but_trans hB2 hb3), h3'⟩
        | ok r2 =>
          have h3' := h3
          obtain ⟨A', n', c', hg', hL', h8', hn'⟩ := h3
          have hcc := two_c1 hg'
          have hrl := rdO_less HV.out
          have hrow3 := own_but hrow hb3 hI3.choose_spec (by decide)
          have hs3 : w.heap.size ≤ w3.heap.size := Nat.le_trans hB2.size hb3.size
          have hnr : some g ≠ (Value.slice A1 k c1).ownBlock := fun e => by have := (hrow3.lt g e.symm).1; have := hgw.out; omega
          clear h8' hL' hg'
          go_wp2_with (at_builtin
                       refine wpList_append_slc rfl _ _ 24 rfl w.heap.size 5 i0 _ 1 Try.underlying24 hi hz0 hz1 hz2 rfl _ _ _ rfl (hrow3.alloc _) .u8 _ _ _ _ rfl (slc_one _ _ _ _) (by simp only [maxLen]; omega) (by omega) (by simp; omega) ?_
                       intro A2 c2 w4 hown4 hgrow4)
          have h4 : InAt B w4 g (.ok r2) := (h3'.below ((Below.refl _ _).alloc (Nat.le_refl _) _)).grown hgrow4 hnr (fun b e => .inl (by have := (hrow3.lt b e).1; omega))
          have hb4 : But g w w4 := by
            have hq := but_below (but_trans hB2 hb3) ((Below.refl _ w3).alloc (Nat.le_refl _) (.cells #[.int .u8 v] 5))
            exact ⟨hgrow4.os.trans hq.os, hgrow4.tape.trans hq.tape, hgrow4.output.trans hq.output, Nat.le_trans hq.size hgrow4.size, fun i hi hne => (hgrow4.block i (Nat.lt_of_lt_of_le hi hq.size) (fun e => by have := (hrow3.lt i e.symm).1; omega)).trans (hq.block i hi hne)⟩
          go_roundw
          case rel => exact ⟨A2, c2, k + 1, zs ++ [v], r2, by omega, rfl, by rw [List.length_append, HZ.out]; rfl, by rw [List.map_append]; exact hown4, by omega, h4, hb4, HR.out⟩
          case measure => simp only [lenOf]; omega
      · obtain rfl : k = N := by omega
        have hR' := hR.out
        rw [Nat.sub_self, rdN] at hR'
        have HR := Lib.hid hR'
        clear hR hR'
        go_wp2_with fail
        go_ret
        rw [← HR.out]
        exact ⟨⟨A1, k, c1, rfl, HZ.out, Lst.of_own hrow, hrow, hB2⟩, hI⟩

set_option maxHeartbeats 1000000 in
theorem rli_bad {B : Nat} (g : Nat) (s : St) (most : Int) (w : World) (h : InAt B w g s) (v : Value) (e0 : Int) (hU : rdU s = (0, .bad e0)) (hm : I64 most) :
    Calls Try.prog 47 #[.pointer (some ⟨g, 0, none⟩), .int .i64 most, v] w fun r w' => MkB 3 .i64 g w [] r w' ∧ InAt B w' g (.bad e0) := by
  have hu := in_uint g s w h
  rw [hU] at hu
  have HU := Lib.hid hu
  clear hu hU
  go_enter Try.func47, Try.ntmps47
  go_wp2_with fail
  refine HU.out.mono ?_
  rintro r w1 ⟨rfl, h1, hb⟩
  have h1' := h1
  obtain ⟨A, n, c, hg, h0, hi0⟩ := h1
  have hc := two_c1 hg
  have HI := Lib.hid hi0
  clear hi0
  by_cases hm0 : most < 0
  · have hF := Lib.hid (in_fail g (.bad e0) 2 w1 h1' (by decide) (by unfold I64; omega))
    clear hc hg
    go_wp2_with fail
    refine hF.out.mono ?_
    rintro r w2 ⟨rfl, h2, hb2⟩
    have h2' := h2
    obtain ⟨A, n, c, hg, h0, hi0⟩ := h2
    have hc := two_c1 hg
    clear hi0
    go_wp2_with fail
    go_ret
    exact ⟨mkB_nil _ _ _ _ _ (but_trans hb hb2), h2'⟩
  · obtain ⟨_, hm1⟩ := hm
    have hw : IntKind.u64.wrap most = most := by rw [IntKind.wrap_u64]; omega
    go_wp2_with fail
    go_ret
    exact ⟨mkB_nil _ _ _ _ _ hb, h1'⟩

set_option maxHeartbeats 1000000 in
theorem rli_lim {B : Nat} (g : Nat) (s : St) (most : Int) (w : World) (h : InAt B w g s) (v : Value) (N : Int) (r0 : List Int) (hU : rdU s = (N, .ok r0)) (hm : I64 most) (hl : most < 0 ∨ most < N) :
    Calls Try.prog 47 #[.pointer (some ⟨g, 0, none⟩), .int .i64 most, v] w fun r w' => MkB 3 .i64 g w [] r w' ∧ InAt B w' g (.bad 2) := by
  have hu := in_uint g s w h
  rw [hU] at hu
  have HU := Lib.hid hu
  clear hu hU
  go_enter Try.func47, Try.ntmps47
  go_wp2_with fail
  refine HU.out.mono ?_
  rintro r w1 ⟨rfl, h1, hb⟩
  have hF := Lib.hid (in_fail g (.ok r0) 2 w1 h1 (by decide) (by unfold I64; omega))
  by_cases hm0 : most < 0
  · clear hl
    go_wp2_with fail
    refine hF.out.mono ?_
    rintro r w2 ⟨rfl, h2, hb2⟩
    have h2' := h2
    obtain ⟨A, n, c, hg, h0, hi0⟩ := h2
    have hc := two_c1 hg
    clear hi0
    go_wp2_with fail
    go_ret
    exact ⟨mkB_nil _ _ _ _ _ (but_trans hb hb2), h2'⟩
  · obtain ⟨_, hm1⟩ := hm
    have hw : IntKind.u64.wrap most = most := by rw [IntKind.wrap_u64]; omega
    have hlt : most < N := by omega
    clear hl
    go_wp2_with fail
    refine hF.out.mono ?_
    rintro r w2 ⟨rfl, h2, hb2⟩
    have h2' := h2
    obtain ⟨A, n, c, hg, h0, hi0⟩ := h2
    have hc := two_c1 hg
    clear hi0
    go_wp2_with fail
    go_ret
    exact ⟨mkB_nil _ _ _ _ _ (but_trans hb hb2), h2'⟩

set_option maxHeartbeats 1000000 in
theorem rli_ok {B : Nat} (g : Nat) (s : St) (most : Int) (w : World) (h : InAt B w g s) (hBw : B ≤ w.heap.size) (N : Int) (r0 : List Int) (hU : rdU s = (N, .ok r0)) (hm : I64 most) (hm0 : 0 ≤ most) (hl : N ≤ most) (hN : 0 ≤ N) :
    Calls Try.prog 47 #[.pointer (some ⟨g, 0, none⟩), .int .i64 most, .func (.func 33) #[.pointer (some ⟨g, 0, none⟩)] #[]] w fun r w' => MkB 3 .i64 g w (rdN rdI N.toNat [] (.ok r0)).1 r w' ∧ InAt B w' g (rdN rdI N.toNat [] (.ok r0)).2 := by
  obtain ⟨i0, hi, hz0, hz1, hz2⟩ := info_parts info_int
  have hu := in_uint g s w h
  rw [hU] at hu
  have HU := Lib.hid hu
  clear hu hU
  obtain ⟨N, rfl⟩ := Int.eq_ofNat_of_zero_le hN
  simp only [Int.toNat_natCast]
  obtain ⟨_, hm1⟩ := hm
  have hw : IntKind.u64.wrap most = most := by rw [IntKind.wrap_u64]; omega
  go_enter Try.func47, Try.ntmps47
  go_wp2_with fail
  refine HU.out.mono ?_
  rintro r w1 ⟨rfl, h1, hb⟩
  have h1' := h1
  obtain ⟨A, n, c, hg, hL, h8, hn⟩ := h1
  have hc0 := two_c0 hg
  have hc1 := two_c1 hg
  have HL := Lib.hid hL
  clear h8 hL
  have hsz : w.heap.size ≤ w1.heap.size := hb.size
  have hr0 : r0.length ≤ 1000000 := h1'.short
  have hgw := Lib.hid (h.lt)
  clear h
  by_cases hNn : n < N
  all_goals
    go_wp2_with (at_make
                 refine wpList_make_own _ rfl _ _ 22 rfl w.heap.size 3 i0 _ 1 Try.underlying22 hi hz0 hz1 .i64 .u64 _ _ rfl rfl rfl (by rw [hz2]; omega) (by simp only [maxLen]; omega) hsz ?_
                 intro w2 hown hgrow)
    have h2 : InAt B w2 g (.ok r0) := h1'.grown hgrow (by simp) (fun b e => by cases e)
    have hb2 : But g w w2 := but_below hb ((Below.refl _ _).grown hgrow (Nat.le_refl _) (fun k e => by cases e))
    clear hgrow hc0 hc1 hg h1' hb
    go_loopw [8] (fun l wr => ∃ (A : Option Addr) (c k : Nat) (zs r : List Int), k ≤ N ∧ l = .slice A k c ∧ zs.length = k ∧ wr.ownsRow w.heap.size 3 1 (.slice A k c) k (zs.map (Value.int .i64)) ∧ k + r.length ≤ r0.length ∧ InAt B wr g (.ok r) ∧ But g w wr ∧ Hid (rdN rdI (N - k) zs (.ok r) = rdN rdI N [] (.ok r0))) (fun l _ => r0.length + 1 - lenOf l)
    case atStart => exact ⟨_, _, 0, [], r0, Nat.zero_le _, rfl, rfl, hown, by omega, h2, hb2, rfl⟩
    case round =>
      obtain ⟨A1, c1, k, zs, r, hk, rfl, hz, hrow, hkr, hI, hB2, hR⟩ := hrel
      clear h2 hb2 hown
      have HZ := Lib.hid hz
      clear hz
      by_cases hlt : k < N
      · obtain ⟨v, S', hv⟩ : ∃ v S', rdI (.ok r) = (v, S') := ⟨_, _, rfl⟩
        have hc := in_int g (.ok r) _ hI
        rw [hv] at hc
        have HC := Lib.hid hc
        have hR' := hR.out
        have e1 : N - k = (N - (k + 1)) + 1 := by omega
        rw [e1, rdN, hv] at hR'
        have HR := Lib.hid hR'
        have HV := Lib.hid hv
        clear hc hv hR hR' e1
        go_wp2_with fail
        refine HC.out.mono ?_
        rintro r' w3 ⟨rfl, h3, hb3⟩
        have hI3 := hI.struct
        cases S' with
        | bad e =>
          have h3' := h3
          obtain ⟨A', n', c', hg', h0, hi0⟩ := h3
          have hcc := two_c1 hg'
          have HRR := Lib.hid (show ([], St.bad e) = rdN rdI N [] (.ok r0) by rw [← HR.out]; cases N - (k + 1) <;> rfl)
          clear hi0 hg'
          go_wp2_with fail
          go_ret
          rw [← HRR.out]
          exact ⟨mkB_nil _ _ _ _ _ (but_trans hB2 hb3), h3'⟩
        | ok r2 =>
          have h3' := h3
          obtain ⟨A', n', c', hg', hL', h8', hn'⟩ := h3
          have hcc := two_c1 hg'
          have hrl := rdI_less hI.b8 HV.out
          have hrow3 := own_but hrow hb3 hI3.choose_spec (by decide)
          have hs3 : w.heap.size ≤ w3.heap.size := Nat.le_trans hB2.size hb3.size
          have hnr : some g ≠ (Value.slice A1 k c1).ownBlock := fun e => by have := (hrow3.lt g e.symm).1; have := hgw.out; omega
          clear h8' hL' hg'
          go_wp2_with (at_builtin
                       refine wpList_append_slc rfl _ _ 22 rfl w.heap.size 3 i0 _ 8 Try.underlying22 hi hz0 hz1 hz2 rfl _ _ _ rfl (hrow3.alloc _) .i64 _ _ _ _ rfl (slc_one _ _ _ _) (by simp only [maxLen]; omega) (by omega) (by simp; omega) ?_
                       intro A2 c2 w4 hown4 hgrow4)
          have h4 : InAt B w4 g (.ok r2) := (h3'.below ((Below.refl _ _).alloc (Nat.le_refl _) _)).grown hgrow4 hnr (fun b e => .inl (by have := (hrow3.lt b e).1; omega))
          have hb4 : But g w w4 := by
            have hq := but_below (but_trans hB2 hb3) ((Below.refl _ w3).alloc (Nat.le_refl _) (.cells #[.int .i64 v] 3))
            exact ⟨hgrow4.os.trans hq.os, hgrow4.tape.trans hq.tape, hgrow4.output.trans hq.output, Nat.le_trans hq.size hgrow4.size, fun i hi hne => (hgrow4.block i (Nat.lt_of_lt_of_le hi hq.size) (fun e => by have := (hrow3.lt i e.symm).1; omega)).trans (hq.block i hi hne)⟩
          go_roundw
          case rel => exact ⟨A2, c2, k + 1, zs ++ [v], r2, by omega, rfl, by rw [List.length_append, HZ.out]; rfl, by rw [List.map_append]; exact hown4, by omega, h4, hb4, HR.out⟩
          case measure => simp only [lenOf]; omega
      · obtain rfl : k = N := by omega
        have hR' := hR.out
        rw [Nat.sub_self, rdN] at hR'
        have HR := Lib.hid hR'
        clear hR hR'
        go_wp2_with fail
        go_ret
        rw [← HR.out]
        exact ⟨⟨A1, k, c1, rfl, HZ.out, Lst.of_own hrow, hrow, hB2⟩, hI⟩

theorem rdList_bad (rd : St → Int × St) (most : Int) (s : St) (e : Int) (h : rdU s = (0, .bad e)) : rdList rd most s = ([], .bad e) := by
  unfold rdList
  rw [h]
  rfl
theorem rdList_lim (rd : St → Int × St) (most : Int) (s : St) (N : Int) (r : List Int) (h : rdU s = (N, .ok r)) (hl : most < 0 ∨ most < N) : rdList rd most s = ([], .bad 2) := by
  unfold rdList
  rw [h]
  simp only [lim, if_pos hl]
  rfl
theorem rdList_ok (rd : St → Int × St) (most : Int) (s : St) (N : Int) (r : List Int) (h : rdU s = (N, .ok r)) (hl : ¬ (most < 0 ∨ most < N)) : rdList rd most s = rdN rd N.toNat [] (.ok r) := by
  unfold rdList
  rw [h]
  simp only [lim, if_neg hl]
theorem rdU_cases {B g : Nat} {w : World} {s : St} (h : InAt B w g s) : (∃ e, rdU s = (0, .bad e)) ∨ (∃ N r, rdU s = (N, .ok r) ∧ 0 ≤ N) := by
  cases s with
  | bad e => exact .inl ⟨e, rfl⟩
  | ok bs =>
    rcases decF_cases bs h.b8 with ⟨v, r, e, hv, _⟩ | h2
    · exact .inr ⟨v, r, e, hv.1⟩
    · exact .inl h2

set_option maxHeartbeats 400000 in
theorem in_bytes {B : Nat} (g : Nat) (s : St) (most : Int) (w : World) (h : InAt B w g s) (hB : B ≤ w.heap.size) (hm : I64 most) :
    Calls Try.prog 34 #[.pointer (some ⟨g, 0, none⟩), .int .i64 most] w fun r w' => MkB 5 .u8 g w (rdB most s).1 r w' ∧ InAt B w' g (rdB most s).2 := by
  have hc : Calls Try.prog 46 #[.pointer (some ⟨g, 0, none⟩), .int .i64 most, .func (.func 43) #[.pointer (some ⟨g, 0, none⟩)] #[]] w fun r w' => MkB 5 .u8 g w (rdB most s).1 r w' ∧ InAt B w' g (rdB most s).2 := by
    unfold rdB
    rcases rdU_cases h with ⟨e, hU⟩ | ⟨N, r, hU, hN⟩
    · rw [rdList_bad _ _ _ e hU]
      exact rlb_bad g s most w h _ e hU hm
    · by_cases hl : most < 0 ∨ most < N
      · rw [rdList_lim _ _ _ N r hU hl]
        exact rlb_lim g s most w h _ N r hU hm hl
      · rw [rdList_ok _ _ _ N r hU hl]
        exact rlb_ok g s most w h hB N r hU hm (by omega) (by omega) hN
  have HC := Lib.hid hc
  clear hc
  go_enter Try.func34, Try.ntmps34
  go_wp2_with fail
  refine HC.out.mono ?_
  rintro r w1 ⟨⟨A, n, c, rfl, h1⟩, h2⟩
  go_wp2_with fail
  go_ret
  exact ⟨⟨A, n, c, rfl, h1⟩, h2⟩

set_option maxHeartbeats 400000 in
theorem in_ints {B : Nat} (g : Nat) (s : St) (most : Int) (w : World) (h : InAt B w g s) (hB : B ≤ w.heap.size) (hm : I64 most) :
    Calls Try.prog 36 #[.pointer (some ⟨g, 0, none⟩), .int .i64 most] w fun r w' => MkB 3 .i64 g w (rdL most s).1 r w' ∧ InAt B w' g (rdL most s).2 := by
  have hc : Calls Try.prog 47 #[.pointer (some ⟨g, 0, none⟩), .int .i64 most, .func (.func 33) #[.pointer (some ⟨g, 0, none⟩)] #[]] w fun r w' => MkB 3 .i64 g w (rdL most s).1 r w' ∧ InAt B w' g (rdL most s).2 := by
    unfold rdL
    rcases rdU_cases h with ⟨e, hU⟩ | ⟨N, r, hU, hN⟩
    · rw [rdList_bad _ _ _ e hU]
      exact rli_bad g s most w h _ e hU hm
    · by_cases hl : most < 0 ∨ most < N
      · rw [rdList_lim _ _ _ N r hU hl]
        exact rli_lim g s most w h _ N r hU hm hl
      · rw [rdList_ok _ _ _ N r hU hl]
        exact rli_ok g s most w h hB N r hU hm (by omega) (by omega) hN
  have HC := Lib.hid hc
  clear hc
  go_enter Try.func36, Try.ntmps36
  go_wp2_with fail
  refine HC.out.mono ?_
  rintro r w1 ⟨⟨A, n, c, rfl, h1⟩, h2⟩
  go_wp2_with fail
  go_ret
  exact ⟨⟨A, n, c, rfl, h1⟩, h2⟩
end Go.Proofs.Ytcojbloflaeefaa
