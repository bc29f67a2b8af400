/-
  The walk of the law WireSticky: behind an error all reads return zero values and the first error stays. No condition beyond the arguments' readings.
-/
import Derived.Test.YtpnahndgfnkinaaWLives
import Derived.Test.YtpnahndgfnkinaaWSame
import Derived.Test.YtpnahndgfnkinaaAround
namespace Go.Proofs.Ytpnahndgfnkinaa.LawWireSticky
open Go Go.RowKit

def zV (k : Int) : V := { kind := k, u := 0, n := 0, b := [], l := [] }
theorem rdV_bad (k most e : Int) : rdV k most (.bad e) = (zV k, .bad e) := by
  unfold rdV
  have e1 : rdU (.bad e) = (0, .bad e) := rfl
  have e2 : rdI (.bad e) = (0, .bad e) := rfl
  have e3 : rdB most (.bad e) = ([], .bad e) := rdList_bad _ _ _ _ e1
  have e4 : rdL most (.bad e) = ([], .bad e) := rdList_bad _ _ _ _ e1
  rw [e1, e2, e3, e4]
  split
  · rfl
  · split
    · rfl
    · split <;> rfl
theorem zV_at (B : Nat) (w : World) (k : Int) : VAt B w (zV k) (.agg #[.int .i64 k, .int .u64 0, .int .i64 0, .slice none 0 0, .slice none 0 0]) :=
  ⟨none, 0, 0, none, 0, 0, rfl, Lst.none_ _ _ _ _, Lst.none_ _ _ _ _⟩
theorem four {n : Int} (h0 : 0 ≤ n) (h1 : n < 4) : n = 0 ∨ n = 1 ∨ n = 2 ∨ n = 3 := by omega

set_option maxHeartbeats 4000000 in
theorem walk (a0 : Option Addr) (len0 cap0 : Nat) (z0 : List Int) (a1 : Int) (a2 : Int) (a3 : Option Addr) (len3 cap3 : Nat) (z3 : List Int) (w : World) (w0 : Row .u8 w a0 len0 cap0 z0) (w1 : (Lit.int .i64 a1).wf = true) (w2 : (Lit.int .i64 a2).wf = true) (w3 : Row .i64 w a3 len3 cap3 z3) :
    Calls Try.prog 8 #[.slice a0 len0 cap0, .int .i64 a1, .int .i64 a2, .slice a3 len3 cap3] w fun e w' => e = .returned (.bool true) ∧ Below w.heap.size w w' := by
  have hb1 := bounds_i64 w1
  have hb2 := bounds_i64 w2
  obtain ⟨hI3, hlc3, hcm3, hwf3⟩ := w3.ints
  have hi3 := i64_of hwf3
  have HF := Lib.hid (few_any a0 len0 cap0 _ 60 (by decide) (by decide) w w0.slc)
  have h8 : ∀ x ∈ (z0.take len0).take 60, B8 x := fun x hx => b8_of w0.ints.2.2.2 x (List.mem_of_mem_take hx)
  have H8 := Lib.hid h8
  have HI3 := Lib.hid hi3
  obtain ⟨e1, he1⟩ : ∃ e, around a1 42 = e := ⟨_, rfl⟩
  obtain ⟨e2, he2⟩ : ∃ e, around a2 42 = e := ⟨_, rfl⟩
  obtain ⟨q0, q1⟩ := around_in a1 42 (by decide)
  obtain ⟨q2, q3⟩ := around_in a2 42 (by decide)
  have HA1 := Lib.hid (fun W => around_any a1 42 ⟨by omega, by omega⟩ (by decide) (by decide) W)
  have HA2 := Lib.hid (fun W => around_any a2 42 ⟨by omega, by omega⟩ (by decide) (by decide) W)
  rw [he1] at HA1 q0 q1
  rw [he2] at HA2 q2 q3
  unfold maxLen at hcm3
  have hcm4 : len3 ≤ 9223372036854775807 := by omega
  clear he1 he2 w0 w1 w2 w3 hwf3 hi3 h8 hcm3 hlc3
  go_enter Try.func8, Try.ntmps8
  go_wp2_with fail
  refine HF.out.mono ?_
  rintro e u1 ⟨A, n, c, rfl, hn, hL, -, hbw1⟩
  have hn60 : n ≤ 60 := by rw [← hn, List.length_take]; omega
  clear hn
  go_wp2_with fail
  refine (newin_any A n c _ u1 _ hL (by omega) H8.out).mono ?_
  rintro e u2 ⟨g, rfl, hg, hin, hbw2⟩
  have B2 := hbw1.trans (hbw2.mono hbw1.size)
  have hgw : w.heap.size ≤ g := Nat.le_trans hbw1.size hg
  clear hL
  go_wp2_with fail
  refine (in_fail0 g _ u2 hin).mono ?_
  rintro e u3 ⟨rfl, hin3, hb3⟩
  have B3 := below_but B2 hb3 hgw B2.size
  go_wp2_with fail
  refine (in_err g _ u3 hin3).mono ?_
  rintro e u3' ⟨rfl, rfl⟩
  simp only [St.err]
  go_wp2_with fail
  refine (HA1.out _).mono ?_
  rintro e u3' ⟨rfl, rfl⟩
  have hz : (1 + e1 == 0) = false := by simp; omega
  go_wp2_with fail
  refine (in_fail g _ (1 + e1) u3 hin3 hz ⟨by omega, by omega⟩).mono ?_
  rintro e u4 ⟨rfl, hin4, hb4⟩
  have B4 := below_but B3 hb4 hgw B3.size
  have hin4' : InAt u2.heap.size u4 g (.bad (1 + e1)) := hin4
  clear hin hin3 hin4
  go_wp2_with fail
  refine (HA2.out _).mono ?_
  rintro e u4' ⟨rfl, rfl⟩
  have hz2 : (1 + e2 == 0) = false := by simp; omega
  go_wp2_with fail
  refine (in_fail g _ (1 + e2) u4 hin4' hz2 ⟨by omega, by omega⟩).mono ?_
  rintro e u5 ⟨rfl, hin5, hb5⟩
  have B5 := below_but B4 hb5 hgw B4.size
  have hin5' : InAt u2.heap.size u5 g (.bad (1 + e1)) := hin5
  have hs25 : u2.heap.size ≤ u5.heap.size := Nat.le_trans hb3.size (Nat.le_trans hb4.size hb5.size)
  obtain ⟨E, hE⟩ : ∃ E, 1 + e1 = E := ⟨_, rfl⟩
  rw [hE] at hin5' hz ⊢
  clear hin5 hin4' hz2 hb3 hb4 hb5 B2 B3 B4 hE
  go_wp2_with fail
  go_loopw [11] (fun i wr => ∃ k : Nat, k ≤ 10 ∧ i = .int .i64 k ∧ InAt u2.heap.size wr g (.bad E) ∧ Below w.heap.size w wr ∧ u2.heap.size ≤ wr.heap.size) (fun i _ => 10 - (intOf i).toNat)
  case atStart => exact ⟨0, by omega, rfl, hin5', B5, hs25⟩
  case round =>
    obtain ⟨k, hk, rfl, hin6, hB, hs6⟩ := hrel
    clear hin5' B5 hs25
    by_cases hlt : k < len3 ∧ k < 10
    · obtain ⟨hlt1, hlt2⟩ := hlt
      obtain ⟨b, off, rfl, hbl, hcs⟩ := hI3.at_ (by omega)
      have hck := (hB.cell (p := ⟨b, off + k, none⟩) hbl).trans (hcs k hlt1)
      obtain ⟨x0, x1⟩ := HI3.out _ (getD_mem (l := z3.take len3) (j := k) (by rw [hI3.len]; exact hlt1))
      obtain ⟨x, ex⟩ : ∃ x, (z3.take len3)[k]?.getD 0 = x := ⟨_, rfl⟩
      rw [ex] at hck x0 x1
      clear ex hI3 hcs
      obtain ⟨r0, r1⟩ := around_in x 4 (by decide)
      have HA := Lib.hid (around_any x 4 ⟨x0, x1⟩ (by decide) (by decide) wr)
      obtain ⟨kd, hkd⟩ : ∃ kd, around x 4 = kd := ⟨_, rfl⟩
      rw [hkd] at HA r0 r1
      clear hkd
      have HR := Lib.hid (read_any g (.bad E) kd 50 wr hin6 hs6 ⟨by decide, by decide⟩ (four r0 r1))
      rw [rdV_bad] at HR
      go_wp2_with fail
      refine HA.out.mono ?_
      rintro e v1 ⟨rfl, rfl⟩
      go_wp2_with fail
      refine HR.out.mono ?_
      rintro e v2 ⟨va, rfl, hva, hin7, hbv⟩
      have hS := Lib.hid (same_any (zV kd) va _ v2 hva (zV_at _ _ kd) (by simp [zV]) (by simp [zV]))
      have B7 := below_but hB hbv hgw hB.size
      have hs7 := hbv.size
      clear hva hin6
      go_wp2_with fail
      refine hS.out.mono ?_
      rintro e v3 ⟨rfl, hb8⟩
      have hin8 := hin7.below hb8
      have B8' := B7.trans (hb8.mono B7.size)
      have hs8 := hb8.size
      clear hin7
      go_wp2_with fail
      refine (in_err g _ v3 hin8).mono ?_
      rintro e v4 ⟨rfl, rfl⟩
      simp only [St.err]
      go_wp2_with fail
      refine (in_end g _ v3 hin8).mono ?_
      rintro e v4 ⟨rfl, rfl⟩
      simp only [St.endE]
      go_wp2_with fail
      go_roundw
      case rel => exact ⟨k + 1, by omega, by go_num, hin8, B8', by omega⟩
      case measure => simp [intOf]; omega
    · have hS := Lib.hid (lives_any wr)
      have hno : ¬ (k < len3 ∧ k < 10) := hlt
      clear hI3 hlt
      by_cases hl3 : k < len3
      · have h10 : ¬ k < 10 := by omega
        clear hno
        go_wp2_with fail
        refine (in_err g _ wr hin6).mono ?_
        rintro e v4 ⟨rfl, rfl⟩
        simp only [St.err]
        go_wp2_with fail
        refine (in_end g _ wr hin6).mono ?_
        rintro e v4 ⟨rfl, rfl⟩
        simp only [St.endE]
        go_wp2_with fail
        refine hS.out.mono ?_
        rintro e v5 ⟨rfl, hb9⟩
        go_wp2_with fail
        go_ret
        exact ⟨rfl, hB.trans (hb9.mono hB.size)⟩
      · clear hno
        go_wp2_with fail
        refine (in_err g _ wr hin6).mono ?_
        rintro e v4 ⟨rfl, rfl⟩
        simp only [St.err]
        go_wp2_with fail
        refine (in_end g _ wr hin6).mono ?_
        rintro e v4 ⟨rfl, rfl⟩
        simp only [St.endE]
        go_wp2_with fail
        refine hS.out.mono ?_
        rintro e v5 ⟨rfl, hb9⟩
        go_wp2_with fail
        go_ret
        exact ⟨rfl, hB.trans (hb9.mono hB.size)⟩
end Go.Proofs.Ytpnahndgfnkinaa.LawWireSticky
