/-
  The walk of PosetExtensions: Extensions counts the linear orders up to a bound; each is accepted, the first is Linear's.
  The tied card of the statement PosetExtensions: for every input the law answers true and leaves its arguments as they were; the condition is the listed table of math/bits, which the card ties to the program's text. The frame of this proof was written by the guide's program, the walk is the text LawPosetExtensions's.
-/
import Derived.Test.YtlgdcbhdmffnoaaDoorK22
import Derived.Test.YtlgdcbhdmffnoaaDoorK12
import Derived.Test.YtlgdcbhdmffnoaaDoorK19
import Derived.Test.YtlgdcbhdmffnoaaDoorK2
import Derived.BigQuiet
import Derived.Deep.QuietTactic
import Derived.Deep.RegionHeld3
import Derived.Deep.DrawnRows
import Derived.Test.YtlgdcbhdmffnoaaDoorRows
import Derived.Test.YtlgdcbhdmffnoaaDoorCards
import Derived.Test.YtlgdcbhdmffnoaaDoorTie
import Derived.Test.YtlgdcbhdmffnoaaDoorK3
import Derived.SevenTiedPlain
import Derived.SevenTiedAt
import Derived.WalkKit
import Derived.ProofKit
import Derived.OpenShut
import Derived.ShutString
import Derived.ChangeOld
import Derived.Below

namespace Go.Proofs.YtlgdcbhdmffnoaaDoor.LawPosetExtensions
open Go Go.RowKit Go.Proofs Go.Proofs.YtlgdcbhdmffnoaaDoor
attribute [local go_sem ↓] Go.wp_at_zero Go.wp_at_succ

def fac : Nat → Nat | 0 => 1 | n + 1 => (n + 1) * fac n
theorem sum_le (n : Nat) : ∀ l : List Nat, (∀ x ∈ l, x ≤ n) → l.sum ≤ l.length * n
  | [], _ => by simp
  | x :: t, h => by
    rw [List.sum_cons, List.length_cons, Nat.succ_mul]
    have h1 := h x (by simp)
    have h2 := sum_le n t (fun y hy => h y (List.mem_cons_of_mem _ hy))
    omega
theorem cnt_fac {R : List Nat} (hc : PO.Cl R) : ∀ f d, PO.Dn R d → d.length + f = R.length → PO.cnt R f d ≤ fac f
  | 0, d, _, _ => Nat.le_refl _
  | f + 1, d, hd, hl => by
    have hnd : (PO.nexts R d ++ d).Nodup := by
      rw [List.nodup_append]
      refine ⟨List.Pairwise.filter _ List.nodup_range, hd.nodup, fun x hx y hy e => ?_⟩
      subst e
      exact ((PO.go_iff hc.small d x).1 (List.mem_filter.1 hx).2).1 hy
    have hlt : ∀ x ∈ PO.nexts R d ++ d, x < R.length := fun x hx => by
      rcases List.mem_append.1 hx with h | h
      · exact List.mem_range.1 (List.mem_filter.1 h).1
      · exact hd.lt x h
    have h1 := nodup_len _ _ hnd hlt
    rw [List.length_append] at h1
    have h2 := sum_le (fac f) ((PO.nexts R d).map fun a => PO.cnt R f (d ++ [a])) (fun x hx => by
      obtain ⟨a, ha, rfl⟩ := List.mem_map.1 hx
      have hm := List.mem_filter.1 ha
      exact cnt_fac hc f (d ++ [a]) (hd.snoc hc.small (List.mem_range.1 hm.1) hm.2) (by rw [List.length_append, List.length_singleton]; omega))
    rw [List.length_map] at h2
    have h3 : (PO.nexts R d).length * fac f ≤ (f + 1) * fac f := Nat.mul_le_mul_right _ (by omega)
    exact Nat.le_trans h2 h3
theorem cnt_720 {R : List Nat} (hc : PO.Cl R) (h : R.length ≤ 6) : PO.cnt R R.length [] ≤ 720 := by
  have h1 := cnt_fac hc R.length [] (PO.Dn.nil R) (by simp)
  have h2 : ∀ n, n ≤ 6 → fac n ≤ 720 := by decide
  exact Nat.le_trans h1 (h2 _ h)
/-- What Extensions answers for any bound. -/
def exN (b : Int) (N : Nat) : Int := max 0 (min b (N : Int))
theorem ext_all {w : World} {p n : Nat} {R : List Nat} (h : Od w w.heap.size p R) (hRn : R.length = n) (hn : n ≤ 8) (hc : PO.Cl R) (hT : Tab w) (b : Int) (hb : b ≤ 1000000) :
    Calls Tryd.prog 35 #[.pointer (some ⟨p, 0, none⟩), .int .i64 b] w fun e w' => e = .returned (.int .i64 (exN b (PO.cnt R n []))) ∧ Below w.heap.size w w' := by
  by_cases h0 : b ≤ 0
  · have e : exN b (PO.cnt R n []) = 0 := by unfold exN; omega
    rw [e]
    exact ext_none p b w h0
  · obtain ⟨m, rfl⟩ := Int.eq_ofNat_of_zero_le (show 0 ≤ b by omega)
    have e : exN (m : Int) (PO.cnt R n []) = ((min m (PO.cnt R n []) : Nat) : Int) := by unfold exN; omega
    rw [e]
    exact ext_any h hRn hn hc hT (Nat.le_refl _) (by omega) (by omega)
theorem ex_cases (q N : Nat) (h : 1 ≤ N) : ((q : Int) - 5 ≤ 0 ∧ exN ((q : Int) - 5) N = 0) ∨ (0 < (q : Int) - 5 ∧ (q : Int) - 5 ≤ (N : Int) ∧ exN ((q : Int) - 5) N = (q : Int) - 5) ∨ ((N : Int) < (q : Int) - 5 ∧ exN ((q : Int) - 5) N = (N : Int)) := by
  unfold exN
  omega
theorem ex_big (N : Nat) (h : N ≤ 720) : exN 1000 N = (N : Int) := by unfold exN; omega
theorem all_lin {R : List Nat} (hc : PO.Cl R) {L : List Nat} (hL : L ∈ PO.allE R R.length []) : PO.isLin R L = true :=
  PO.allE_lin hc R.length [] (PO.Dn.nil R) (by simp) (fun i x h => by simp at h) L hL
theorem all_first {R : List Nat} (hc : PO.Cl R) : (PO.allE R R.length [])[0]? = some (topoL (PO.rows R)) := by
  rw [PO.allE_first hc R.length [] (PO.Dn.nil R) (by simp)]
  unfold topoL
  rw [PO.rows_len]
set_option maxRecDepth 100000 in
set_option maxHeartbeats 4000000 in
theorem walk (a0 : Int) (a1 : Option Addr) (len1 cap1 : Nat) (z1 : List Int) (a2 : Int) (w : World) (w0 : (Lit.int .i64 a0).wf = true) (w1 : Row .i64 w a1 len1 cap1 z1) (w2 : (Lit.int .i64 a2).wf = true) (hT : Tab w) :
    Calls Tryd.prog 8 #[.int .i64 a0, .slice a1 len1 cap1, .int .i64 a2] w fun e w' => e = .returned (.bool true) ∧ Below w.heap.size w w' := by
  have hn : I64 a0 := by have := bounds_i64 w0; unfold I64; omega
  have hn2 : I64 a2 := by have := bounds_i64 w2; unfold I64; omega
  obtain ⟨hx, _, _, hz⟩ := w1.ints
  obtain ⟨zs, hzs⟩ : ∃ zs, z1.take len1 = zs := ⟨_, rfl⟩
  rw [hzs] at hx hz
  have hz64 := i64_of hz
  have HLV := Lib.hid (fun V hb => lives_a w V hT hb)
  have HT := Lib.hid hT
  have HAR := Lib.hid (fun V => around_any a0 7 hn (by omega) (by omega) V)
  simp only [gN_eq a0 (show (0 : Int) < 7 by omega)] at HAR
  have hk7 := gN_lt a0 (m := 7) (by omega)
  have HA2 := Lib.hid (fun V => around_any a2 800 hn2 (by omega) (by omega) V)
  simp only [gN_eq a2 (show (0 : Int) < 800 by omega)] at HA2
  have hq800 := gN_lt a2 (m := 800) (by omega)
  obtain ⟨q, hq⟩ : ∃ q, gN a2 800 = q := ⟨_, rfl⟩
  simp only [hq] at HA2 hq800
  have HPA := Lib.hid (pairs_e (gN a0 7) (by omega) a1 len1 cap1 zs w hx hz64)
  have hprl := prE_lt (k := gN a0 7) (zs := zs)
  have hpln := prE_len (gN a0 7) zs
  obtain ⟨k, hkk⟩ : ∃ k, gN a0 7 = k := ⟨_, rfl⟩
  simp only [hkk] at HAR HPA hprl hpln hk7
  obtain ⟨E, hE⟩ : ∃ E, prE k zs = E := ⟨_, rfl⟩
  rw [hE] at HPA hprl hpln
  have HPRL := Lib.hid hprl
  have hk6 : k ≤ 6 := by omega
  clear hx hz hz64 hzs w1 w0 w2 hT hn hn2 hkk hE hprl hq hk7
  go_enter Tryd.func8, Tryd.ntmps8
  go_wp2_with (first
    | (go_at_call 13; refine (HAR.out _).mono ?_; clear HAR; rintro e w' ⟨rfl, rfl⟩)
    | (go_at_call 14; refine HPA.out.mono ?_; clear HPA; rintro e w3 ⟨A6, c6, rfl, ho3, hb3⟩; have HB3 := Lib.hid hb3; have HED3 := Lib.hid (ownP_edg ho3).2; clear ho3 hb3))
  refine (refNew_any k E.length c6 A6 E w3 (by omega) (by omega) HED3.out HPRL.out).mono ?_
  have hsz3 := HB3.out.size
  rintro e w5 ⟨hb5, ⟨rfl, a, ha, hcy⟩ | ⟨hno, v, gs, rfl, hmx⟩⟩
  · have HB5 := Lib.hid (show Below w.heap.size w (w5.alloc (.cells #[.int .i64 0, .slice none 0 0] 33)) from (HB3.out.trans (hb5.mono hsz3)).alloc (by have := hb5.size; omega) _)
    clear hb5 HA2 hcy HPRL HED3
    go_wp2_with (go_at_call 17; refine (HLV.out _ HB5.out).mono ?_; rintro e w6 ⟨rfl, hb6⟩)
    go_ret
    exact ⟨rfl, hb6⟩
  · have hok : okE k E = true := (ok_iff (by omega) HPRL.out).2 hno
    obtain ⟨vA, vc, rfl, _, _⟩ := own_slice hmx.own
    obtain ⟨hcl, hRl, hlt⟩ := ordE_cl (show k ≤ 8 by omega) HPRL.out hok
    obtain ⟨w6, hw6⟩ : ∃ W, w5.alloc (.cells #[.int .i64 (k : Int), .slice vA k vc] 33) = W := ⟨_, rfl⟩
    obtain ⟨b, hb⟩ : ∃ b, w5.heap.size = b := ⟨_, rfl⟩
    have hb6 : Below w5.heap.size w5 w6 := by rw [← hw6]; exact (Below.refl _ _).alloc (Nat.le_refl _) _
    have HOB := Lib.hid (show OB w6 b k (.slice vA k vc) by rw [← hw6, ← hb]; exact World.alloc_heap_new w5 _)
    have HMX := Lib.hid ((hmx.lower (lo' := w.heap.size) hsz3).below hb6)
    have HB6 := Lib.hid (show Below w.heap.size w w6 from HB3.out.trans ((hb5.mono hsz3).trans (hb6.mono (by have := hb5.size; omega))))
    have HED6 := Lib.hid (edg_mono ((edg_mono (HED3.out.below hb5) hb5.size).below hb6) hb6.size)
    have HOK := Lib.hid hok
    have hne := new_e k E.length c6 A6 E w6 (HT.out.below HT.out.lt HB6.out) (by omega) (by omega) HED6.out HPRL.out
    have HNW := Lib.hid (hne.mono fun e w' r => (show Below w6.heap.size w6 w' ∧ ∃ p, e = .returned (.tuple #[.pointer (some ⟨p, 0, none⟩), .int .i64 0]) ∧ Od w' w'.heap.size p (ordE k E) from by
      rcases r.2 with ⟨h, _⟩ | ⟨_, h⟩
      · rw [HOK.out] at h; cases h
      · exact ⟨r.1, h⟩))
    obtain ⟨R, hR⟩ : ∃ R, ordE k E = R := ⟨_, rfl⟩
    obtain ⟨M, hM⟩ : ∃ M, PO.wAll (m0 E) k = M := ⟨_, rfl⟩
    rw [hM] at HMX
    simp only [hM, hR] at hlt
    rw [hR] at hcl hRl
    simp only [hR] at HNW
    have HCL := Lib.hid hcl
    have HRL := Lib.hid hRl
    have HLT := Lib.hid hlt
    have HW6 := Lib.hid hw6
    have HBB := Lib.hid hb
    have hbl : b < w6.heap.size := heap_lt HOB.out
    have hlow : w.heap.size ≤ b := by have := hb5.size; omega
    clear hb5 hmx hok hcl hlt hw6 hb hno hne hR hM HB3 HED3 HED6 hb6
    go_wp2_with fail
    rw [HW6.out, HBB.out]
    refine HNW.out.mono ?_
    rintro e w7 ⟨hb7, p, rfl, hod⟩
    have HG7 := Lib.hid (show Gd w w7 p b k (.slice vA k vc) R gs M from ⟨hod, (hb7.block _ hbl).trans HOB.out, HMX.out.below hb7, HB6.out.trans (hb7.mono HB6.out.size), hlow⟩)
    obtain ⟨e0, e1, _, _⟩ := HG7.out.ob.facts
    have hal := refAll_any (lo := w.heap.size) (show k ≤ 8 by omega) HRL.out HLT.out HCL.out k [] w7 none 0 0 (by simp) (PO.Dn.nil R) HG7.out.mx (own_nil0 _ _)
    have hln := PO.allE_len R k []
    have h720 := cnt_720 HCL.out (by rw [HRL.out]; exact hk6)
    have hN1 := PO.cnt_pos HCL.out k [] (PO.Dn.nil R) (by rw [HRL.out]; simp)
    rw [← hln] at hN1
    have hLin := fun L => all_lin HCL.out (L := L)
    have hFst := all_first HCL.out
    have hExt := fun V (h : Below w7.heap.size w7 V) (x : Int) (hx : x ≤ 1000000) => ext_all (HG7.out.next h).od HRL.out (by omega) HCL.out ((HG7.out.next h).tab HT.out) x hx
    simp only [HRL.out] at h720 hLin hFst
    rw [← hln] at h720
    simp only [← hln] at hExt
    obtain ⟨Ls, hLs⟩ : ∃ Ls, PO.allE R k [] = Ls := ⟨_, rfl⟩
    simp only [hLs] at hal h720 hLin hFst hExt hN1
    obtain ⟨N, hN⟩ : ∃ N, Ls.length = N := ⟨_, rfl⟩
    simp only [hN] at hal h720 hExt hN1
    have HAL := Lib.hid hal
    have HLIN := Lib.hid hLin
    have HFST := Lib.hid hFst
    have HEXT := Lib.hid hExt
    have HNL := Lib.hid hN
    clear hal hLin hFst hExt hN hLs hln hod hb7 HNW HMX HOB hbl HB6 HPRL HOK HW6 HBB
    go_wp2_with (first
      | (go_at_call 34; ((with_reducible refine HAL.out.mono ?_)); clear HAL; rintro e w8 ⟨A8, c8, rfl, hll, hb8⟩; have HLL8 := Lib.hid hll; have HB8 := Lib.hid hb8; clear hll hb8)
      | (go_at_call 13; refine (HA2.out _).mono ?_; clear HA2; rintro e w' ⟨rfl, rfl⟩))
    refine (HEXT.out _ HB8.out _ (by omega)).mono ?_
    rintro e w9 ⟨rfl, hb9⟩
    have HB9 := Lib.hid (HB8.out.trans (hb9.mono HB8.out.size))
    have hx2 := HEXT.out _ HB9.out 1000 (by omega)
    rw [ex_big N h720] at hx2
    have HX2 := Lib.hid hx2
    have HLL9 := Lib.hid (HLL8.out.below hb9)
    have hc5 := ex_cases q N hN1
    have hNN : ((N : Int) != (N : Int)) = false := by simp
    have hqq : (((q : Int) - 5) != ((q : Int) - 5)) = false := by simp
    obtain ⟨x, hx⟩ : ∃ x, exN ((q : Int) - 5) N = x := ⟨_, rfl⟩
    rw [hx] at hc5 ⊢
    clear hx hb9 HEXT hx2 HLL8 e0 e1
    rcases hc5 with ⟨h1, rfl⟩ | ⟨h1, h2, rfl⟩ | ⟨h1, rfl⟩
    all_goals
      have h3 : 0 < N := hN1
      have h4 : (0 : Int) < (N : Int) := by omega
      first
        | (have h5 : ¬ (N : Int) < (q : Int) - 5 := by omega
           have h6 : ¬ (0 : Int) < (q : Int) - 5 := by omega
           have h7 : True := trivial)
        | (have h5 : ¬ (N : Int) < (q : Int) - 5 := by omega
           have h7 : True := trivial)
        | (have h7 : True := trivial)
      go_wp2_with (go_at_call 35; refine HX2.out.mono ?_; clear HX2; rintro e w10 ⟨rfl, hb10⟩)
      have HLL10 := Lib.hid (HLL9.out.below hb10)
      have HB10 := Lib.hid (HB9.out.trans (hb10.mono HB9.out.size))
      have HG10 := Lib.hid (HG7.out.next HB10.out)
      clear hb10 HLL9 HB9 HG7 h7 hqq
      go_loopw [15] (fun i V => ∃ j : Nat, j ≤ N ∧ i = .int .i64 (j : Int) ∧ Hid (Below w10.heap.size w10 V)) (fun i _ => N - (intOf i).toNat)
      case atStart => exact ⟨0, by omega, rfl, Below.refl _ _⟩
      case round =>
        obtain ⟨j, hj, rfl, hB⟩ := hrel
        obtain ⟨vs, g1, g2⟩ := HLL10.out.below hB.out
        rw [HNL.out] at g1
        obtain ⟨g8, cap8, hA8, _, hg8⟩ := g1.form h3
        injection hA8 with hA8 hn8 hc8
        clear hn8 hc8
        subst hA8
        have hvl : vs.length = N := by have := g1.1; simpa using this
        by_cases hjN : j < N
        · obtain ⟨L, hL⟩ : ∃ L, Ls[j]? = some L := ⟨Ls[j]'(by rw [HNL.out]; exact hjN), List.getElem?_eq_getElem (by rw [HNL.out]; exact hjN)⟩
          obtain ⟨V', hV'⟩ : ∃ V', vs[j]? = some V' := ⟨vs[j]'(by omega), List.getElem?_eq_getElem (by omega)⟩
          have hO := g2 j V' L hV' hL
          have hcl := World.ownsRow.cells g1 rfl j V' hV'
          obtain ⟨Aj, cj, rfl, _, _⟩ := hO.slice
          rw [Addr.add_lit, Nat.zero_add] at hcl
          have hil := isLinear_any (HG10.out.next hB.out).od (by have := HRL.out; omega) HCL.out.small (Nat.le_refl _) Aj _ cj _ (own_ints hO).2
          rw [PO.isLinI_nat, HLIN.out L (List.mem_of_getElem? hL)] at hil
          have HIL := Lib.hid hil
          clear hO hL hV' hil g1 g2 hvl
          go_wp2_with (go_at_call 31; refine HIL.out.mono ?_; clear HIL; rintro e w11 ⟨rfl, hb11⟩; have HB11 := Lib.hid (hB.out.trans (hb11.mono hB.out.size)); clear hb11)
          go_roundw
          case rel => exact ⟨j + 1, by omega, by go_num, HB11.out⟩
          case measure => simp [intOf]; omega
        · obtain ⟨V', hV'⟩ : ∃ V', vs[0]? = some V' := ⟨vs[0]'(by omega), List.getElem?_eq_getElem (by omega)⟩
          have hO := g2 0 V' _ hV' HFST.out
          have hcl := World.ownsRow.cells g1 rfl 0 V' hV'
          obtain ⟨Aj, cj, rfl, _, _⟩ := hO.slice
          rw [Addr.add_lit] at hcl
          have HG11 := Lib.hid (HG10.out.next hB.out)
          have HO := Lib.hid hO
          obtain ⟨w11, hw11⟩ : ∃ W, W = wr := ⟨_, rfl⟩
          subst hw11
          have htl := HCL.out.topo.trans HRL.out
          have L1 := Lib.hid (fun V (h : Below w11.heap.size w11 V) => linear_any (HG11.out.next h).od (by have := HRL.out; omega) HCL.out.small ((HG11.out.next h).tab HT.out) (Nat.le_refl _))
          have HLV2 := Lib.hid (fun V (h : Below w11.heap.size w11 V) => (lives_any V ((HG11.out.next h).tab HT.out)).mono fun e w' r => (show e = .returned (.bool true) ∧ Below w11.heap.size w11 w' from ⟨r.1, h.trans (r.2.mono h.size)⟩))
          have B11 : Below w11.heap.size w11 w11 := Below.refl _ _
          obtain ⟨L, hL⟩ : ∃ L, topoL (PO.rows R) = L := ⟨_, rfl⟩
          rw [hL] at htl HO hcl
          simp only [hL] at L1
          have HOI := Lib.hid (fun V (h : Below w11.heap.size w11 V) => (OI.of (HO.out.keep fun b hb => h.block b (HO.out.lt b hb).2)).2)
          have hLl : L.length ≤ 8 := by omega
          clear hO hV' g1 g2 hvl hL hB htl HLV
          go_wp2_with fail
          go_region_held3 (fun W => W.cell? ⟨g8, 0, none⟩ = some (.slice Aj L.length cj))
            (first | exact hcl | exact (B14.cell (p := ⟨g8, 0, none⟩) hg8).trans hcl | exact (B13.cell (p := ⟨g8, 0, none⟩) hg8).trans hcl | exact (B12.cell (p := ⟨g8, 0, none⟩) hg8).trans hcl)
            (first
              | (go_at_call 28; ((with_reducible refine (L1.out _ ?_).mono ?_); focus (first | exact B11.drew | exact B11)); rintro e w12 ⟨x12, rfl, o12, b12⟩; obtain ⟨A12, c12, rfl, _, _⟩ := o12.slice; have B12 := B11.drew.trans (b12.mono B11.size); have O12 := Lib.hid (OI.of o12).2; have P12 := Lib.hid (HOI.out _ B12); clear L1 b12 o12)
              | (go_at_call 29; refine (sameInts_any Aj A12 _ _ cj c12 _ _ _ P12.out.ints O12.out.ints (by omega)).mono ?_; rintro e w13 ⟨rfl, b13⟩; rw [decide_eq_true rfl]; have B13 := B12.trans (b13.mono B12.size); clear b13 P12 O12)
              | (go_at_call 17; ((with_reducible refine (HLV2.out _ ?_).mono ?_); focus (exact B13)); rintro e w14 ⟨rfl, B14⟩; clear HLV2))
          all_goals
            go_wp2_with fail
            go_ret
            exact ⟨rfl, HG11.out.bel.trans (B14.mono HG11.out.bel.size)⟩
end Go.Proofs.YtlgdcbhdmffnoaaDoor.LawPosetExtensions

namespace Go.Proofs.YtlgdcbhdmffnoaaDoor.posetExtensions
open Go.ChangeShapes Go.WideShapes Go.ChangeAt Go.RowKit
open Go.ChangeMaps (open_string shut_string)
set_option linter.unusedVariables false

theorem own : ownKnob Tryd.prog.godebug = none := by kernel_rfl
theorem laidOut : laidOutB Tryd.prog = true := by kernel_rfl

/-- WHAT THE WALK IS TOLD OF A SLICE OF INTEGERS THAT CAME IN: it is nil; or it leads to a row of 'cap' cells, the numbers 'zs' (the first 'len' are its elements, the rest its spare room), each fitting its kind. -/
def IsRow (k : IntKind) (w : World) (a : Option Addr) (len cap : Nat) (zs : List Int) : Prop :=
  (a = none ∧ len = 0 ∧ cap = 0 ∧ zs = []) ∨
  ∃ x, a = some x ∧ len ≤ cap ∧ cap ≤ maxLen ∧ zs.length = cap ∧ (∀ i, i < zs.length → w.cell? (x.add i) = some (.int k (zs.getD i 0))) ∧ ∀ n ∈ zs, (Lit.int k n).wf = true

/-! ### STEP 1: THE WALK: the Go text returns true, AND WRITES NOTHING THAT WAS THERE: 'Below w.heap.size w w'' (Derived/Below.lean: '.refl', '.alloc', '.drew', '.setCell' at a new block, '.trans'). Open each 'IsRow' by 'rcases' AHEAD of 'go_enter'; part every test ahead of the walk. -/
theorem walk (a0 : Int) (a1 : Option Addr) (len1 cap1 : Nat) (z1 : List Int) (a2 : Int) (w : World) (w0 : (Lit.int .i64 a0).wf = true) (w1 : IsRow .i64 w a1 len1 cap1 z1) (w2 : (Lit.int .i64 a2).wf = true) (hT : Tab w) :
    Calls Tryd.prog 8 #[.int .i64 a0, .slice a1 len1 cap1, .int .i64 a2] w fun e w' => e = .returned (.bool true) ∧ Below w.heap.size w w' := by
  exact LawPosetExtensions.walk a0 a1 len1 cap1 z1 a2 w w0 w1 w2 hT

/-! ### THE ROW's STEP: WRITTEN OUT: LEAVE IT -/
set_option maxRecDepth 100000 in
theorem lifted (os : Os) (started : os.Started) (H : Type) (enc : TypeId × Value → H) :
    ReturnsInHanded {} Tryd.checked os 8 .any (fun w args => (Rows.posetExtensionsSpec.pre enc Tryd.prog Tryd.f8 [] false w args ∧ laidMetH Tryd.prog laidT w) ∧ sizedMet enc Tryd.prog Tryd.f8 (OpenSpec.ofChange Rows.posetExtensionsSpec) false w args)
      (Rows.posetExtensionsSpec.post enc Tryd.prog Tryd.f8 false true false false) := by
  refine returnsInHanded_of_change_and (C := Tryd.checked) (X := fun w _ => laidMetH Tryd.prog laidT w) (fun _ _ _ hh h => h.of_heap hh) own started (by kernel_rfl) Tryd.func8
    (ChangeSpec.witness_shaped (enc := enc) (C := Tryd.checked) (os := os) (X := fun w _ => laidMetH Tryd.prog laidT w) false (World.doorLaid Tryd.prog 14 os) #[.int .i64 0, .slice none 0 0, .int .i64 0] 8 rfl (World.shaped_of_RefB (by kernel_rfl) (by kernel_rfl)) (by kernel_rfl) (by kernel_rfl) (by kernel_rfl) (door_met os _)) ?_
  intro W base args ds gs before hval0 hW _ _ hL _
  have hval : ∀ (j : Nat) t v, Tryd.f8.params[j]? = some t → args[j]? = some v → Value.okWide Tryd.prog W .any base t v := hval0
  have hW' := hW
  obtain ⟨p, q, hA0, hV, rfl, hfz, hnd⟩ := hW
  have hA : DataW.TrodAll enc Tryd.prog W 0 (fun _ => true) true Tryd.f8.params.toList args.toList ds p := hA0
  rw [Tryd.params8] at hA hval
  obtain ⟨v0, vs0, d0, ds0, p0, q0, hargs, rfl, rfl, h0, r0⟩ := trodAll_cons hA
  obtain ⟨v1, vs1, d1, ds1, p1, q1, rfl, rfl, rfl, h1, r1⟩ := trodAll_cons r0
  obtain ⟨v2, vs2, d2, ds2, p2, q2, rfl, rfl, rfl, h2, r2⟩ := trodAll_cons r1
  obtain ⟨rfl, rfl, rfl⟩ := trodAll_nil r2
  obtain rfl : args = #[v0, v1, v2] := by cases args; simp_all
  obtain ⟨rfl, rfl⟩ := trodVars_none hV
  obtain ⟨a0, rfl, rfl, rfl, w0⟩ := open_int Tryd.underlying3 (hval 0 3 v0 rfl rfl) h0
  obtain ⟨a1, len1, cap1, rfl⟩ := okWide_slice Tryd.underlying22 (hval 1 22 v1 rfl rfl)
  have k1 := h1
  have lt1 : ∀ x ∈ p1, x.block < W.heap.size := by obtain ⟨m, hm⟩ := k1; exact DataW.trod_lt m _ _ _ hm
  obtain ⟨z1, w1⟩ : ∃ zs, IsRow .i64 W a1 len1 cap1 zs := by
    obtain ⟨fuel, hf⟩ := h1
    rcases open_ints Tryd.underlying22 Tryd.underlying3 (by kernel_rfl) hf with ⟨hcs, _⟩ | ⟨x, l, c, zs, hcs, _, hl, hm, hz, _, hcell, hwz⟩
    · simp [Value.cells] at hcs
      obtain ⟨rfl, rfl, rfl⟩ := hcs
      exact ⟨[], .inl ⟨rfl, rfl, rfl, rfl⟩⟩
    · simp [Value.cells] at hcs
      obtain ⟨rfl, rfl, rfl⟩ := hcs
      exact ⟨zs, .inr ⟨_, rfl, hl, hm, by simpa using hz, hcell, hwz⟩⟩
  obtain ⟨a2, rfl, rfl, rfl, w2⟩ := open_int Tryd.underlying3 (hval 2 3 v2 rfl rfl) h2
  clear hA0 hval0
  refine (walk a0 a1 len1 cap1 z1 a2 W w0 w1 w2 (of_laid hL)).mono fun e W' ⟨he, bel⟩ => ?_
  subst he
  exact ⟨_, rfl, _, _, _, [], _, [], hW', trodAll_mk1 (shut_bool Tryd.underlying4 _), (trodAll_cons_mk (shut_int Tryd.underlying3 w0) (trodAll_cons_mk (Below.trod laidOut (by kernel_rfl) (of_decide_eq_true (by kernel_rfl)) k1 bel lt1) (trodAll_cons_mk (shut_int Tryd.underlying3 w2) trodAll_mk0))), rfl, bel.frame _, fun h => by cases h⟩

theorem over : Rows.posetExtensionsRow.holds Tryd.pinned (OpenSpec.ofChange Rows.posetExtensionsSpec) :=
  OpenClaim.holds_of_wide 8 Tryd.f8 rfl rfl rfl rfl rfl rfl rfl ⟨rfl, rfl, rfl, rfl, rfl⟩ rfl rfl rfl rfl rfl (by kernel_rfl) Tryd.func8 (by kernel_rfl)
    (of_decide_eq_true (by kernel_rfl)) (by unfold Func.isWrapper; first | (rw [if_pos (by decide +kernel)]; kernel_rfl) | (rw [if_neg (by decide +kernel)]; exact ⟨rfl, rfl⟩))
    (fun os started H enc _ => lifted os started H enc)


/-! ### THE CARD -/
theorem cardHolds : Rows.PosetExtensionsCardSaid :=
  Claim7.holds_tied_plain_at .later [] [.data] true (true, "69b8748036c1ab40a488c13c974df10cd19b3b935a840f5165b1f86c23c10982") true
    over (fun _ h => by cases h) (by kernel_rfl) (fun _ h => by cases h) posetExtensions_row_tie rfl ⟨rfl, rfl⟩ (by kernel_rfl) rfl
    (fun f fn hf hfn => by
      obtain rfl : f = 8 := Option.some.inj ((show Tryd.prog.funcNamed "simproof/simprooflaw04.PosetExtensions" = some 8 by kernel_rfl).symm.trans hf) |>.symm
      obtain rfl : fn = Tryd.f8 := (Option.some.inj (Tryd.func8.symm.trans hfn)).symm
      exact ⟨by kernel_rfl, fun j t ht => by
        rw [Tryd.params8] at ht
        have hm : t ∈ [3, 22, 3] := by simpa using Array.mem_of_getElem? ht
        have hall : ([3, 22, 3].all fun u => !Tryd.prog.wantsStandIn u) = true := by kernel_rfl
        exact (show Tryd.prog.wantsStandIn t = false by simpa using List.all_eq_true.1 hall t hm)⟩)
    (by kernel_rfl)
end Go.Proofs.YtlgdcbhdmffnoaaDoor.posetExtensions
