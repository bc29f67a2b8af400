/-
  The walk of the law WireReads: the reader's values and errors agree with the reference's. No condition beyond the arguments' readings.
-/
import Derived.Test.YtcojbloflaeefaaWPre
import Derived.Test.YtcojbloflaeefaaWOwn
import Derived.Test.YtcojbloflaeefaaWSame
import Derived.Test.YtcojbloflaeefaaWRefVs
import Derived.Test.YtcojbloflaeefaaWCanon
import Derived.Test.YtcojbloflaeefaaWRefRead
import Derived.Deep.RegionHeld3
namespace Go.Proofs.Ytcojbloflaeefaa.LawWireReads
open Go Go.RowKit LawWirePrefix

theorem tdiv4_i64 {x : Int} (h : I64 x) : I64 (x.tdiv 4) := by
  obtain ⟨h0, h1⟩ := h
  unfold I64
  rcases Int.le_total 0 x with h | h
  · rw [Int.tdiv_eq_ediv_of_nonneg h]; omega
  · have e : x.tdiv 4 = -((-x) / 4) := by
      rw [← Int.tdiv_eq_ediv_of_nonneg (by omega), Int.neg_tdiv, Int.neg_neg]
    rw [e]; omega
theorem enc_many (m : List Int) : m.length ≤ (m.flatMap encI).length := by
  induction m with
  | nil => simp
  | cons x xs ih =>
    have := encU_pos (zig x)
    rw [List.flatMap_cons, List.length_append, List.length_cons]
    unfold encI at *
    omega
theorem rdN_I_len (n : Nat) (bs : List Int) (hb : ∀ x ∈ bs, B8 x) : (rdN rdI n [] (.ok bs)).1.length ≤ bs.length := by
  obtain ⟨l, S, h⟩ : ∃ l S, rdN rdI n [] (.ok bs) = (l, S) := ⟨_, _, rfl⟩
  rw [h]
  cases S with
  | ok r =>
    obtain ⟨m, e1, _, _, e4⟩ := rdN_I_inv n [] l bs r hb h
    rw [List.nil_append] at e1
    subst e1
    have := enc_many l
    rw [e4, List.length_append]
    exact Nat.le_trans this (Nat.le_add_right _ _)
  | bad e =>
    have : ∀ (n : Nat) (acc bs : List Int), (rdN rdI n acc (.ok bs)).2 = .bad e → (rdN rdI n acc (.ok bs)).1 = [] := by
      intro n
      induction n with
      | zero => intro acc bs h; simp [rdN] at h
      | succ n ih =>
        intro acc bs h
        rw [rdN] at h ⊢
        cases hs : (rdI (.ok bs)).2 with
        | bad e' => rw [rdN_bad]
        | ok r => rw [hs] at h; exact ih _ _ h
    have h2 := this n [] bs (by rw [h])
    rw [h] at h2
    show l.length ≤ _
    rw [show l = [] from h2]
    simp
theorem lim_left (most : Int) {bs : List Int} (hb : ∀ x ∈ bs, B8 x) : (∃ N r, lim most (rdU (.ok bs)) = (N, .ok r) ∧ r.length ≤ bs.length ∧ ∀ x ∈ r, B8 x) ∨ (∃ N e, lim most (rdU (.ok bs)) = (N, .bad e)) := by
  rcases rdU_split hb with ⟨N, r, hu, _, he⟩ | ⟨v, e, hu⟩
  · rw [hu]
    simp only [lim]
    split
    · exact .inr ⟨_, _, rfl⟩
    · refine .inl ⟨_, _, rfl, ?_, fun x hx => hb x (by rw [he]; simp [hx])⟩
      rw [he, List.length_append]
      omega
  · rw [hu]; exact .inr ⟨_, _, rfl⟩
theorem rdV_b_len {B g : Nat} {w : World} {s : St} (h : InAt B w g s) (k most : Int) : (rdV k most s).1.b.length ≤ 1000000 ∧ (rdV k most s).1.l.length ≤ 1000000 := by
  have hB : (rdB most s).1.length ≤ 1000000 := by
    unfold rdB rdList
    cases s with
    | bad e => show (rdN rdO _ [] (.bad e)).1.length ≤ _; rw [rdN_bad]; simp
    | ok bs =>
      have hs := h.short
      rcases lim_left most h.b8 with ⟨N, r, e, hr, _⟩ | ⟨N, e', e⟩
      · rw [e]
        simp only
        rw [rdN_O]
        split
        · simp only [List.nil_append, List.length_take]; omega
        · simp
      · rw [e]; simp only; rw [rdN_bad]; simp
  have hL : (rdL most s).1.length ≤ 1000000 := by
    unfold rdL rdList
    cases s with
    | bad e => show (rdN rdI _ [] (.bad e)).1.length ≤ _; rw [rdN_bad]; simp
    | ok bs =>
      have hs := h.short
      rcases lim_left most h.b8 with ⟨N, r, e, hr, hr8⟩ | ⟨N, e', e⟩
      · rw [e]
        exact Nat.le_trans (rdN_I_len _ r hr8) (by omega)
      · rw [e]; simp only; rw [rdN_bad]; simp
  unfold rdV
  split
  · exact ⟨by simp, by simp⟩
  · split
    · exact ⟨by simp, by simp⟩
    · split
      · exact ⟨hB, by simp⟩
      · exact ⟨by simp, hL⟩
theorem RAt.other {B g g' : Nat} {w w' : World} {s : St} {cs : Array Value} (h : RAt B w g s) (h' : w.heap[g']? = some (.cells cs 65 (0, 0))) (hb : But g' w w') (hne : g ≠ g') : RAt B w' g s :=
  h.grown hb (fun e => hne (by injection e)) fun b e => .inr fun C hC => by
    injection e with e
    subst e
    exact heap_ne h' hC (by decide) rfl
theorem InAt.otherR {B g g' : Nat} {w w' : World} {s : St} {cs : Array Value} (h : InAt B w g s) (h' : w.heap[g']? = some (.cells cs 47 (0, 0))) (hb : But g' w w') (hne : g ≠ g') : InAt B w' g s :=
  h.grown hb (fun e => hne (by injection e)) fun b e => .inr fun C hC => by
    injection e with e
    subst e
    exact heap_ne h' hC (by decide) rfl
theorem VAt.otherR {B g : Nat} {w w' : World} {x : V} {v : Value} {cs : Array Value} (h : VAt B w x v) (hg : w.heap[g]? = some (.cells cs 47 (0, 0))) (hb : But g w w') : VAt B w' x v := by
  obtain ⟨bA, bn, bc, lA, ln, lc, e, h1, h2⟩ := h
  have key : ∀ (t : TypeId) (b : Nat) (C : Array Value), t ≠ 47 → w.heap[b]? = some (.cells C t (0, 0)) → w'.heap[b]? = w.heap[b]? := fun t b C hne hC => hb.block b (heap_lt hC) fun e => by
    injection e with e
    subst e
    exact heap_ne hg hC (Ne.symm hne) rfl
  exact ⟨bA, bn, bc, lA, ln, lc, e, h1.keep fun b C _ hC => key _ b C (by decide) hC, h2.keep fun b C _ hC => key _ b C (by decide) hC⟩
def errOf (g : Nat) (W : World) : Int :=
  match W.cell? ⟨g, 1, none⟩ with
  | some (.int _ e) => e
  | _ => 0
theorem errOf_cell {g : Nat} {W : World} {e : Int} (h : W.cell? ⟨g, 1, none⟩ = some (.int .i64 e)) : W.cell? ⟨g, 1, none⟩ = some (.int .i64 (errOf g W)) := by
  unfold errOf
  rw [h]
theorem errOf_eq {g : Nat} {W : World} {e : Int} (h : W.cell? ⟨g, 1, none⟩ = some (.int .i64 e)) : errOf g W = e := by
  unfold errOf
  rw [h]
theorem RAt.errCell {B g : Nat} {w : World} {s : St} (h : RAt B w g s) : w.cell? ⟨g, 1, none⟩ = some (.int .i64 s.err) := by
  cases s with
  | ok bs => obtain ⟨A, n, c, hg, _⟩ := h; exact two_c1 hg
  | bad e => obtain ⟨A, n, c, hg, _⟩ := h; exact two_c1 hg

set_option maxRecDepth 100000 in
set_option maxHeartbeats 40000000 in
theorem walk (a0 : Option Addr) (len0 cap0 : Nat) (z0 : List Int) (a1 : Option Addr) (len1 cap1 : Nat) (z1 : List Int) (a2 : Int) (a3 : Int) (a4 : Option Addr) (len4 cap4 : Nat) (z4 : List Int) (a5 : Int) (w : World) (w0 : Row .u8 w a0 len0 cap0 z0) (w1 : Row .i64 w a1 len1 cap1 z1) (w2 : (Lit.int .i64 a2).wf = true) (w3 : (Lit.int .u8 a3).wf = true) (w4 : Row .i64 w a4 len4 cap4 z4) (w5 : (Lit.int .i64 a5).wf = true) :
    Calls Try.prog 4 #[.slice a0 len0 cap0, .slice a1 len1 cap1, .int .i64 a2, .int .u8 a3, .slice a4 len4 cap4, .int .i64 a5] w fun e w' => e = .returned (.bool true) ∧ Below w.heap.size w w' := by
  have hb2 := bounds_i64 w2
  have hb3 := bounds_u8 w3
  have hb5 := bounds_i64 w5
  obtain ⟨hI1, hlc1, hcm1, hwf1⟩ := w1.ints
  obtain ⟨hI4, hlc4, hcm4, hwf4⟩ := w4.ints
  unfold maxLen at hcm1 hcm4
  have HV := Lib.hid (vals_vls a1 len1 cap1 _ w hI1 (i64_of hwf1) (by omega))
  have HF := Lib.hid (fun u (hu : Below w.heap.size w u) => few_any a0 len0 cap0 _ 60 (by decide) (by decide) u (w0.slc.below hu))
  have h8 : ∀ x ∈ (z0.take len0).take 60, B8 x := fun x hx => b8_of w0.ints.2.2.2 x (List.mem_of_mem_take hx)
  have hpl : ((z0.take len0).take 60).length ≤ 60 := List.length_take_le _ _
  have e60 : (60 : Int).toNat = 60 := rfl
  rw [e60] at HF
  obtain ⟨P, hP⟩ : ∃ P, (z0.take len0).take 60 = P := ⟨_, rfl⟩
  rw [hP] at HF h8 hpl
  have H80 := Lib.hid h8
  have HI4 := Lib.hid (i64_of hwf4)
  have hl4 : len4 ≤ 9223372036854775807 := by omega
  clear w0 w1 w2 w3 w4 w5 hI1 hlc1 hcm1 hwf1 hlc4 hcm4 hwf4 h8 e60 hP
  go_enter Try.func4, Try.ntmps4
  go_wp2_with fail
  refine HV.out.mono ?_
  rintro e u1 ⟨A1, n1, c1, xs, rfl, hn8, hxl, hxg, hV, hbw1⟩
  have HE := Lib.hid (ref_encode A1 n1 c1 xs u1 hV (fun x hx => (hxg x hx).1) (by omega))
  have hlen := encVs_good xs hxg
  have H8 := Lib.hid (encVs_b8 xs hxg)
  have hl400 : (encVs xs).length ≤ 400 := by omega
  have hs1 := hbw1.size
  clear hxl hxg hlen hV
  go_wp2_with fail
  refine HE.out.mono ?_
  rintro e u2 ⟨A2, n2, c2, rfl, hn2, -, hO2, hbw2⟩
  have hn400 : n2 ≤ 400 := by omega
  have HN2 := Lib.hid hn2
  have B2 := hbw1.trans (hbw2.mono hs1)
  have hs2 := hbw2.size
  clear hn2 hl400
  by_cases hn0 : n2 = 0
  case' pos =>
    have hno : ¬ (0 : Int) < n2 := by omega
    clear hn0
    go_wp2_with fail
    obtain ⟨u3, bs, hu3, hO3, hB8, hbl, b23⟩ : ∃ (W : World) (bs : List Int), W = u2 ∧ W.ownsRow u1.heap.size 5 1 (.slice A2 n2 c2) n2 (bs.map (Value.int .u8)) ∧ Hid (∀ x ∈ bs, B8 x) ∧ Hid (bs.length = n2) ∧ Below u1.heap.size u2 W := ⟨u2, _, rfl, hO2, H8.out, HN2.out, Below.refl _ _⟩
    rw [← hu3]
    clear hu3 hno hO2
  case' neg =>
    have hpos : (0 : Int) < n2 := by omega
    obtain ⟨r0, r1⟩ := around_in a2 n2 hpos
    have HA := Lib.hid (around_any a2 n2 ⟨by omega, by omega⟩ hpos (by omega) u2)
    obtain ⟨a, ha⟩ : ∃ a, around a2 n2 = a := ⟨_, rfl⟩
    rw [ha] at HA r0 r1
    obtain ⟨a, rfl⟩ := Int.eq_ofNat_of_zero_le r0
    have han : a < n2 := by omega
    obtain ⟨gt, ut, rfl, hnc, hct, hft⟩ := LawWireOwn.own_at hO2 a han
    clear ha hn0
    go_wp2_with fail
    refine HA.out.mono ?_
    rintro e u2' ⟨rfl, rfl⟩
    go_wp2_with fail
    have hgt := (hO2.lt gt rfl).1
    obtain ⟨A2, hA2⟩ : ∃ A, A = some (⟨gt, 0, none⟩ : Addr) := ⟨_, rfl⟩
    have hset := LawWireOwn.own_set hO2 a (.int .u8 a3)
    rw [← List.map_set] at hset
    obtain ⟨u3, bs, hu3, hO3, hB8, hbl, b23⟩ : ∃ (W : World) (bs : List Int), W = u2.setCell ⟨gt, a, none⟩ (.int .u8 a3) ∧ W.ownsRow u1.heap.size 5 1 (.slice A2 n2 c2) n2 (bs.map (Value.int .u8)) ∧ Hid (∀ x ∈ bs, B8 x) ∧ Hid (bs.length = n2) ∧ Below u1.heap.size u2 W := ⟨_, (encVs xs).set a a3, rfl, by rw [hA2]; exact hset, (fun x hx => by
      rcases List.mem_or_eq_of_mem_set hx with hx | rfl
      · exact H8.out x hx
      · unfold B8; omega), (by show _ = _; rw [List.length_set]; exact HN2.out), (Below.refl _ _).setCell (p := ⟨gt, a, none⟩) hgt _⟩
    rw [← hu3, ← hA2]
    clear hu3 hpos hO2 hset hct hft hA2 HA
  all_goals
    have hs3 := b23.size
    have B3 := B2.trans (b23.mono hs1)
    have hL3 := Lst.of_own hO3
    clear hO3
    refine (HF.out u3 B3).mono ?_
    rintro e u4 ⟨A4, n4, c4, rfl, hn4, hL4, -, hbw4⟩
    have hn60 : n4 ≤ 60 := by omega
    have hs4 := hbw4.size
    have B4 := B3.trans (hbw4.mono B3.size)
    have hL3' := (hL3.below hbw4).more hs4
    clear hn4 hL3
    obtain ⟨u5, hu5⟩ : ∃ W, W = u4.alloc (.cells #[.slice A4 n4 c4, .slice A2 n2 c2] 24) := ⟨_, rfl⟩
    have b45 : Below u4.heap.size u4 u5 := by rw [hu5]; exact (Below.refl _ _).alloc (Nat.le_refl _) _
    have hg5 : u5.heap[u4.heap.size]? = some (.cells #[.slice A4 n4 c4, .slice A2 n2 c2] 24 (0, 0)) := by rw [hu5]; exact World.alloc_heap_new u4 _
    have hs5 : u4.heap.size < u5.heap.size := by rw [hu5]; simp
    have hpick : ∀ k : Nat, k < 2 → ∃ A n c zs, u5.cell? ⟨u4.heap.size, k, none⟩ = some (.slice A n c) ∧ Lst 5 .u8 u5.heap.size u5 A n c zs ∧ (∀ x ∈ zs, B8 x) ∧ n ≤ 1000000 := by
      intro k hk
      match k, hk with
      | 0, _ => exact ⟨A4, n4, c4, P, two_c0 hg5, (hL4.below b45).more (by omega), H80.out, by omega⟩
      | 1, _ => exact ⟨A2, n2, c2, bs, two_c1 hg5, (hL3'.below b45).more (by omega), hB8.out, by omega⟩
    have HP := Lib.hid hpick
    have HU5 := Lib.hid hu5
    have B5 := B4.trans (b45.mono B4.size)
    clear hpick hL4 hL3' hg5 hu5
    go_wp2_with fail
    rw [← HU5.out]
    go_loopw [15] (fun i wr => ∃ k : Nat, k ≤ 2 ∧ i = .int .i64 k ∧ Below u5.heap.size u5 wr) (fun i _ => 2 - (intOf i).toNat)
    case atStart => exact ⟨0, Nat.zero_le _, rfl, Below.refl _ _⟩
    case round =>
      obtain ⟨k, hk, rfl, hBo⟩ := hrel
      obtain ⟨wo, hwo⟩ : ∃ W, W = wr := ⟨_, rfl⟩
      subst hwo
      have hso := hBo.size
      have B6 := B5.trans (hBo.mono B5.size)
      by_cases hlt : k < 2
      · obtain ⟨A, n, c, zs, q1, q2, q3, q4⟩ := HP.out k hlt
        have hck := (hBo.cell (p := ⟨u4.heap.size, k, none⟩) hs5).trans q1
        have HQ3 := Lib.hid q3
        have HNW := Lib.hid (newin_any A n c zs wo _ (q2.below hBo) q4 q3)
        clear q3
        go_wp2_with fail
        refine HNW.out.mono ?_
        rintro e v1 ⟨g1, rfl, hg1, hin, hbv1⟩
        have hsv1 := hbv1.size
        have hck1 := (hbv1.cell (p := ⟨u4.heap.size, k, none⟩) (by show u4.heap.size < wo.heap.size; omega)).trans hck
        have hLv := (q2.below hBo).below (hbv1.mono hso)
        clear hck q1 q2
        go_wp2_with fail
        obtain ⟨v2, hv2⟩ : ∃ W, W = v1.alloc (.cells #[.slice A n c, .int .i64 0] 47) := ⟨_, rfl⟩
        have b12 : Below v1.heap.size v1 v2 := by rw [hv2]; exact (Below.refl _ _).alloc (Nat.le_refl _) _
        have hR2 : RAt u5.heap.size v2 v1.heap.size (.ok zs) := ⟨A, n, c, by rw [hv2]; exact World.alloc_heap_new v1 _, hLv.below (b12.mono (by omega)), HQ3.out, q4⟩
        have hs2v : v1.heap.size < v2.heap.size := by rw [hv2]; simp
        have hI2 := hin.below b12
        have hne : g1 ≠ v1.heap.size := by have := hin.lt; omega
        have B7 := (B6.trans (hbv1.mono B6.size)).trans (b12.mono (by have := B6.size; omega))
        have b02 : Below u5.heap.size u5 v2 := (hBo.trans (hbv1.mono hso)).trans (b12.mono (by omega))
        have HV2 := Lib.hid hv2
        clear hin hLv hck1 b12 hv2
        rw [← HV2.out]
        go_loopw [18] (fun i wr => ∃ (j : Nat) (s : St), j ≤ 10 ∧ i = .int .i64 j ∧ InAt v1.heap.size wr g1 s ∧ RAt u5.heap.size wr v1.heap.size s ∧ Below u5.heap.size v2 wr ∧ v2.heap.size ≤ wr.heap.size) (fun i _ => 10 - (intOf i).toNat)
        case atStart => exact ⟨0, _, by omega, rfl, hI2, hR2, Below.refl _ _, Nat.le_refl _⟩
        case round =>
          obtain ⟨j, s, hj, rfl, hI, hR, hBi, hsi⟩ := hrel
          clear hI2 hR2
          have hsw5 := B5.size
          have hB8' := B7.trans (hBi.mono hsw5)
          by_cases hlj : j < len4 ∧ j < 10
          · obtain ⟨hlj1, hlj2⟩ := hlj
            obtain ⟨b, off, rfl, hbl4, hcs⟩ := hI4.at_ (by omega)
            have hckk := (hB8'.cell (p := ⟨b, off + j, none⟩) hbl4).trans (hcs j hlj1)
            obtain ⟨x0, x1⟩ := HI4.out _ (getD_mem (l := z4.take len4) (j := j) (by rw [hI4.len]; exact hlj1))
            obtain ⟨x, ex⟩ : ∃ x, (z4.take len4)[j]?.getD 0 = x := ⟨_, rfl⟩
            rw [ex] at hckk x0 x1
            obtain ⟨r0', r1'⟩ := around_in x 4 (by decide)
            have HA4 := Lib.hid (around_any x 4 ⟨x0, x1⟩ (by decide) (by decide) wr)
            obtain ⟨kd, hkd⟩ : ∃ kd, around x 4 = kd := ⟨_, rfl⟩
            rw [hkd] at HA4 r0' r1'
            have hk4 := Lib.hid (four r0' r1')
            have hx4 : I64 (x.tdiv 4) := tdiv4_i64 ⟨x0, x1⟩
            obtain ⟨s0, s1⟩ := around_in (x.tdiv 4) 40 (by decide)
            have HA40 := Lib.hid (around_any (x.tdiv 4) 40 hx4 (by decide) (by decide) wr)
            obtain ⟨lm, hlm⟩ : ∃ lm, around (x.tdiv 4) 40 = lm := ⟨_, rfl⟩
            rw [hlm] at HA40 s0 s1
            have HII := Lib.hid hI
            have HRR := Lib.hid hR
            obtain ⟨ci, hci⟩ := hI.struct
            obtain ⟨cr, hcr⟩ := hR.struct
            have HCI := Lib.hid hci
            have HCR := Lib.hid hcr
            clear hkd ex hcs hI4 hlm hx4 hI hR hci hcr
            go_wp2_with fail
            refine HA4.out.mono ?_
            rintro e wr' ⟨rfl, rfl⟩
            go_wp2_with fail
            refine HA40.out.mono ?_
            rintro e wr' ⟨rfl, rfl⟩
            obtain ⟨T, hT⟩ : ∃ T, (x.tmod 5 == 0) = T := ⟨_, rfl⟩
            cases T
            case' true =>
              go_wp2_with fail
              obtain ⟨L, hL, hLI⟩ : ∃ L, a5 = L ∧ Hid (I64 L) := ⟨a5, rfl, (show I64 a5 from ⟨by omega, by omega⟩)⟩
            case' false =>
              go_wp2_with fail
              obtain ⟨L, hL, hLI⟩ : ∃ L, lm - 1 = L ∧ Hid (I64 L) := ⟨_, rfl, (show I64 (lm - 1) from ⟨by omega, by omega⟩)⟩
            all_goals
              rw [hL]
              have HLX := Lib.hid hL
              clear hL hT
              have hsz5 : u5.heap.size ≤ v1.heap.size := by omega
              have hg15 : u5.heap.size ≤ g1 := by omega
              have hwz : v1.heap.size ≤ wr.heap.size := by omega
              have HR1 := Lib.hid (read_any g1 s kd L wr.drew (HII.out.below (Below.refl _ _).drew) (show v1.heap.size ≤ wr.heap.size from hwz) hLI.out hk4.out)
              have HLN := Lib.hid (rdV_b_len HII.out kd L)
              have HR0 := Lib.hid (HRR.out.below (w' := wr.drew) (Below.refl _ _).drew)
              have HNE := Lib.hid hne
              have K0 := Lib.hid (errOf_cell (RAt.errCell HR0.out))
              go_region_with
                (first
                  | (go_at_call 17; refine HR1.out.mono ?_; rintro e y1 ⟨va, rfl, hva, hIa, hb1⟩; have hz1 : wr.heap.size ≤ y1.heap.size := hb1.size; have hRa := RAt.other HR0.out (show wr.drew.heap[g1]? = _ from HCI.out) hb1 (Ne.symm HNE.out); have HR2 := Lib.hid (r_read v1.heap.size s kd L y1 hRa (by omega) hLI.out hk4.out); have KA := Lib.hid (errOf_cell (RAt.errCell hRa)))
                  | (go_at_call 18; refine HR2.out.mono ?_; rintro e y2 ⟨vb, rfl, hvb, hRb, hb2'⟩; have hz2 := hb2'.size; have hIb := InAt.otherR hIa hRa.struct.choose_spec hb2' HNE.out; have HS := Lib.hid (same_any (rdV kd L s).1 va vb y2 ((VAt.otherR hva hRa.struct.choose_spec hb2').more hz2) hvb HLN.out.1 HLN.out.2); have KB := Lib.hid (errOf_cell (RAt.errCell hRb)))
                  | (go_at_call 16; refine HS.out.mono ?_; rintro e y3 ⟨rfl, hb3'⟩; have hIc := hIb.below hb3'; have hRc := hRb.below hb3'; have hcE := RAt.errCell hRc; have hz3 := hb3'.size)
                  | (go_at_call 19; refine (in_err g1 _ _ hIc).mono ?_; rintro e y4 ⟨rfl, rfl⟩)
                  | (go_at_call 20; refine (in_end g1 _ _ hIc).mono ?_; rintro e y4 ⟨rfl, rfl⟩)
                  | (go_at_call 21; refine (r_end v1.heap.size _ _ hRc).mono ?_; rintro e y4 ⟨rfl, rfl⟩))
              all_goals
                have d1 := below_but hBi.drew hb1 hg15 (show u5.heap.size ≤ wr.heap.size by omega)
                have d2 := below_but d1 hb2' hsz5 (by omega)
                have d3 := d2.trans (hb3'.mono (by omega))
                clear hcE
                go_wp2_with fail
                go_roundw
                case rel => first | exact ⟨j + 1, _, by omega, by go_num, hIc, hRc, d3, by omega⟩ | (have e := HLX.out; subst e; (repeat apply Exists.intro); exact ⟨⟨j + 1, _, by omega, by go_num, hIc, hRc, d3, by omega⟩, rfl⟩)
                case measure => simp [intOf]; omega
          · have hfin : Below u5.heap.size u5 wr := b02.trans hBi
            by_cases hl : j < len4
            · have h10 : ¬ j < 10 := by omega
              clear hlj hI hR
              go_wp2_with fail
              go_roundw
              case rel => exact ⟨k + 1, by omega, by go_num, hfin⟩
              case measure => simp [intOf]; omega
            · clear hlj hI hR
              go_wp2_with fail
              go_roundw
              case rel => exact ⟨k + 1, by omega, by go_num, hfin⟩
              case measure => simp [intOf]; omega
      · go_wp2_with fail
        refine (lives_any wo).mono ?_
        rintro e v1 ⟨rfl, hbv⟩
        go_wp2_with fail
        go_ret
        exact ⟨rfl, B6.trans (hbv.mono B6.size)⟩
end Go.Proofs.Ytcojbloflaeefaa.LawWireReads
