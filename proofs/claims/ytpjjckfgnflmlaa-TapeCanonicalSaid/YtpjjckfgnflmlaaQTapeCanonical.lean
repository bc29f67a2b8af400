/-
  The walk of the law TapeCanonical: what can be decoded is what encoding gives. No condition beyond the arguments' readings.
  The statement TapeCanonical: for every input the law answers true and leaves its arguments as they were. No condition is added. The frame of this proof was written by the guide's program, the walk is the text LawTapeCanonical's.
-/
import Derived.Test.YtpjjckfgnflmlaaK24
import Derived.Test.YtpjjckfgnflmlaaK25
import Derived.Test.YtpjjckfgnflmlaaK5
import Derived.Deep.CutBlock
import Derived.Test.YtpjjckfgnflmlaaRows
import Derived.WalkKit
import Derived.ProofKit
import Derived.OpenShut
import Derived.ShutString
import Derived.ChangeOld
import Derived.Below

namespace Go.Proofs.Ytpjjckfgnflmlaa.LawTapeCanonical
open Go Go.RowKit Go.Proofs.Ytpjjckfgnflmlaa
attribute [local go_sem] Oper.semAt_some

theorem take_next {l : List Int} {k : Nat} (h : k < l.length) : (l.take (k + 1)).flatMap encI = (l.take k).flatMap encI ++ encI (l[k]?.getD 0) := by
  rw [List.take_add_one, List.getElem?_eq_getElem h, List.flatMap_append]
  simp
theorem ints_len (l : List Int) (k : Nat) : ((l.take k).flatMap encI).length ≤ 10 * k := by
  have h1 := encI_le (l.take k)
  have h2 := List.length_take_le k l
  omega
theorem ints_b8 (l : List Int) (h : ∀ x ∈ l, I64 x) : ∀ y ∈ l.flatMap encI, B8 y := by
  intro y hy
  obtain ⟨x, hx, hy⟩ := List.mem_flatMap.1 hy
  exact encU_b8 (zig_w (h x hx)).1 y hy
theorem encU_ne (n : Int) : 1 ≤ (encU n).length := by
  unfold encU encF
  split <;> simp
theorem encN_ne {l : List Int} (h : l ≠ []) : 1 ≤ (encN l).length := by
  cases l with
  | nil => exact absurd rfl h
  | cons x xs =>
    have := encU_ne (zig x)
    unfold encN
    rw [List.flatMap_cons, List.length_append]
    unfold encI
    omega
theorem flat_len {α : Type} (f : α → List Int) (hf : ∀ x, 1 ≤ (f x).length) : ∀ l : List α, l.length ≤ (l.flatMap f).length
  | [] => by simp
  | x :: l => by
    have := hf x
    have := flat_len f hf l
    rw [List.flatMap_cons, List.length_append, List.length_cons]
    omega
theorem encT_len (es : List NM.Ev) (l : List TP.An) : es.length ≤ (encT es l).length ∧ l.length ≤ (encT es l).length := by
  have h1 := flat_len (fun e => encN (NM.evL e)) (fun e => encN_ne (by simp [NM.evL])) es
  have h2 := flat_len (fun x => encN (anL x)) (fun e => encN_ne (by simp [anL])) l
  unfold encT
  simp only [List.length_append]
  constructor <;> omega
theorem decP_bad {zs : List Int} (h : (decP zs).2 ≠ 0) : (decP zs).1 = ([], []) := by
  unfold decP at h ⊢
  split
  · rename_i h0
    rw [if_pos h0] at h
    exact absurd rfl h
  · rfl
/-- What Decode reads without an error. -/
theorem decP_good {zs : List Int} (hb : ∀ x ∈ zs, B8 x) (h : (decP zs).2 = 0) : zs = encT (decP zs).1.1 (decP zs).1.2 ∧ TP.normA (decP zs).1.2 = (decP zs).1.2 ∧ (∀ e ∈ (decP zs).1.1, ∀ y ∈ NM.evL e, I64 y) ∧ (∀ e ∈ (decP zs).1.2, ∀ y ∈ anL e, I64 y) ∧ (decP zs).1.1.length ≤ zs.length ∧ (decP zs).1.2.length ≤ zs.length := by
  have h0 : (decT zs).2.endE = 0 := by
    unfold decP at h
    split at h
    · assumption
    · exact h
  have hd : decP zs = ((decT zs).1, 0) := by unfold decP; rw [if_pos h0]
  obtain ⟨h1, h2, h3, h4, h5⟩ := decT_inv hb (decT_done h0)
  obtain ⟨h6, h7⟩ := encT_len (decT zs).1.1 (decT zs).1.2
  rw [hd]
  rw [← h1] at h6 h7
  exact ⟨h1, TP.norm_self h2 h3, h4, h5, h6, h7⟩
set_option maxHeartbeats 8000000 in
set_option maxRecDepth 100000 in
theorem walk (a0 : Option Addr) (len0 cap0 : Nat) (z0 : List Int) (a1 : Int) (a2 : Option Addr) (len2 cap2 : Nat) (z2 : List Int) (a3 : Int) (a4 : Option Addr) (len4 cap4 : Nat) (z4 : List Int) (w : World) (w0 : Row .u8 w a0 len0 cap0 z0) (w1 : (Lit.int .i64 a1).wf = true) (w2 : Row .i64 w a2 len2 cap2 z2) (w3 : (Lit.int .i64 a3).wf = true) (w4 : Row .i64 w a4 len4 cap4 z4) :
    Calls Try.prog 9 #[.slice a0 len0 cap0, .int .i64 a1, .slice a2 len2 cap2, .int .i64 a3, .slice a4 len4 cap4] w fun e w' => e = .returned (.bool true) ∧ Below w.heap.size w w' := by
  have hb1 := bounds_i64 w1
  have hb3 := bounds_i64 w3
  obtain ⟨hI2, _, _, hwf2⟩ := w2.ints
  obtain ⟨hI4, _, _, hwf4⟩ := w4.ints
  obtain ⟨y2, hy2⟩ : ∃ y, z2.take len2 = y := ⟨_, rfl⟩
  obtain ⟨y4, hy4⟩ : ∃ y, z4.take len4 = y := ⟨_, rfl⟩
  rw [hy2] at hI2 hwf2
  rw [hy4] at hI4 hwf4
  have H2 := Lib.hid (And.intro hI2 (i64_of hwf2))
  have H4 := Lib.hid (And.intro hI4 (i64_of hwf4))
  have HF := Lib.hid (fun u (hu : Below w.heap.size w u) => few_any a0 len0 cap0 _ 80 (by decide) (by decide) u (w0.slc.below hu))
  have H80 := Lib.hid (show ∀ x ∈ (z0.take len0).take 80, B8 x from fun x hx => b8_of w0.ints.2.2.2 x (List.mem_of_mem_take hx))
  obtain ⟨r1, hr1⟩ := Int.eq_ofNat_of_zero_le (around_in a1 3 (by decide)).1
  obtain ⟨r3, hr3⟩ := Int.eq_ofNat_of_zero_le (around_in a3 3 (by decide)).1
  have hlt1 := (around_in a1 3 (by decide)).2
  have hlt3 := (around_in a3 3 (by decide)).2
  have HA1 := Lib.hid (around_any a1 3 ⟨by omega, by omega⟩ (by decide) (by decide))
  have HA3 := Lib.hid (around_any a3 3 ⟨by omega, by omega⟩ (by decide) (by decide))
  rw [hr1] at HA1 hlt1
  rw [hr3] at HA3 hlt3
  have hwr1 : IntKind.u64.wrap (r1 : Int) = r1 := by rw [IntKind.wrap_u64]; omega
  have hwr3 : IntKind.u64.wrap (r3 : Int) = r3 := by rw [IntKind.wrap_u64]; omega
  clear w0 w1 w2 w3 w4 hI2 hwf2 hI4 hwf4 hy2 hy4 hr1 hr3 hb1 hb3
  obtain ⟨U, hU⟩ : ∃ U, w.alloc (.cells #[.slice none 0 0] 74) = U := ⟨_, rfl⟩
  have HO := Lib.hid (And.intro (show OutAt w.heap.size U w.heap.size [] from hU ▸ OutAt.new w) (show Below w.heap.size w U from hU ▸ one_box w _))
  go_enter Try.func9, Try.ntmps9
  go_upto_block 0 with (first
    | (go_at_call 35; refine (HA1.out _).mono ?_; rintro e w1 ⟨rfl, rfl⟩)
    | (go_at_call 40; refine (out_uint w.heap.size w.heap.size r1 [] U HO.out.1 ⟨by omega, by omega⟩ (by simp)).mono ?_; rintro e w1 ⟨rfl, o1, hb1⟩; have HO1 := Lib.hid (And.intro o1 (HO.out.2.trans hb1)); clear o1 hb1))
  go_cut [] from 22 (fun V => Hid (OutAt w.heap.size V w.heap.size (([] ++ encU r1) ++ (y2.take 16).flatMap encI) ∧ Below w.heap.size w V))
  case first =>
    go_wp2_with fail
    go_loopw [12] (fun i V => ∃ k : Nat, k ≤ len2 ∧ k ≤ 16 ∧ i = .int .i64 (k : Int) ∧ Hid (OutAt w.heap.size V w.heap.size (([] ++ encU r1) ++ (y2.take k).flatMap encI) ∧ Below w.heap.size w V)) (fun i _ => 16 - (intOf i).toNat)
    case atStart => exact ⟨0, by omega, by omega, rfl, (by have := HO1.out; simpa using this : OutAt _ _ _ _ ∧ _)⟩
    case round =>
      obtain ⟨k, hk, hk2, rfl, HV⟩ := hrel
      by_cases hin : k < len2
      · have dk : decide (k < len2) = true := decide_eq_true hin
        by_cases hin2 : k < 16
        · have d2 : decide (k < 16) = true := decide_eq_true hin2
          have d3 : decide ((k : Int) < 16) = true := decide_eq_true (by omega)
          obtain ⟨b, off, rfl, hbl, hc⟩ := H2.out.1.at_ (by omega)
          have c0 := (HV.out.2.cell (p := ⟨b, off + k, none⟩) hbl).trans (hc k hin)
          have hyl := H2.out.1.len
          have HX := Lib.hid (take_next (l := y2) (k := k) (by omega))
          have hx64 := H2.out.2 _ (getD_mem (l := y2) (j := k) (by omega))
          have hil := ints_len y2 k
          have hul := encU_len r1
          have hul3 := encU_len r3
          obtain ⟨x, hx⟩ : ∃ x, y2[k]?.getD 0 = x := ⟨_, rfl⟩
          rw [hx] at c0 HX hx64
          clear hc hx
          go_wp2_with fail
          refine (out_int w.heap.size w.heap.size x _ wr HV.out.1 hx64 (by simp only [List.length_append, List.length_nil]; omega)).mono ?_
          rintro e w2 ⟨rfl, o2, b2⟩
          have HV2 := Lib.hid (And.intro o2 (HV.out.2.trans b2))
          clear o2 b2
          go_wp2_with fail
          go_roundw
          case rel => exact ⟨k + 1, by omega, by omega, by go_num, (by rw [HX.out, ← List.append_assoc]; exact HV2.out : OutAt _ _ _ _ ∧ _)⟩
          case measure => simp [intOf]; omega
        · have d2 : decide (k < 16) = false := decide_eq_false hin2
          have d3 : decide ((k : Int) < 16) = false := decide_eq_false (by omega)
          obtain rfl : k = 16 := by omega
          go_wp2_with fail
          go_meet
          case rel => exact HV.out
      · have dk : decide (k < len2) = false := decide_eq_false hin
        obtain rfl : k = len2 := by omega
        have hyl := H2.out.1.len
        have HX := Lib.hid (show y2.take k = y2.take 16 from by rw [List.take_of_length_le (by omega), List.take_of_length_le (by omega)])
        go_wp2_with fail
        go_meet
        case rel =>
          rw [← HX.out]
          exact HV.out
  case rest =>
  have HO2 := hcut
  clear hcut HO1
  have hul := encU_len r1
  have hil := ints_len y2 16
  go_upto_block 2 with (first
    | (go_at_call 35; refine (HA3.out _).mono ?_; rintro e w3 ⟨rfl, rfl⟩)
    | (go_at_call 40; refine (out_uint w.heap.size w.heap.size r3 _ wc HO2.out.1 ⟨by omega, by omega⟩ (by simp only [List.length_append, List.length_nil]; omega)).mono ?_; rintro e w4 ⟨rfl, o4, hb4⟩; have HO4 := Lib.hid (And.intro o4 (HO2.out.2.trans hb4)); clear o4 hb4))
  go_cut [] from 41 (fun V => Hid (OutAt w.heap.size V w.heap.size (([] ++ encU r1 ++ (y2.take 16).flatMap encI ++ encU r3) ++ (y4.take 12).flatMap encI) ∧ Below w.heap.size w V))
  case first =>
    go_wp2_with fail
    go_loopw [13] (fun i V => ∃ k : Nat, k ≤ len4 ∧ k ≤ 12 ∧ i = .int .i64 (k : Int) ∧ Hid (OutAt w.heap.size V w.heap.size (([] ++ encU r1 ++ (y2.take 16).flatMap encI ++ encU r3) ++ (y4.take k).flatMap encI) ∧ Below w.heap.size w V)) (fun i _ => 12 - (intOf i).toNat)
    case atStart => exact ⟨0, by omega, by omega, rfl, (by have := HO4.out; simpa using this : OutAt _ _ _ _ ∧ _)⟩
    case round =>
      obtain ⟨k, hk, hk2, rfl, HV⟩ := hrel
      by_cases hin : k < len4
      · have dk : decide (k < len4) = true := decide_eq_true hin
        by_cases hin2 : k < 12
        · have d2 : decide (k < 12) = true := decide_eq_true hin2
          have d3 : decide ((k : Int) < 12) = true := decide_eq_true (by omega)
          obtain ⟨b, off, rfl, hbl, hc⟩ := H4.out.1.at_ (by omega)
          have c0 := (HV.out.2.cell (p := ⟨b, off + k, none⟩) hbl).trans (hc k hin)
          have hyl := H4.out.1.len
          have HX := Lib.hid (take_next (l := y4) (k := k) (by omega))
          have hx64 := H4.out.2 _ (getD_mem (l := y4) (j := k) (by omega))
          have hil := ints_len y4 k
          have hul := encU_len r1
          have hul3 := encU_len r3
          obtain ⟨x, hx⟩ : ∃ x, y4[k]?.getD 0 = x := ⟨_, rfl⟩
          rw [hx] at c0 HX hx64
          clear hc hx
          go_wp2_with fail
          refine (out_int w.heap.size w.heap.size x _ wr HV.out.1 hx64 (by simp only [List.length_append, List.length_nil]; omega)).mono ?_
          rintro e w2 ⟨rfl, o2, b2⟩
          have HV2 := Lib.hid (And.intro o2 (HV.out.2.trans b2))
          clear o2 b2
          go_wp2_with fail
          go_roundw
          case rel => exact ⟨k + 1, by omega, by omega, by go_num, (by rw [HX.out, ← List.append_assoc]; exact HV2.out : OutAt _ _ _ _ ∧ _)⟩
          case measure => simp [intOf]; omega
        · have d2 : decide (k < 12) = false := decide_eq_false hin2
          have d3 : decide ((k : Int) < 12) = false := decide_eq_false (by omega)
          obtain rfl : k = 12 := by omega
          go_wp2_with fail
          go_meet
          case rel => exact HV.out
      · have dk : decide (k < len4) = false := decide_eq_false hin
        obtain rfl : k = len4 := by omega
        have hyl := H4.out.1.len
        have HX := Lib.hid (show y4.take k = y4.take 12 from by rw [List.take_of_length_le (by omega), List.take_of_length_le (by omega)])
        go_wp2_with fail
        go_meet
        case rel =>
          rw [← HX.out]
          exact HV.out
  case rest =>
  have HO5 := hcut
  clear hcut HO4
  have hul3 := encU_len r3
  have hil4 := ints_len y4 12
  obtain ⟨bs, hbs⟩ : ∃ bs, [] ++ encU r1 ++ (y2.take 16).flatMap encI ++ encU r3 ++ (y4.take 12).flatMap encI = bs := ⟨_, rfl⟩
  have hbl : bs.length ≤ 400 := by rw [← hbs]; simp only [List.length_append, List.length_nil]; omega
  have HB8 := Lib.hid (show ∀ x ∈ bs, B8 x from by
    rw [← hbs]
    intro x hx
    simp only [List.nil_append, List.mem_append] at hx
    rcases hx with ((hx | hx) | hx) | hx
    · exact encU_b8 (by omega) x hx
    · exact ints_b8 _ (fun x hx => H2.out.2 x (List.mem_of_mem_take hx)) x hx
    · exact encU_b8 (by omega) x hx
    · exact ints_b8 _ (fun x hx => H4.out.2 x (List.mem_of_mem_take hx)) x hx)
  rw [hbs] at HO5
  clear hbs hul hil hul3 hil4 H2 H4
  go_upto_region 13 with (first
    | (go_at_call 36; refine (HF.out _ HO5.out.2).mono ?_; rintro e w6 ⟨A6, n6, c6, rfl, m1, m2, _, m4⟩; have H6 := Lib.hid (And.intro m1 (And.intro m2 m4)); clear m1 m2 m4)
    | (go_at_call 42; refine (out_done w.heap.size w.heap.size bs w6 (HO5.out.1.below H6.out.2.2) (by omega)).mono ?_; rintro e w7 ⟨A7, n7, c7, rfl, m1, m2, _, m4⟩; have H7 := Lib.hid (And.intro m1 (And.intro m2 m4)); clear m1 m2 m4))
  obtain ⟨W8, hW8⟩ : ∃ W, w7.alloc (.cells #[.slice A6 n6 c6, .slice A7 n7 c7] 60) = W := ⟨_, rfl⟩
  rw [hW8]
  have hb8 : Below w7.heap.size w7 W8 := hW8 ▸ one_box w7 _
  have hs8 : W8.heap.size = w7.heap.size + 1 := by rw [← hW8]; simp
  have k8 : W8.heap[w7.heap.size]? = some (.cells #[.slice A6 n6 c6, .slice A7 n7 c7] 60 (0, 0)) := by rw [← hW8]; exact World.alloc_heap_new w7 _
  obtain ⟨g8, hg8⟩ : ∃ g, w7.heap.size = g := ⟨_, rfl⟩
  have b67 := H7.out.2.2
  have b68 : Below w6.heap.size w6 W8 := b67.trans (hb8.mono b67.size)
  have HALL := Lib.hid (show ∀ k : Nat, k < 2 → ∃ (A : Option Addr) (n c : Nat) (zs : List Int), W8.cell? ⟨g8, k, none⟩ = some (.slice A n c) ∧ Lst 5 .u8 W8.heap.size W8 A n c zs ∧ n ≤ 400 ∧ zs.length = n ∧ ∀ x ∈ zs, B8 x from by
    rw [← hg8]
    intro k hk
    match k, hk with
    | 0, _ => exact ⟨A6, n6, c6, _, cell_of_row W8 _ 0 _ _ (0, 0) k8, (H6.out.2.1.below b68).more b68.size, (by have := H6.out.1; have h2 := List.length_take_le 80 (z0.take len0); have h3 : (Int.toNat 80) = 80 := rfl; rw [h3] at this; omega), H6.out.1, H80.out⟩
    | 1, _ => exact ⟨A7, n7, c7, bs, cell_of_row W8 _ 1 _ _ (0, 0) k8, (H7.out.2.1.below hb8).more hb8.size, (by have := H7.out.1; omega), H7.out.1, HB8.out⟩)
  have HB := Lib.hid (HO5.out.2.trans ((H6.out.2.2.trans (b68.mono H6.out.2.2.size)).mono HO5.out.2.size))
  have hgl : g8 < W8.heap.size := by omega
  rw [hg8] at hs8
  rw [hg8]
  clear hW8 hb8 k8 b67 b68 H6 H7 HO5 HF H80 HB8 hg8
  go_upto_block 4 with (fail)
  go_wp2_with fail
  go_loopw [15] (fun i V => ∃ k : Nat, k ≤ 2 ∧ i = .int .i64 (k : Int) ∧ Hid (Below W8.heap.size W8 V)) (fun i _ => 2 - (intOf i).toNat)
  case atStart => exact ⟨0, by omega, rfl, Below.refl _ _⟩
  case round =>
    obtain ⟨k, hk, rfl, HV⟩ := hrel
    by_cases hin : k < 2
    · have dk : decide (k < 2) = true := decide_eq_true hin
      have dk2 : decide ((k : Int) < 2) = true := decide_eq_true (by omega)
      obtain ⟨A, n, c, zs, hcl, hz, hn4, hzl, hzb⟩ := HALL.out k hin
      have hzr := hz.below HV.out
      have hcr := (HV.out.cell (p := ⟨g8, k, none⟩) hgl).trans hcl
      have HDP := Lib.hid (decodeP_any wr hzr (by omega) hzb)
      have HZ := Lib.hid (And.intro hzr (And.intro hcl (And.intro hzl hzb)))
      have hwk : IntKind.i64.wrap (k : Int) = (k : Int) := IntWalk.i64_in _ (by omega)
      clear hzr hcl hz hzl hzb
      go_upto_region 17 with (go_at_call 37; refine HDP.out.mono ?_; clear HDP; rintro e w9 ⟨⟨E, ne, ce, P, na, ca, rfl, hT⟩, hb9⟩; have HT := Lib.hid (And.intro hT hb9); clear hT hb9)
      obtain ⟨W, hW⟩ : ∃ W, w9.alloc (.cells #[.slice E ne ce, .slice P na ca] 26) = W := ⟨_, rfl⟩
      rw [hW]
      have hbW : Below w9.heap.size w9 W := hW ▸ one_box w9 _
      have hsW : W.heap.size = w9.heap.size + 1 := by rw [← hW]; simp
      have kW : W.heap[w9.heap.size]? = some (.cells #[.slice E ne ce, .slice P na ca] 26 (0, 0)) := by rw [← hW]; exact World.alloc_heap_new w9 _
      have hTW := HT.out.1.keep hbW
      have hVW := HV.out.trans ((HT.out.2.trans (hbW.mono HT.out.2.size)).mono HV.out.size)
      have hzW := HZ.out.1.below ((HT.out.2.trans (hbW.mono HT.out.2.size)).mono HV.out.size)
      have hcW := (hVW.cell (p := ⟨g8, k, none⟩) hgl).trans HZ.out.2.1
      obtain ⟨gt, hgt⟩ : ∃ g, w9.heap.size = g := ⟨_, rfl⟩
      rw [hgt] at kW hsW
      rw [hgt]
      have HW := Lib.hid (And.intro hTW (And.intro hVW (And.intro hzW (And.intro hcW HZ.out.2.2))))
      have HKW := Lib.hid (fun (V : World) (hV : Below W.heap.size W V) => (row2 ((hV.block gt (by omega)).trans kW)).1)
      clear hcr hbW hW hTW hVW hzW hcW HT HZ hgt kW
      by_cases hx : (decP zs).2 = 0
      · obtain ⟨p1, p2, p3, p4, p5, p6⟩ := decP_good HW.out.2.2.2.2.2 hx
        have hT := HW.out.1
        rw [hx]
        obtain ⟨es, hes⟩ : ∃ es, (decP zs).1.1 = es := ⟨_, rfl⟩
        obtain ⟨l, hl⟩ : ∃ l, (decP zs).1.2 = l := ⟨_, rfl⟩
        rw [hes, hl] at p1 hT
        rw [hl] at p2 p4 p6
        rw [hes] at p3 p5
        have hl1 := hT.1.1
        have hl2 := hT.1.2
        have hzl := HW.out.2.2.2.2.1
        have HTI := Lib.hid (fun (V : World) (hV : Below W.heap.size W V) => TapeIs.tin (TapeIs.keep hT hV) (by omega) (by omega))
        have HE := Lib.hid (show ∀ V : World, Below W.heap.size W V → Calls Try.prog 33 #[.agg #[.slice E ne ce, .slice P na ca]] V (Mk 5 .u8 V zs) from fun V hV => by
          have := encodeP_any (ce := ce) (ca := ca) V (HTI.out V hV) (by omega) (by omega) p3 p4
          rw [p2, ← p1] at this
          exact this)
        have HP2 := Lib.hid p2
        have HZ := Lib.hid (And.intro HW.out.2.2.1 HW.out.2.2.2.1)
        have HVW := Lib.hid HW.out.2.1
        clear p1 p2 p3 p4 hT hes hl hx HW
        obtain ⟨u0, u1⟩ := HKW.out W (Below.refl _ _)
        have hcw := HZ.out.2
        have hki : (k : Int) < 2 := by omega
        go_upto_region 20 with (fail)
        go_region_law (first
          | (go_simp; go_at_call 33; refine (HE.out _ (Below.refl _ _).drew).mono ?_; clear HE; rintro e w10 ⟨B, m, d, rfl, m1, m2, _, m4⟩
             obtain rfl : n = m := hzl.symm.trans m1
             have b10 : Below W.heap.size W w10 := (Below.refl _ _).drew.trans m4
             obtain ⟨v0, v1⟩ := HKW.out w10 b10
             have hcv := (b10.cell (p := ⟨g8, k, none⟩) (by have := HVW.out.size; show g8 < _; omega)).trans HZ.out.2
             have HS := Lib.hid (sameBytes_any B A n n d c zs zs w10 m2.ints ((HZ.out.1.below (b10.mono HVW.out.size)).ints.more (Nat.le_trans HVW.out.size b10.size)) (by omega))
             have B10 := Lib.hid b10
             clear b10 m1 m2 m4)
          | (go_simp; go_at_call 32; refine HS.out.mono ?_; clear HS; rintro e w11 ⟨rfl, b11⟩
             rw [show decide (zs = zs) = true from decide_eq_true rfl]
             have B11 := Lib.hid (B10.out.trans (b11.mono B10.out.size))
             obtain ⟨x0, x1⟩ := HKW.out w11 B11.out
             have HN := Lib.hid (normal_any (ce := ce) (ca := ca) w11 (HTI.out w11 B11.out))
             clear b11)
          | (go_simp; go_at_call 17; refine HN.out.mono ?_; clear HN; rintro e w12 ⟨⟨v, rfl, E2, ne2, c2, P2, na2, d2, rfl, hT2⟩, b12⟩
             rw [HP2.out] at hT2
             have B12 := Lib.hid (B11.out.trans (b12.mono B11.out.size))
             obtain ⟨y0, y1⟩ := HKW.out w12 B12.out
             have i1 := (HTI.out w12 B12.out)
             have hr1 := hT2.1.1
             have hr2 := hT2.1.2
             have i2 := TapeIs.tin hT2 (by omega) (by omega)
             have HSm := Lib.hid (refSame_any (c1 := c2) (d1 := d2) (c2 := ce) (d2 := ca) w12 i2.ev i2.an i1.ev i1.an (by omega) (by omega))
             rw [decide_eq_true (⟨rfl, rfl⟩ : es = es ∧ l = l)] at HSm
             clear b12 i1 i2 hT2)
          | (go_simp; go_at_call 16; refine HSm.out.mono ?_; clear HSm; rintro e w13 ⟨rfl, b13⟩
             have B13 := Lib.hid (HVW.out.trans ((B12.out.trans (b13.mono B12.out.size)).mono HVW.out.size))
             clear b13))
        all_goals
          go_wp2_with fail
          go_roundw
          case rel => exact ⟨k + 1, by omega, by go_num, B13⟩
          case measure => simp [intOf]; omega
      · have h1 := decP_bad hx
        have hxb : ((decP zs).2 != 0) = true := by rw [bne_iff_ne]; exact hx
        obtain ⟨x, hxx⟩ : ∃ x, (decP zs).2 = x := ⟨_, rfl⟩
        rw [hxx] at hxb ⊢
        obtain rfl : 0 = ne := by have := HW.out.1.1.1; rw [h1] at this; exact this
        obtain rfl : 0 = na := by have := HW.out.1.1.2; rw [h1] at this; exact this
        obtain ⟨u0, u1⟩ := HKW.out W (Below.refl _ _)
        clear h1 hx hxx
        go_wp2_with fail
        go_roundw
        case rel => exact ⟨k + 1, by omega, by go_num, HW.out.2.1⟩
        case measure => simp [intOf]; omega
    · have dk : decide (k < 2) = false := decide_eq_false hin
      have dk2 : decide ((k : Int) < 2) = false := decide_eq_false (by omega)
      obtain rfl : k = 2 := by omega
      have HL := Lib.hid (lives_any wr)
      go_wp2_with fail
      refine HL.out.mono ?_
      rintro e w9 ⟨rfl, b9⟩
      have B9 := Lib.hid (HB.out.trans ((HV.out.trans (b9.mono HV.out.size)).mono HB.out.size))
      clear b9
      go_wp2_with fail
      go_ret
      exact ⟨rfl, B9.out⟩
end Go.Proofs.Ytpjjckfgnflmlaa.LawTapeCanonical

namespace Go.Proofs.Ytpjjckfgnflmlaa.tapeCanonical
open Go.ChangeShapes Go.WideShapes Go.ChangeAt Go.RowKit
open Go.ChangeMaps (open_string shut_string)
set_option linter.unusedVariables false

theorem own : ownKnob Try.prog.godebug = none := by kernel_rfl
theorem laidOut : laidOutB Try.prog = true := by kernel_rfl

/-- WHAT THE WALK IS TOLD OF A SLICE OF INTEGERS THAT CAME IN: it is nil; or it leads to a row of 'cap' cells, the numbers 'zs' (the first 'len' are its elements, the rest its spare room), each fitting its kind. -/
def IsRow (k : IntKind) (w : World) (a : Option Addr) (len cap : Nat) (zs : List Int) : Prop :=
  (a = none ∧ len = 0 ∧ cap = 0 ∧ zs = []) ∨
  ∃ x, a = some x ∧ len ≤ cap ∧ cap ≤ maxLen ∧ zs.length = cap ∧ (∀ i, i < zs.length → w.cell? (x.add i) = some (.int k (zs.getD i 0))) ∧ ∀ n ∈ zs, (Lit.int k n).wf = true

/-! ### STEP 1: THE WALK: the Go text returns true, AND WRITES NOTHING THAT WAS THERE: 'Below w.heap.size w w'' (Derived/Below.lean: '.refl', '.alloc', '.drew', '.setCell' at a new block, '.trans'). Open each 'IsRow' by 'rcases' AHEAD of 'go_enter'; part every test ahead of the walk. -/
theorem walk (a0 : Option Addr) (len0 cap0 : Nat) (z0 : List Int) (a1 : Int) (a2 : Option Addr) (len2 cap2 : Nat) (z2 : List Int) (a3 : Int) (a4 : Option Addr) (len4 cap4 : Nat) (z4 : List Int) (w : World) (w0 : IsRow .u8 w a0 len0 cap0 z0) (w1 : (Lit.int .i64 a1).wf = true) (w2 : IsRow .i64 w a2 len2 cap2 z2) (w3 : (Lit.int .i64 a3).wf = true) (w4 : IsRow .i64 w a4 len4 cap4 z4) :
    Calls Try.prog 9 #[.slice a0 len0 cap0, .int .i64 a1, .slice a2 len2 cap2, .int .i64 a3, .slice a4 len4 cap4] w fun e w' => e = .returned (.bool true) ∧ Below w.heap.size w w' := by
  exact LawTapeCanonical.walk a0 len0 cap0 z0 a1 a2 len2 cap2 z2 a3 a4 len4 cap4 z4 w w0 w1 w2 w3 w4

/-! ### THE ROW's STEP: WRITTEN OUT: LEAVE IT -/
set_option maxRecDepth 100000 in
theorem lifted (os : Os) (started : os.Started) (H : Type) (enc : TypeId × Value → H) :
    ReturnsInHanded {} Try.checked os 9 .any (Rows.tapeCanonicalSpec.pre6 enc Try.prog Try.f9 Rows.tapeCanonicalRow.domain false) (Rows.tapeCanonicalSpec.post enc Try.prog Try.f9 false true false false) := by
  refine returnsInHanded_of_change (C := Try.checked) own started (by kernel_rfl) Try.func9
    (ChangeSpec.witness6 (enc := enc) (C := Try.checked) false ⟨#[], #[.slice none 0 0, .int .i64 0, .slice none 0 0, .int .i64 0, .slice none 0 0], []⟩ 8 (by kernel_rfl) (by kernel_rfl) (by kernel_rfl) (by kernel_rfl)) ?_
  intro W base args ds gs before hval0 hW hcnd _
  have hval : ∀ (j : Nat) t v, Try.f9.params[j]? = some t → args[j]? = some v → Value.okWide Try.prog W .any base t v := hval0
  have hW' := hW
  obtain ⟨p, q, hA0, hV, rfl, hfz, hnd⟩ := hW
  have hA : DataW.TrodAll enc Try.prog W 0 (fun _ => true) true Try.f9.params.toList args.toList ds p := hA0
  rw [Try.params9] at hA hval
  obtain ⟨v0, vs0, d0, ds0, p0, q0, hargs, rfl, rfl, h0, r0⟩ := trodAll_cons hA
  obtain ⟨v1, vs1, d1, ds1, p1, q1, rfl, rfl, rfl, h1, r1⟩ := trodAll_cons r0
  obtain ⟨v2, vs2, d2, ds2, p2, q2, rfl, rfl, rfl, h2, r2⟩ := trodAll_cons r1
  obtain ⟨v3, vs3, d3, ds3, p3, q3, rfl, rfl, rfl, h3, r3⟩ := trodAll_cons r2
  obtain ⟨v4, vs4, d4, ds4, p4, q4, rfl, rfl, rfl, h4, r4⟩ := trodAll_cons r3
  obtain ⟨rfl, rfl, rfl⟩ := trodAll_nil r4
  obtain rfl : args = #[v0, v1, v2, v3, v4] := by cases args; simp_all
  obtain ⟨rfl, rfl⟩ := trodVars_none hV
  obtain ⟨a0, len0, cap0, rfl⟩ := okWide_slice Try.underlying60 (hval 0 60 v0 rfl rfl)
  have k0 := h0
  have lt0 : ∀ x ∈ p0, x.block < W.heap.size := by obtain ⟨m, hm⟩ := k0; exact DataW.trod_lt m _ _ _ hm
  obtain ⟨z0, w0⟩ : ∃ zs, IsRow .u8 W a0 len0 cap0 zs := by
    obtain ⟨fuel, hf⟩ := h0
    rcases open_ints Try.underlying60 Try.underlying5 (by kernel_rfl) hf with ⟨hcs, _⟩ | ⟨x, l, c, zs, hcs, _, hl, hm, hz, _, hcell, hwz⟩
    · simp [Value.cells] at hcs
      obtain ⟨rfl, rfl, rfl⟩ := hcs
      exact ⟨[], .inl ⟨rfl, rfl, rfl, rfl⟩⟩
    · simp [Value.cells] at hcs
      obtain ⟨rfl, rfl, rfl⟩ := hcs
      exact ⟨zs, .inr ⟨_, rfl, hl, hm, by simpa using hz, hcell, hwz⟩⟩
  obtain ⟨a1, rfl, rfl, rfl, w1⟩ := open_int Try.underlying3 (hval 1 3 v1 rfl rfl) h1
  obtain ⟨a2, len2, cap2, rfl⟩ := okWide_slice Try.underlying22 (hval 2 22 v2 rfl rfl)
  have k2 := h2
  have lt2 : ∀ x ∈ p2, x.block < W.heap.size := by obtain ⟨m, hm⟩ := k2; exact DataW.trod_lt m _ _ _ hm
  obtain ⟨z2, w2⟩ : ∃ zs, IsRow .i64 W a2 len2 cap2 zs := by
    obtain ⟨fuel, hf⟩ := h2
    rcases open_ints Try.underlying22 Try.underlying3 (by kernel_rfl) hf with ⟨hcs, _⟩ | ⟨x, l, c, zs, hcs, _, hl, hm, hz, _, hcell, hwz⟩
    · simp [Value.cells] at hcs
      obtain ⟨rfl, rfl, rfl⟩ := hcs
      exact ⟨[], .inl ⟨rfl, rfl, rfl, rfl⟩⟩
    · simp [Value.cells] at hcs
      obtain ⟨rfl, rfl, rfl⟩ := hcs
      exact ⟨zs, .inr ⟨_, rfl, hl, hm, by simpa using hz, hcell, hwz⟩⟩
  obtain ⟨a3, rfl, rfl, rfl, w3⟩ := open_int Try.underlying3 (hval 3 3 v3 rfl rfl) h3
  obtain ⟨a4, len4, cap4, rfl⟩ := okWide_slice Try.underlying22 (hval 4 22 v4 rfl rfl)
  have k4 := h4
  have lt4 : ∀ x ∈ p4, x.block < W.heap.size := by obtain ⟨m, hm⟩ := k4; exact DataW.trod_lt m _ _ _ hm
  obtain ⟨z4, w4⟩ : ∃ zs, IsRow .i64 W a4 len4 cap4 zs := by
    obtain ⟨fuel, hf⟩ := h4
    rcases open_ints Try.underlying22 Try.underlying3 (by kernel_rfl) hf with ⟨hcs, _⟩ | ⟨x, l, c, zs, hcs, _, hl, hm, hz, _, hcell, hwz⟩
    · simp [Value.cells] at hcs
      obtain ⟨rfl, rfl, rfl⟩ := hcs
      exact ⟨[], .inl ⟨rfl, rfl, rfl, rfl⟩⟩
    · simp [Value.cells] at hcs
      obtain ⟨rfl, rfl, rfl⟩ := hcs
      exact ⟨zs, .inr ⟨_, rfl, hl, hm, by simpa using hz, hcell, hwz⟩⟩
  clear hA0 hval0
  refine (walk a0 len0 cap0 z0 a1 a2 len2 cap2 z2 a3 a4 len4 cap4 z4 W w0 w1 w2 w3 w4).mono fun e W' ⟨he, bel⟩ => ?_
  subst he
  exact ⟨_, rfl, _, _, _, [], _, [], hW', trodAll_mk1 (shut_bool Try.underlying4 _), (trodAll_cons_mk (Below.trod laidOut (by kernel_rfl) (of_decide_eq_true (by kernel_rfl)) k0 bel lt0) (trodAll_cons_mk (shut_int Try.underlying3 w1) (trodAll_cons_mk (Below.trod laidOut (by kernel_rfl) (of_decide_eq_true (by kernel_rfl)) k2 bel lt2) (trodAll_cons_mk (shut_int Try.underlying3 w3) (trodAll_cons_mk (Below.trod laidOut (by kernel_rfl) (of_decide_eq_true (by kernel_rfl)) k4 bel lt4) trodAll_mk0))))), rfl, bel.frame _, fun h => by cases h⟩

theorem over : Rows.tapeCanonicalRow.holds Try.pinned (OpenSpec.ofChange Rows.tapeCanonicalSpec) :=
  OpenClaim.holds_of_wide 9 Try.f9 rfl rfl rfl rfl rfl rfl rfl ⟨rfl, rfl, rfl, rfl, rfl⟩ rfl rfl rfl rfl rfl (by kernel_rfl) Try.func9 (by kernel_rfl)
    (of_decide_eq_true (by kernel_rfl)) (by unfold Func.isWrapper; first | (rw [if_pos (by decide +kernel)]; kernel_rfl) | (rw [if_neg (by decide +kernel)]; exact ⟨rfl, rfl⟩))
    (fun os started H enc _ => lifted os started H enc)

/-- ████ THE STATEMENT ████ -/
theorem proved : Rows.TapeCanonicalSaid := over
end Go.Proofs.Ytpjjckfgnflmlaa.tapeCanonical
