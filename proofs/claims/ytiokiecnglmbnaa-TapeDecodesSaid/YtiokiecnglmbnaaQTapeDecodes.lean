/-
  The walk of the law TapeDecodes. No condition beyond the arguments' readings.
  The statement TapeDecodes: for every input the law answers true and leaves its arguments as they were. No condition is added. The frame of this proof was written by the guide's program, the walk is the text LawTapeDecodes's.
-/
import Derived.Test.YtiokiecnglmbnaaK51
import Derived.Test.YtiokiecnglmbnaaK53
import Derived.Test.YtiokiecnglmbnaaK27
import Derived.Test.YtiokiecnglmbnaaK24
import Derived.Test.YtiokiecnglmbnaaK3
import Derived.Test.YtiokiecnglmbnaaK4
import Derived.Test.YtiokiecnglmbnaaK15
import Derived.Deep.CutBlock
import Derived.Test.YtiokiecnglmbnaaRows
import Derived.WalkKit
import Derived.ProofKit
import Derived.OpenShut
import Derived.ShutString
import Derived.ChangeOld
import Derived.Below

namespace Go.Proofs.Ytiokiecnglmbnaa.LawTapeDecodes
open Go Go.RowKit Go.Proofs Go.Proofs.Ytiokiecnglmbnaa
attribute [local go_sem] Oper.semAt_some

theorem rdEs_le : ∀ (m : Nat) (acc : List NM.Ev) (s : St), (rdEs m acc s).1.length ≤ acc.length + m
  | 0, acc, s => by rw [rdEs]; exact Nat.le_refl _
  | m + 1, acc, .bad e => by rw [rdEs_bad]; exact Nat.le_add_right _ _
  | m + 1, acc, .ok r => by
    rw [rdEs]
    have := rdEs_le m (acc ++ [(rdE (.ok r)).1]) (rdE (.ok r)).2
    rw [List.length_append, List.length_singleton] at this
    omega
theorem rdAs_le : ∀ (m : Nat) (acc : List TP.An) (s : St), (rdAs m acc s).1.length ≤ acc.length + m
  | 0, acc, s => by rw [rdAs]; exact Nat.le_refl _
  | m + 1, acc, .bad e => by rw [rdAs_bad]; exact Nat.le_add_right _ _
  | m + 1, acc, .ok r => by
    rw [rdAs]
    have := rdAs_le m (acc ++ [(rdA (.ok r)).1]) (chkA acc (rdA (.ok r)).1 (rdA (.ok r)).2)
    rw [List.length_append, List.length_singleton] at this
    omega
theorem rdC_two {most : Int} {s : St} : (∃ e, (rdC most s).2 = .bad e) ∨ (rdC most s).1 ≤ most := by
  unfold rdC
  by_cases h : most < (rdU s).1
  · simp only [if_pos h]
    cases (rdU s).2 with
    | ok r => exact .inl ⟨2, rfl⟩
    | bad e => exact .inl ⟨e, rfl⟩
  · exact .inr (by simp only; omega)
theorem decP_len (zs : List Int) : (decP zs).1.1.length ≤ 5000 ∧ (decP zs).1.2.length ≤ 10000 := by
  have h1 : (decT zs).1.1.length ≤ 5000 := by
    show (rdEs (rdC 5000 (.ok zs)).1.toNat [] (rdC 5000 (.ok zs)).2).1.length ≤ 5000
    rcases rdC_two (most := 5000) (s := .ok zs) with ⟨e, h⟩ | h
    · rw [h, rdEs_bad]; simp
    · have := rdEs_le (rdC 5000 (.ok zs)).1.toNat [] (rdC 5000 (.ok zs)).2
      simp only [List.length_nil] at this
      omega
  have h2 : (decT zs).1.2.length ≤ 10000 := by
    show (rdAs (rdC 10000 _).1.toNat [] (rdC 10000 _).2).1.length ≤ 10000
    generalize (rdEs (rdC 5000 (.ok zs)).1.toNat [] (rdC 5000 (.ok zs)).2).2 = s
    rcases rdC_two (most := 10000) (s := s) with ⟨e, h⟩ | h
    · rw [h, rdAs_bad]; simp
    · have := rdAs_le (rdC 10000 s).1.toNat [] (rdC 10000 s).2
      simp only [List.length_nil] at this
      omega
  unfold decP
  split
  · exact ⟨h1, h2⟩
  · exact ⟨by simp, by simp⟩
theorem back_by {V : World} {gb m cb k : Nat} {bs : List Int} {A : Option Addr} (h : RS.Sl byE V (some ⟨gb, 0, none⟩) m cb bs) (hA : (if cb = k then (some ⟨gb, 0, none⟩ : Option Addr) else some ⟨gb, k, none⟩) = A) (hk : k ≤ m) : RgX.Src V A (m - k) (cb - k) (RS.flat byE (bs.drop k)) := by
  have := h.back_if k hk
  rw [show k * byE.k = k from Nat.mul_one k, hA] at this
  exact this
theorem b8_app2 {bs : List Int} (h : ∀ x ∈ bs, B8 x) (a b : Nat) : ∀ x ∈ bs.take a ++ bs.drop b, B8 x := fun x hx => by
  rcases List.mem_append.1 hx with hx | hx
  · exact h x (List.mem_of_mem_take hx)
  · exact h x (List.mem_of_mem_drop hx)
theorem b8_app3 {bs : List Int} {c : Int} (h : ∀ x ∈ bs, B8 x) (hc : B8 c) (a b : Nat) : ∀ x ∈ bs.take a ++ [c] ++ bs.drop b, B8 x := fun x hx => by
  rcases List.mem_append.1 hx with hx | hx
  · rcases List.mem_append.1 hx with hx | hx
    · exact h x (List.mem_of_mem_take hx)
    · rw [List.mem_singleton.1 hx]
      exact hc
  · exact h x (List.mem_of_mem_drop hx)
theorem encU_ne1 (n : Int) : 1 ≤ (encU n).length := by
  unfold encU encF
  split <;> simp
set_option maxHeartbeats 16000000 in
set_option maxRecDepth 100000 in
theorem walk (a0 : Option Addr) (len0 cap0 : Nat) (z0 : List Int) (a1 : Option Addr) (len1 cap1 : Nat) (z1 : List Int) (a2 : Option Addr) (len2 cap2 : Nat) (z2 : List Int) (a3 a4 a5 : Int) (w : World) (w0 : Row .u8 w a0 len0 cap0 z0) (w1 : Row .i64 w a1 len1 cap1 z1) (w2 : Row .i64 w a2 len2 cap2 z2) (w3 : (Lit.int .i64 a3).wf = true) (w4 : (Lit.int .i64 a4).wf = true) (w5 : (Lit.int .u8 a5).wf = true) :
    Calls Try.prog 7 #[.slice a0 len0 cap0, .slice a1 len1 cap1, .slice a2 len2 cap2, .int .i64 a3, .int .i64 a4, .int .u8 a5] w fun e w' => e = .returned (.bool true) ∧ Below w.heap.size w w' := by
  have hb3 := bounds_i64 w3
  have hb4 := bounds_i64 w4
  have hb5 : B8 a5 := b8_of (l := [a5]) (fun n hn => by rw [List.mem_singleton.1 hn]; exact w5) a5 (List.mem_singleton.2 rfl)
  have i1 := w1.ints.1
  have j1 := i64_of w1.ints.2.2.2
  have i2 := w2.ints.1
  have j2 := i64_of w2.ints.2.2.2
  have HF := Lib.hid (fun u (hu : Below w.heap.size w u) => few_any a0 len0 cap0 _ 80 (by decide) (by decide) u (w0.slc.below hu))
  have H80 := Lib.hid (show ∀ x ∈ (z0.take len0).take 80, B8 x from fun x hx => b8_of w0.ints.2.2.2 x (List.mem_of_mem_take hx))
  have hT := refTape_any (cap0 := cap1) (cap1 := cap2) w i1 j1 i2 j2
  have F0 := Lib.hid (show (TP.evsG (z1.take len1)).length ≤ 10 ∧ (TP.ansG (z2.take len2)).length ≤ 10 ∧ (∀ e ∈ TP.evsG (z1.take len1), ∀ y ∈ NM.evL e, I64 y) ∧ (∀ a ∈ TP.ansG (z2.take len2), ∀ y ∈ anL a, I64 y) from ⟨by unfold TP.evsG; rw [List.length_map]; exact Nat.le_trans (List.length_take_le _ _) (by decide), by unfold TP.ansG; rw [List.length_map]; exact List.length_take_le _ _, evs64 _, ans64 _⟩)
  obtain ⟨e0, he0⟩ : ∃ x, TP.evsG (z1.take len1) = x := ⟨_, rfl⟩
  obtain ⟨l0, hl0⟩ : ∃ x, TP.ansG (z2.take len2) = x := ⟨_, rfl⟩
  rw [he0, hl0] at hT F0
  have HT := Lib.hid hT
  obtain ⟨bs, hbs⟩ : ∃ x, encT e0 (TP.normA l0) = x := ⟨_, rfl⟩
  have hnl : (TP.normA l0).length ≤ 10 := by have := TP.norm_len l0; have := F0.out.2.1; omega
  have hbl : bs.length ≤ 2000 := by rw [← hbs]; exact encT_le F0.out.1 hnl
  have hb1 : 1 ≤ bs.length := by
    rw [← hbs]
    unfold encT
    have := encU_ne1 (e0.length : Int)
    simp only [List.length_append]
    omega
  have HB8 := Lib.hid (show ∀ x ∈ bs, B8 x from fun x hx => encT_b8 F0.out.2.2.1 (normA_i64 F0.out.2.2.2) x (by rw [hbs]; exact hx))
  have HBS := Lib.hid hbs
  have hf0 := F0.out.1
  have hf1 := F0.out.2.1
  have hh2 := (around_in a4 3 (by decide)).2
  obtain ⟨hw, hhw⟩ := Int.eq_ofNat_of_zero_le (around_in a4 3 (by decide)).1
  have HA4 := Lib.hid (around_any a4 3 ⟨by omega, by omega⟩ (by decide) (by decide))
  rw [hhw] at HA4 hh2
  have hk2 := (around_in a3 ((bs.length : Int) + 1) (by omega)).2
  obtain ⟨k, hk⟩ := Int.eq_ofNat_of_zero_le (around_in a3 ((bs.length : Int) + 1) (by omega)).1
  have HA3 := Lib.hid (around_any a3 ((bs.length : Int) + 1) ⟨by omega, by omega⟩ (by omega) (by omega))
  rw [hk] at HA3 hk2
  obtain ⟨nb, hnb⟩ : ∃ n, bs.length = n := ⟨_, rfl⟩
  rw [hnb] at HA3 hk2 hbl hb1
  obtain ⟨ib, hib, hzb, hsb, hbb⟩ := info_splitI info_byte
  have hwn : IntKind.i64.wrap ((nb : Int) + 1) = (nb : Int) + 1 := IntWalk.i64_in _ (by omega)
  have hkn : k ≤ nb := by omega
  clear w0 w1 w2 w3 w4 w5 i1 j1 i2 j2 hT he0 hl0 hbs hb3 hb4 hhw hk
  go_enter Try.func7, Try.ntmps7
  go_upto_region 2 with (first
    | (go_at_call 12; refine HT.out.mono ?_; clear HT; rintro e v1 ⟨⟨v, rfl, E, ne, ce, A, na, ca, rfl, ht⟩, hb⟩
       have HTI := Lib.hid (show TIn v1 E ne ce A na e0 l0 from TapeIs.tin ht (by have := ht.1.1; omega) (by have := ht.1.2; omega))
       have HV1 := Lib.hid hb
       clear ht hb)
    | (go_at_call 34; refine (refEncode_any (ce := ce) (ca := ca) v1 HTI.out (by have := HTI.out.ev.1; omega) (by have := HTI.out.an.1; omega) F0.out.2.2.1 F0.out.2.2.2).mono ?_; rintro e v2 ⟨B, m, cb, rfl, m1, m2, m3, m4⟩
       rw [HBS.out] at m1 m2 m3
       obtain rfl : m = nb := m1.symm.trans hnb
       have HV2 := Lib.hid (And.intro m2 (And.intro m3 m4))
       clear m1 m2 m3 m4))
  obtain ⟨gb, hgb⟩ : ∃ g, B = some ⟨g, 0, none⟩ := by
    obtain ⟨g, cap, hv, _, _⟩ := HV2.out.2.1.form (by omega)
    injection hv with hB
    exact ⟨g, hB⟩
  subst hgb
  have HSL := Lib.hid (fun (V : World) (hV : Below v2.heap.size v2 V) => (by_sl HV2.out.2.1 hnb).keep hV)
  have HBV := Lib.hid (HV1.out.trans (HV2.out.2.2.mono HV1.out.size))
  have hmc := (by_sl HV2.out.2.1 hnb).le
  have hkc : (k : Int) ≤ (cb : Int) := by omega
  have hkn2 : (k : Int) ≤ (m : Int) := by omega
  have HLS := Lib.hid HV2.out.1
  have hcm := HV2.out.1.cap
  clear HV2 HTI HV1 F0 HBS
  go_upto_region 3 with (go_at_call 35; refine (HA3.out v2).mono ?_; clear HA3; rintro e v3 ⟨rfl, rfl⟩)
  go_upto_region 4 with (at_builtin; refine RgX.wpList_append_any rfl _ _ 60 rfl v2.heap.size 5 ib _ 1 1 Try.underlying60 hib hzb hsb hbb rfl (by decide) (.slice (some ⟨v2.heap.size, 0, none⟩) 0 0) 0 [] rfl (World.ownsRow_made v2 #[] 0 (Nat.le_refl _) (by simp [maxLen]) rfl) (some ⟨gb, 0, none⟩) k cb (RS.flat byE (bs.take k)) rfl (by rw [RS.flat_len, List.length_take, hnb]; show min k m * 1 = k * 1; congr 1; omega) ((HSL.out _ (one_box v2 _)).front k hkn) (RS.flat_ones _) (by simp only [maxLen]; omega) (by omega) (by simp) ?_; intro B3 c3 v3 own3 gr3)
  rw [Nat.zero_add, List.nil_append, flat_by] at own3
  have hb23 : Below v2.heap.size v2 v3 := ((Below.refl v2.heap.size v2).alloc (Nat.le_refl _) _).grown gr3 (by simp) (fun b e => by have e2 : some v2.heap.size = some b := e; injection e2 with e2; omega)
  have hlo3 : ∀ b, (Value.slice B3 k c3).ownBlock = some b → b < v3.heap.size := fun b hb => (own3.lt b hb).2
  have HO3 := Lib.hid own3
  have HV3 := Lib.hid hb23
  clear own3 gr3 hb23
  go_upto_block 0 with (go_at_call 35; refine (HA4.out v3).mono ?_; clear HA4; rintro e v4 ⟨rfl, rfl⟩)
  obtain ⟨A8, hA8⟩ : ∃ A, (if cb = k then (some ⟨gb, 0, none⟩ : Option Addr) else some ⟨gb, k, none⟩) = A := ⟨_, rfl⟩
  have HA8 := Lib.hid hA8
  clear hA8
  have hs3 := HV3.out.size
  obtain ⟨q, hqe⟩ : ∃ q, q = min (k + 1) m := ⟨_, rfl⟩
  have hqn : q ≤ m := by omega
  have hqn2 : (q : Int) ≤ (m : Int) := by omega
  have hq : min ((k : Int) + 1) (m : Int) = (q : Int) := by omega
  have hwk : IntKind.i64.wrap ((k : Int) + 1) = (k : Int) + 1 := IntWalk.i64_in _ (by omega)
  obtain ⟨A9, hA9⟩ : ∃ A, (if cb = q then (some ⟨gb, 0, none⟩ : Option Addr) else some ⟨gb, q, none⟩) = A := ⟨_, rfl⟩
  have HA9 := Lib.hid hA9
  clear hA9 hqe
  go_cut [15] from 38 (fun s15 V => ∃ (B : Option Addr) (n c : Nat) (ts : List Int), s15 = .slice B n c ∧ n ≤ 4001 ∧ Hid (V.ownsRow v2.heap.size 5 1 (.slice B n c) n (ts.map (Value.int .u8))) ∧ Hid (∀ x ∈ ts, B8 x) ∧ Hid (Below v2.heap.size v2 V))
  case first =>
    have h3w : hw = 0 ∨ hw = 1 ∨ hw = 2 := by omega
    rcases h3w with rfl | rfl | rfl
    · go_upto_region 7 with (fail)
      obtain ⟨v6, hv6⟩ : ∃ V, V = v3 := ⟨_, rfl⟩
      subst hv6
      refine RgX.own2 7 3 (fun i => ( 52 + i)) (fun h_ ix_ => match ix_ with | 0 => .v (.slice B3 k c3) | 1 => .v (.int .u8 a5) | 2 => .rownB (Value.slice B3 k c3).ownBlock #[.int .u8 a5] 5 1 | 3 => .any | 4 => .v (.slice (some ⟨gb, 0, none⟩) m cb) | 5 => .v (.int .i64 (k : Int)) | 6 => .v (.slice A8 (m - k) (cb - k)) | _ => .any) _ _ _ (.slice B3 k c3) (ByOwn v2 (.slice B3 k c3) k ((bs.take k).map (Value.int .u8)) [.int .u8 a5]) (by kernel_rfl) rfl rfl (by decide) rfl rfl (by kernel_rfl) (by kernel_rfl) (by kernel_rfl) (by kernel_rfl) (fun i hi => by show ( 52 + i) < 106; (repeat' split) <;> omega) (fun i j hi hj => by show ( 52 + i) = ( 52 + j) → i = j; (repeat' split) <;> omega) (⟨⟨HV3.out, hlo3⟩, by rw [if_neg (by decide)]; exact ⟨rfl, HO3.out⟩⟩) (ByOwn.keep) ?step ?app ?fin
      case step =>
        intro L_ A_ w3 y_ ix op_ hi hnA hO hI ho hdep
        have hcase : ix = 0 ∨ ix = 1 ∨ ix = 2 ∨ ix = 4 ∨ ix = 5 ∨ ix = 6 := by omega
        obtain ⟨b_, hO⟩ := hO
        have hh : Below v2.heap.size v2 w3 := hO.1.1
        have hlo4 := hO.1.2
        clear hO
        clear hi hnA
        rcases hcase with rfl | rfl | rfl | rfl | rfl | rfl
        · simp only [List.getElem?_toArray, List.getElem?_cons_zero, Option.some.injEq] at ho
          subst ho
          refine ⟨rfl, ?_⟩
          have e15 : A_.tmps[15]?.getD undef = .slice B3 k c3 := by rw [hI.low 15 (by decide)]; rfl
          clear hI hdep
          exact .run rfl (.slice B3 k c3) w3 (by simp [execOp, go_sem, Act.eval, e15]) (Below.refl _ _) rfl
        · simp only [List.getElem?_toArray, List.getElem?_cons_succ, List.getElem?_cons_zero, Option.some.injEq] at ho
          subst ho
          refine ⟨rfl, ?_⟩
          have e5 : A_.tmps[5]?.getD undef = .int .u8 a5 := by rw [hI.low 5 (by decide)]; rfl
          clear hI hdep
          exact .run rfl (.int .u8 a5) w3 (by simp [execOp, go_sem, Act.eval, e5]) (Below.refl _ _) rfl
        · simp only [List.getElem?_toArray, List.getElem?_cons_succ, List.getElem?_cons_zero, Option.some.injEq] at ho
          subst ho
          refine ⟨rfl, ?_⟩
          have e53 : A_.tmps[53]?.getD undef = .int .u8 a5 := getD_of (hI.val_ (i := 1) rfl rfl (by decide) (hdep ⟨1, .data⟩ (by simp) rfl))
          clear hI hdep
          exact .run rfl (.slice (some ⟨w3.heap.size, 0, none⟩) 1 1) (w3.alloc (.cells #[.int .u8 a5] 5)) (by simp [execOp, go_sem, Act.eval, e53]) ((Below.refl _ _).alloc (Nat.le_refl _) _) ⟨_, rfl, heap_alloc_new _ _, fun e => by have := hlo4 _ e.symm; omega⟩
        · simp only [List.getElem?_toArray, List.getElem?_cons_succ, List.getElem?_cons_zero, Option.some.injEq] at ho
          subst ho
          refine ⟨rfl, ?_⟩
          have e13 : A_.tmps[13]?.getD undef = .slice (some ⟨gb, 0, none⟩) m cb := by rw [hI.low 13 (by decide)]; rfl
          clear hI hdep
          exact .run rfl (.slice (some ⟨gb, 0, none⟩) m cb) w3 (by simp [execOp, go_sem, Act.eval, e13]) (Below.refl _ _) rfl
        · simp only [List.getElem?_toArray, List.getElem?_cons_succ, List.getElem?_cons_zero, Option.some.injEq] at ho
          subst ho
          refine ⟨rfl, ?_⟩
          have e14 : A_.tmps[14]?.getD undef = .int .i64 (k : Int) := by rw [hI.low 14 (by decide)]; rfl
          clear hI hdep
          exact .run rfl (.int .i64 (k : Int)) w3 (by simp [execOp, go_sem, Act.eval, e14]) (Below.refl _ _) rfl
        · simp only [List.getElem?_toArray, List.getElem?_cons_succ, List.getElem?_cons_zero, Option.some.injEq] at ho
          subst ho
          refine ⟨rfl, ?_⟩
          have e56 : A_.tmps[56]?.getD undef = .slice (some ⟨gb, 0, none⟩) m cb := getD_of (hI.val_ (i := 4) rfl rfl (by decide) (hdep ⟨4, .data⟩ (by simp) rfl))
          have e57 : A_.tmps[57]?.getD undef = .int .i64 (k : Int) := getD_of (hI.val_ (i := 5) rfl rfl (by decide) (hdep ⟨5, .data⟩ (by simp) rfl))
          clear hI hdep
          have hA9 := HA8.out
          exact .run rfl (.slice A8 (m - k) (cb - k)) w3 (by simp [execOp, go_sem, Act.eval, e56, e57, hkn2, hA9]) (Below.refl _ _) rfl
      case app =>
        intro L_ A_ w3 hO hI hdep
        have e52 : A_.tmps[52]?.getD undef = .slice B3 k c3 := getD_of (hI.val_ (i := 0) rfl rfl (by decide) (hdep ⟨0, .data⟩ (by simp) rfl))
        obtain ⟨_, e54, g54, rfl, r54, l54⟩ := hI.get_ (i := 2) (j := 54) rfl rfl (by decide) (hdep ⟨2, .data⟩ (by simp) rfl)
        clear hI hdep
        refine ⟨rfl, rfl, ?_⟩
        obtain ⟨⟨hB, hlo4⟩, hO⟩ := hO
        rw [if_neg (by decide)] at hO
        refine RgX.app_exec (.tmp 52) (.tmp 54) 60 rfl v2.heap.size 5 ib (.int .u8 0) 1 1 Try.underlying60 hib hzb hsb hbb rfl (by decide) (.slice B3 k c3) k ((bs.take k).map (Value.int .u8)) (by simpa [Act.eval] using e52) hO.2 ⟨g54, 0, none⟩ 1 1 [.int .u8 a5] (by simpa [Act.eval] using e54) rfl (World.news_of_block r54) (fun u hu => by simp at hu; rcases hu with rfl; rfl) (by decide) (by simp only [maxLen]; omega) (by omega) hB.size ?_
        intro B' c' w' hown' hgr'
        refine ⟨⟨⟨hB.grown hgr' hB.size (fun b e => (hO.2.lt b e).1), fun j hj => Nat.lt_of_lt_of_le (hlo4 j hj) hgr'.size⟩, ?_⟩, fun i x hi hne hp => ?_⟩
        · rw [if_pos rfl]
          exact ⟨B', c', rfl, hown'⟩
        have hcase : i = 0 ∨ i = 1 ∨ i = 2 ∨ i = 4 ∨ i = 5 ∨ i = 6 := by omega
        clear hi hne
        rcases hcase with rfl | rfl | rfl | rfl | rfl | rfl
        · exact hp
        · exact hp
        · obtain ⟨g, e, hg, hne⟩ := hp
          exact ⟨g, e, (hgr'.block g (heap_lt hg) hne).trans hg, hne⟩
        · exact hp
        · exact hp
        · exact hp
      case fin =>
      intro A_ w3 y_ hs hd hlow hO hy hok
      obtain ⟨_, hy54, g54, rfl, r54, l54⟩ := hok 2 54 _ (by decide) (by decide) rfl rfl
      obtain rfl : A_ = ⟨#[.slice a0 len0 cap0, .slice a1 len1 cap1, .slice a2 len2 cap2, .int .i64 a3, .int .i64 a4, .int .u8 a5, undef, undef, undef, undef, undef, undef, .bool false, .slice (some ⟨gb, 0, none⟩) m cb, .int .i64 (k : Int), .slice B3 k c3, undef, undef, undef, undef, undef, undef, .slice a1 len1 cap1, .slice a2 len2 cap2, .agg #[.slice E ne ce, .slice A na ca], .slice (some ⟨gb, 0, none⟩) m cb, .int .i64 a3, .slice (some ⟨gb, 0, none⟩) m cb, .int .i64 (m : Int), .int .i64 ((m : Int) + 1), .int .i64 (k : Int), .slice (some ⟨v2.heap.size, 0, none⟩) 0 0, .slice (some ⟨gb, 0, none⟩) m cb, .int .i64 (k : Int), .slice (some ⟨gb, 0, none⟩) k cb, .slice B3 k c3, .int .i64 a4, .int .i64 ↑0, undef, undef, undef, undef, undef, undef, undef, undef, undef, undef, undef, undef, .bool true, .bool true, .slice B3 k c3, .int .u8 a5, .slice (some ⟨g54, 0, none⟩) 1 1, y_, .slice (some ⟨gb, 0, none⟩) m cb, .int .i64 (k : Int), .slice A8 (m - k) (cb - k), undef, undef, undef, undef, undef, undef, undef, undef, undef, undef, undef, undef, undef, undef, undef, undef, undef, undef, undef, undef, undef, undef, undef, undef, undef, undef, undef, undef, undef, undef, undef, undef, undef, undef, undef, undef, undef, undef, undef, undef, undef, undef, undef, undef, undef, undef, undef], []⟩ := act_ext hd hs (fun j hj => match j, hj with | 0, _ => (hlow 0 (by decide)).trans rfl | 1, _ => (hlow 1 (by decide)).trans rfl | 2, _ => (hlow 2 (by decide)).trans rfl | 3, _ => (hlow 3 (by decide)).trans rfl | 4, _ => (hlow 4 (by decide)).trans rfl | 5, _ => (hlow 5 (by decide)).trans rfl | 6, _ => (hlow 6 (by decide)).trans rfl | 7, _ => (hlow 7 (by decide)).trans rfl | 8, _ => (hlow 8 (by decide)).trans rfl | 9, _ => (hlow 9 (by decide)).trans rfl | 10, _ => (hlow 10 (by decide)).trans rfl | 11, _ => (hlow 11 (by decide)).trans rfl | 12, _ => (hlow 12 (by decide)).trans rfl | 13, _ => (hlow 13 (by decide)).trans rfl | 14, _ => (hlow 14 (by decide)).trans rfl | 15, _ => (hlow 15 (by decide)).trans rfl | 16, _ => (hlow 16 (by decide)).trans rfl | 17, _ => (hlow 17 (by decide)).trans rfl | 18, _ => (hlow 18 (by decide)).trans rfl | 19, _ => (hlow 19 (by decide)).trans rfl | 20, _ => (hlow 20 (by decide)).trans rfl | 21, _ => (hlow 21 (by decide)).trans rfl | 22, _ => (hlow 22 (by decide)).trans rfl | 23, _ => (hlow 23 (by decide)).trans rfl | 24, _ => (hlow 24 (by decide)).trans rfl | 25, _ => (hlow 25 (by decide)).trans rfl | 26, _ => (hlow 26 (by decide)).trans rfl | 27, _ => (hlow 27 (by decide)).trans rfl | 28, _ => (hlow 28 (by decide)).trans rfl | 29, _ => (hlow 29 (by decide)).trans rfl | 30, _ => (hlow 30 (by decide)).trans rfl | 31, _ => (hlow 31 (by decide)).trans rfl | 32, _ => (hlow 32 (by decide)).trans rfl | 33, _ => (hlow 33 (by decide)).trans rfl | 34, _ => (hlow 34 (by decide)).trans rfl | 35, _ => (hlow 35 (by decide)).trans rfl | 36, _ => (hlow 36 (by decide)).trans rfl | 37, _ => (hlow 37 (by decide)).trans rfl | 38, _ => (hlow 38 (by decide)).trans rfl | 39, _ => (hlow 39 (by decide)).trans rfl | 40, _ => (hlow 40 (by decide)).trans rfl | 41, _ => (hlow 41 (by decide)).trans rfl | 42, _ => (hlow 42 (by decide)).trans rfl | 43, _ => (hlow 43 (by decide)).trans rfl | 44, _ => (hlow 44 (by decide)).trans rfl | 45, _ => (hlow 45 (by decide)).trans rfl | 46, _ => (hlow 46 (by decide)).trans rfl | 47, _ => (hlow 47 (by decide)).trans rfl | 48, _ => (hlow 48 (by decide)).trans rfl | 49, _ => (hlow 49 (by decide)).trans rfl | 50, _ => (hlow 50 (by decide)).trans rfl | 51, _ => (hlow 51 (by decide)).trans rfl | 52, _ => RgX.val_at (hok 0 52 _ (by decide) (by decide) rfl rfl) | 53, _ => RgX.val_at (hok 1 53 _ (by decide) (by decide) rfl rfl) | 54, _ => hy54 | 55, _ => hy | 56, _ => RgX.val_at (hok 4 56 _ (by decide) (by decide) rfl rfl) | 57, _ => RgX.val_at (hok 5 57 _ (by decide) (by decide) rfl rfl) | 58, _ => RgX.val_at (hok 6 58 _ (by decide) (by decide) rfl rfl) | 59, _ => (hlow 59 (by decide)).trans rfl | 60, _ => (hlow 60 (by decide)).trans rfl | 61, _ => (hlow 61 (by decide)).trans rfl | 62, _ => (hlow 62 (by decide)).trans rfl | 63, _ => (hlow 63 (by decide)).trans rfl | 64, _ => (hlow 64 (by decide)).trans rfl | 65, _ => (hlow 65 (by decide)).trans rfl | 66, _ => (hlow 66 (by decide)).trans rfl | 67, _ => (hlow 67 (by decide)).trans rfl | 68, _ => (hlow 68 (by decide)).trans rfl | 69, _ => (hlow 69 (by decide)).trans rfl | 70, _ => (hlow 70 (by decide)).trans rfl | 71, _ => (hlow 71 (by decide)).trans rfl | 72, _ => (hlow 72 (by decide)).trans rfl | 73, _ => (hlow 73 (by decide)).trans rfl | 74, _ => (hlow 74 (by decide)).trans rfl | 75, _ => (hlow 75 (by decide)).trans rfl | 76, _ => (hlow 76 (by decide)).trans rfl | 77, _ => (hlow 77 (by decide)).trans rfl | 78, _ => (hlow 78 (by decide)).trans rfl | 79, _ => (hlow 79 (by decide)).trans rfl | 80, _ => (hlow 80 (by decide)).trans rfl | 81, _ => (hlow 81 (by decide)).trans rfl | 82, _ => (hlow 82 (by decide)).trans rfl | 83, _ => (hlow 83 (by decide)).trans rfl | 84, _ => (hlow 84 (by decide)).trans rfl | 85, _ => (hlow 85 (by decide)).trans rfl | 86, _ => (hlow 86 (by decide)).trans rfl | 87, _ => (hlow 87 (by decide)).trans rfl | 88, _ => (hlow 88 (by decide)).trans rfl | 89, _ => (hlow 89 (by decide)).trans rfl | 90, _ => (hlow 90 (by decide)).trans rfl | 91, _ => (hlow 91 (by decide)).trans rfl | 92, _ => (hlow 92 (by decide)).trans rfl | 93, _ => (hlow 93 (by decide)).trans rfl | 94, _ => (hlow 94 (by decide)).trans rfl | 95, _ => (hlow 95 (by decide)).trans rfl | 96, _ => (hlow 96 (by decide)).trans rfl | 97, _ => (hlow 97 (by decide)).trans rfl | 98, _ => (hlow 98 (by decide)).trans rfl | 99, _ => (hlow 99 (by decide)).trans rfl | 100, _ => (hlow 100 (by decide)).trans rfl | 101, _ => (hlow 101 (by decide)).trans rfl | 102, _ => (hlow 102 (by decide)).trans rfl | 103, _ => (hlow 103 (by decide)).trans rfl | 104, _ => (hlow 104 (by decide)).trans rfl | 105, _ => (hlow 105 (by decide)).trans rfl | n + 106, h => absurd h (by show ¬ n + 106 < 106; omega))
      clear hs hd hlow hy hok hy54
      obtain ⟨⟨hB, _⟩, hO⟩ := hO
      rw [if_pos rfl] at hO
      obtain ⟨B', c', rfl, hown⟩ := hO
      refine ⟨rfl, ?_⟩
      refine RgX.app_src_exec (.tmp 55) (.tmp 58) 60 rfl v2.heap.size 5 ib (.int .u8 0) 1 1 Try.underlying60 hib hzb hsb hbb rfl (by decide) (.slice B' (k + 1) c') (k + 1) _ rfl hown A8 (m - k) (cb - k) (RS.flat byE (bs.drop k)) rfl (by rw [RS.flat_len, List.length_drop, hnb]; rfl) (back_by (HSL.out w3 hB) HA8.out hkn) (RS.flat_ones _) (by simp only [maxLen]; omega) (by omega) hB.size ?_
      intro B9 c9 w9 hown9 hgr9
      have HV9 := Lib.hid (hB.grown hgr9 hB.size (fun b e => (hown.lt b e).1))
      have HO9 := Lib.hid (show w9.ownsRow v2.heap.size 5 1 (.slice B9 (k + 1 + (m - k)) c9) (k + 1 + (m - k)) ((bs.take k ++ [a5] ++ bs.drop k).map (Value.int .u8)) from by
        rw [map_u8_app, map_u8_app, ← flat_by (bs.drop k)]
        exact hown9)
      clear hown hown9 hgr9 hB r54 l54
      show wpList _ _ _ _ ⟨#[.slice a0 len0 cap0, .slice a1 len1 cap1, .slice a2 len2 cap2, .int .i64 a3, .int .i64 a4, .int .u8 a5, undef, undef, undef, undef, undef, undef, .bool false, .slice (some ⟨gb, 0, none⟩) m cb, .int .i64 (k : Int), .slice B3 k c3, undef, undef, undef, undef, undef, undef, .slice a1 len1 cap1, .slice a2 len2 cap2, .agg #[.slice E ne ce, .slice A na ca], .slice (some ⟨gb, 0, none⟩) m cb, .int .i64 a3, .slice (some ⟨gb, 0, none⟩) m cb, .int .i64 (m : Int), .int .i64 ((m : Int) + 1), .int .i64 (k : Int), .slice (some ⟨v2.heap.size, 0, none⟩) 0 0, .slice (some ⟨gb, 0, none⟩) m cb, .int .i64 (k : Int), .slice (some ⟨gb, 0, none⟩) k cb, .slice B3 k c3, .int .i64 a4, .int .i64 ↑0, undef, undef, undef, undef, undef, undef, undef, undef, undef, undef, undef, undef, .bool true, .bool true, .slice B3 k c3, .int .u8 a5, .slice (some ⟨g54, 0, none⟩) 1 1, .slice B' (k + 1) c', .slice (some ⟨gb, 0, none⟩) m cb, .int .i64 (k : Int), .slice A8 (m - k) (cb - k), .slice B9 (k + 1 + (m - k)) c9, undef, undef, undef, undef, undef, undef, undef, undef, undef, undef, undef, undef, undef, undef, undef, undef, undef, undef, undef, undef, undef, undef, undef, undef, undef, undef, undef, undef, undef, undef, undef, undef, undef, undef, undef, undef, undef, undef, undef, undef, undef, undef, undef, undef, undef, undef], []⟩ w9
      go_wp2_with fail
      go_meet
      case rel => exact ⟨B9, _, c9, _, rfl, by omega, HO9, b8_app3 HB8.out hb5 _ _, HV9⟩
    · have hA9 := HA9.out
      go_wp2_with (at_builtin; refine RgX.wpList_append_any rfl _ _ 60 rfl v2.heap.size 5 ib _ 1 1 Try.underlying60 hib hzb hsb hbb rfl (by decide) (.slice B3 k c3) k _ rfl HO3.out A9 (m - q) (cb - q) (RS.flat byE (bs.drop q)) rfl (by rw [RS.flat_len, List.length_drop, hnb]; rfl) (back_by (HSL.out v3 HV3.out) HA9.out hqn) (RS.flat_ones _) (by simp only [maxLen]; omega) (by omega) hs3 ?_; intro B9 c9 w9 hown9 hgr9)
      have HV9 := Lib.hid (HV3.out.grown hgr9 hs3 (fun b e => (HO3.out.lt b e).1))
      have HO9 := Lib.hid (show w9.ownsRow v2.heap.size 5 1 (.slice B9 (k + (m - q)) c9) (k + (m - q)) ((bs.take k ++ bs.drop q).map (Value.int .u8)) from by
        rw [map_u8_app, ← flat_by (bs.drop q)]
        exact hown9)
      clear hown9 hgr9
      go_meet
      case rel => exact ⟨B9, _, c9, _, rfl, by omega, HO9, b8_app2 HB8.out _ _, HV9⟩
    · go_upto_region 5 with (fail)
      obtain ⟨v6, hv6⟩ : ∃ V, V = v3 := ⟨_, rfl⟩
      subst hv6
      refine RgX.own2 11 3 (fun i => ( 38 + i)) (fun h_ ix_ => match ix_ with | 0 => .v (.slice B3 k c3) | 1 => .v (.int .u8 a5) | 2 => .rownB (Value.slice B3 k c3).ownBlock #[.int .u8 a5] 5 1 | 3 => .any | 4 => .v (.slice (some ⟨gb, 0, none⟩) m cb) | 5 => .v (.int .i64 (k : Int)) | 6 => .v (.int .i64 ((k : Int) + 1)) | 7 => .v (.slice (some ⟨gb, 0, none⟩) m cb) | 8 => .v (.int .i64 (m : Int)) | 9 => .v (.int .i64 (q : Int)) | 10 => .v (.slice A9 (m - q) (cb - q)) | _ => .any) _ _ _ (.slice B3 k c3) (ByOwn v2 (.slice B3 k c3) k ((bs.take k).map (Value.int .u8)) [.int .u8 a5]) (by kernel_rfl) rfl rfl (by decide) rfl rfl (by kernel_rfl) (by kernel_rfl) (by kernel_rfl) (by kernel_rfl) (fun i hi => by show ( 38 + i) < 106; (repeat' split) <;> omega) (fun i j hi hj => by show ( 38 + i) = ( 38 + j) → i = j; (repeat' split) <;> omega) (⟨⟨HV3.out, hlo3⟩, by rw [if_neg (by decide)]; exact ⟨rfl, HO3.out⟩⟩) (ByOwn.keep) ?step ?app ?fin
      case step =>
        intro L_ A_ w3 y_ ix op_ hi hnA hO hI ho hdep
        have hcase : ix = 0 ∨ ix = 1 ∨ ix = 2 ∨ ix = 4 ∨ ix = 5 ∨ ix = 6 ∨ ix = 7 ∨ ix = 8 ∨ ix = 9 ∨ ix = 10 := by omega
        obtain ⟨b_, hO⟩ := hO
        have hh : Below v2.heap.size v2 w3 := hO.1.1
        have hlo4 := hO.1.2
        clear hO
        clear hi hnA
        rcases hcase with rfl | rfl | rfl | rfl | rfl | rfl | rfl | rfl | rfl | rfl
        · simp only [List.getElem?_toArray, List.getElem?_cons_zero, Option.some.injEq] at ho
          subst ho
          refine ⟨rfl, ?_⟩
          have e15 : A_.tmps[15]?.getD undef = .slice B3 k c3 := by rw [hI.low 15 (by decide)]; rfl
          clear hI hdep
          exact .run rfl (.slice B3 k c3) w3 (by simp [execOp, go_sem, Act.eval, e15]) (Below.refl _ _) rfl
        · simp only [List.getElem?_toArray, List.getElem?_cons_succ, List.getElem?_cons_zero, Option.some.injEq] at ho
          subst ho
          refine ⟨rfl, ?_⟩
          have e5 : A_.tmps[5]?.getD undef = .int .u8 a5 := by rw [hI.low 5 (by decide)]; rfl
          clear hI hdep
          exact .run rfl (.int .u8 a5) w3 (by simp [execOp, go_sem, Act.eval, e5]) (Below.refl _ _) rfl
        · simp only [List.getElem?_toArray, List.getElem?_cons_succ, List.getElem?_cons_zero, Option.some.injEq] at ho
          subst ho
          refine ⟨rfl, ?_⟩
          have e39 : A_.tmps[39]?.getD undef = .int .u8 a5 := getD_of (hI.val_ (i := 1) rfl rfl (by decide) (hdep ⟨1, .data⟩ (by simp) rfl))
          clear hI hdep
          exact .run rfl (.slice (some ⟨w3.heap.size, 0, none⟩) 1 1) (w3.alloc (.cells #[.int .u8 a5] 5)) (by simp [execOp, go_sem, Act.eval, e39]) ((Below.refl _ _).alloc (Nat.le_refl _) _) ⟨_, rfl, heap_alloc_new _ _, fun e => by have := hlo4 _ e.symm; omega⟩
        · simp only [List.getElem?_toArray, List.getElem?_cons_succ, List.getElem?_cons_zero, Option.some.injEq] at ho
          subst ho
          refine ⟨rfl, ?_⟩
          have e13 : A_.tmps[13]?.getD undef = .slice (some ⟨gb, 0, none⟩) m cb := by rw [hI.low 13 (by decide)]; rfl
          clear hI hdep
          exact .run rfl (.slice (some ⟨gb, 0, none⟩) m cb) w3 (by simp [execOp, go_sem, Act.eval, e13]) (Below.refl _ _) rfl
        · simp only [List.getElem?_toArray, List.getElem?_cons_succ, List.getElem?_cons_zero, Option.some.injEq] at ho
          subst ho
          refine ⟨rfl, ?_⟩
          have e14 : A_.tmps[14]?.getD undef = .int .i64 (k : Int) := by rw [hI.low 14 (by decide)]; rfl
          clear hI hdep
          exact .run rfl (.int .i64 (k : Int)) w3 (by simp [execOp, go_sem, Act.eval, e14]) (Below.refl _ _) rfl
        · simp only [List.getElem?_toArray, List.getElem?_cons_succ, List.getElem?_cons_zero, Option.some.injEq] at ho
          subst ho
          refine ⟨rfl, ?_⟩
          have e43 : A_.tmps[43]?.getD undef = .int .i64 (k : Int) := getD_of (hI.val_ (i := 5) rfl rfl (by decide) (hdep ⟨5, .data⟩ (by simp) rfl))
          clear hI hdep
          exact .run rfl (.int .i64 ((k : Int) + 1)) w3 (by simp [execOp, go_sem, Act.eval, e43, hwk]) (Below.refl _ _) rfl
        · simp only [List.getElem?_toArray, List.getElem?_cons_succ, List.getElem?_cons_zero, Option.some.injEq] at ho
          subst ho
          refine ⟨rfl, ?_⟩
          have e13 : A_.tmps[13]?.getD undef = .slice (some ⟨gb, 0, none⟩) m cb := by rw [hI.low 13 (by decide)]; rfl
          clear hI hdep
          exact .run rfl (.slice (some ⟨gb, 0, none⟩) m cb) w3 (by simp [execOp, go_sem, Act.eval, e13]) (Below.refl _ _) rfl
        · simp only [List.getElem?_toArray, List.getElem?_cons_succ, List.getElem?_cons_zero, Option.some.injEq] at ho
          subst ho
          refine ⟨rfl, ?_⟩
          have e45 : A_.tmps[45]?.getD undef = .slice (some ⟨gb, 0, none⟩) m cb := getD_of (hI.val_ (i := 7) rfl rfl (by decide) (hdep ⟨7, .data⟩ (by simp) rfl))
          clear hI hdep
          exact .run rfl (.int .i64 (m : Int)) w3 (by simp [go_sem, Act.eval, e45]) (Below.refl _ _) rfl
        · simp only [List.getElem?_toArray, List.getElem?_cons_succ, List.getElem?_cons_zero, Option.some.injEq] at ho
          subst ho
          refine ⟨rfl, ?_⟩
          have e44 : A_.tmps[44]?.getD undef = .int .i64 ((k : Int) + 1) := getD_of (hI.val_ (i := 6) rfl rfl (by decide) (hdep ⟨6, .data⟩ (by simp) rfl))
          have e46 : A_.tmps[46]?.getD undef = .int .i64 (m : Int) := getD_of (hI.val_ (i := 8) rfl rfl (by decide) (hdep ⟨8, .data⟩ (by simp) rfl))
          clear hI hdep
          exact .run rfl (.int .i64 (q : Int)) w3 (by simp [go_sem, Act.eval, e44, e46, hq]) (Below.refl _ _) rfl
        · simp only [List.getElem?_toArray, List.getElem?_cons_succ, List.getElem?_cons_zero, Option.some.injEq] at ho
          subst ho
          refine ⟨rfl, ?_⟩
          have e42 : A_.tmps[42]?.getD undef = .slice (some ⟨gb, 0, none⟩) m cb := getD_of (hI.val_ (i := 4) rfl rfl (by decide) (hdep ⟨4, .data⟩ (by simp) rfl))
          have e47 : A_.tmps[47]?.getD undef = .int .i64 (q : Int) := getD_of (hI.val_ (i := 9) rfl rfl (by decide) (hdep ⟨9, .data⟩ (by simp) rfl))
          clear hI hdep
          have hA9 := HA9.out
          exact .run rfl (.slice A9 (m - q) (cb - q)) w3 (by simp [execOp, go_sem, Act.eval, e42, e47, hqn2, hA9]) (Below.refl _ _) rfl
      case app =>
        intro L_ A_ w3 hO hI hdep
        have e38 : A_.tmps[38]?.getD undef = .slice B3 k c3 := getD_of (hI.val_ (i := 0) rfl rfl (by decide) (hdep ⟨0, .data⟩ (by simp) rfl))
        obtain ⟨_, e40, g40, rfl, r40, l40⟩ := hI.get_ (i := 2) (j := 40) rfl rfl (by decide) (hdep ⟨2, .data⟩ (by simp) rfl)
        clear hI hdep
        refine ⟨rfl, rfl, ?_⟩
        obtain ⟨⟨hB, hlo4⟩, hO⟩ := hO
        rw [if_neg (by decide)] at hO
        refine RgX.app_exec (.tmp 38) (.tmp 40) 60 rfl v2.heap.size 5 ib (.int .u8 0) 1 1 Try.underlying60 hib hzb hsb hbb rfl (by decide) (.slice B3 k c3) k ((bs.take k).map (Value.int .u8)) (by simpa [Act.eval] using e38) hO.2 ⟨g40, 0, none⟩ 1 1 [.int .u8 a5] (by simpa [Act.eval] using e40) rfl (World.news_of_block r40) (fun u hu => by simp at hu; rcases hu with rfl; rfl) (by decide) (by simp only [maxLen]; omega) (by omega) hB.size ?_
        intro B' c' w' hown' hgr'
        refine ⟨⟨⟨hB.grown hgr' hB.size (fun b e => (hO.2.lt b e).1), fun j hj => Nat.lt_of_lt_of_le (hlo4 j hj) hgr'.size⟩, ?_⟩, fun i x hi hne hp => ?_⟩
        · rw [if_pos rfl]
          exact ⟨B', c', rfl, hown'⟩
        have hcase : i = 0 ∨ i = 1 ∨ i = 2 ∨ i = 4 ∨ i = 5 ∨ i = 6 ∨ i = 7 ∨ i = 8 ∨ i = 9 ∨ i = 10 := by omega
        clear hi hne
        rcases hcase with rfl | rfl | rfl | rfl | rfl | rfl | rfl | rfl | rfl | rfl
        · exact hp
        · exact hp
        · obtain ⟨g, e, hg, hne⟩ := hp
          exact ⟨g, e, (hgr'.block g (heap_lt hg) hne).trans hg, hne⟩
        · exact hp
        · exact hp
        · exact hp
        · exact hp
        · exact hp
        · exact hp
        · exact hp
      case fin =>
      intro A_ w3 y_ hs hd hlow hO hy hok
      obtain ⟨_, hy40, g40, rfl, r40, l40⟩ := hok 2 40 _ (by decide) (by decide) rfl rfl
      obtain rfl : A_ = ⟨#[.slice a0 len0 cap0, .slice a1 len1 cap1, .slice a2 len2 cap2, .int .i64 a3, .int .i64 a4, .int .u8 a5, undef, undef, undef, undef, undef, undef, .bool false, .slice (some ⟨gb, 0, none⟩) m cb, .int .i64 (k : Int), .slice B3 k c3, undef, undef, undef, undef, undef, undef, .slice a1 len1 cap1, .slice a2 len2 cap2, .agg #[.slice E ne ce, .slice A na ca], .slice (some ⟨gb, 0, none⟩) m cb, .int .i64 a3, .slice (some ⟨gb, 0, none⟩) m cb, .int .i64 (m : Int), .int .i64 ((m : Int) + 1), .int .i64 (k : Int), .slice (some ⟨v2.heap.size, 0, none⟩) 0 0, .slice (some ⟨gb, 0, none⟩) m cb, .int .i64 (k : Int), .slice (some ⟨gb, 0, none⟩) k cb, .slice B3 k c3, .int .i64 a4, .int .i64 ↑2, .slice B3 k c3, .int .u8 a5, .slice (some ⟨g40, 0, none⟩) 1 1, y_, .slice (some ⟨gb, 0, none⟩) m cb, .int .i64 (k : Int), .int .i64 ((k : Int) + 1), .slice (some ⟨gb, 0, none⟩) m cb, .int .i64 (m : Int), .int .i64 (q : Int), .slice A9 (m - q) (cb - q), undef, .bool false, .bool false, undef, undef, undef, undef, undef, undef, undef, undef, .bool false, .bool false, undef, undef, undef, undef, undef, undef, undef, undef, undef, undef, undef, undef, undef, undef, undef, undef, undef, undef, undef, undef, undef, undef, undef, undef, undef, undef, undef, undef, undef, undef, undef, undef, undef, undef, undef, undef, undef, undef, undef, undef, undef, undef, undef, undef], []⟩ := act_ext hd hs (fun j hj => match j, hj with | 0, _ => (hlow 0 (by decide)).trans rfl | 1, _ => (hlow 1 (by decide)).trans rfl | 2, _ => (hlow 2 (by decide)).trans rfl | 3, _ => (hlow 3 (by decide)).trans rfl | 4, _ => (hlow 4 (by decide)).trans rfl | 5, _ => (hlow 5 (by decide)).trans rfl | 6, _ => (hlow 6 (by decide)).trans rfl | 7, _ => (hlow 7 (by decide)).trans rfl | 8, _ => (hlow 8 (by decide)).trans rfl | 9, _ => (hlow 9 (by decide)).trans rfl | 10, _ => (hlow 10 (by decide)).trans rfl | 11, _ => (hlow 11 (by decide)).trans rfl | 12, _ => (hlow 12 (by decide)).trans rfl | 13, _ => (hlow 13 (by decide)).trans rfl | 14, _ => (hlow 14 (by decide)).trans rfl | 15, _ => (hlow 15 (by decide)).trans rfl | 16, _ => (hlow 16 (by decide)).trans rfl | 17, _ => (hlow 17 (by decide)).trans rfl | 18, _ => (hlow 18 (by decide)).trans rfl | 19, _ => (hlow 19 (by decide)).trans rfl | 20, _ => (hlow 20 (by decide)).trans rfl | 21, _ => (hlow 21 (by decide)).trans rfl | 22, _ => (hlow 22 (by decide)).trans rfl | 23, _ => (hlow 23 (by decide)).trans rfl | 24, _ => (hlow 24 (by decide)).trans rfl | 25, _ => (hlow 25 (by decide)).trans rfl | 26, _ => (hlow 26 (by decide)).trans rfl | 27, _ => (hlow 27 (by decide)).trans rfl | 28, _ => (hlow 28 (by decide)).trans rfl | 29, _ => (hlow 29 (by decide)).trans rfl | 30, _ => (hlow 30 (by decide)).trans rfl | 31, _ => (hlow 31 (by decide)).trans rfl | 32, _ => (hlow 32 (by decide)).trans rfl | 33, _ => (hlow 33 (by decide)).trans rfl | 34, _ => (hlow 34 (by decide)).trans rfl | 35, _ => (hlow 35 (by decide)).trans rfl | 36, _ => (hlow 36 (by decide)).trans rfl | 37, _ => (hlow 37 (by decide)).trans rfl | 38, _ => RgX.val_at (hok 0 38 _ (by decide) (by decide) rfl rfl) | 39, _ => RgX.val_at (hok 1 39 _ (by decide) (by decide) rfl rfl) | 40, _ => hy40 | 41, _ => hy | 42, _ => RgX.val_at (hok 4 42 _ (by decide) (by decide) rfl rfl) | 43, _ => RgX.val_at (hok 5 43 _ (by decide) (by decide) rfl rfl) | 44, _ => RgX.val_at (hok 6 44 _ (by decide) (by decide) rfl rfl) | 45, _ => RgX.val_at (hok 7 45 _ (by decide) (by decide) rfl rfl) | 46, _ => RgX.val_at (hok 8 46 _ (by decide) (by decide) rfl rfl) | 47, _ => RgX.val_at (hok 9 47 _ (by decide) (by decide) rfl rfl) | 48, _ => RgX.val_at (hok 10 48 _ (by decide) (by decide) rfl rfl) | 49, _ => (hlow 49 (by decide)).trans rfl | 50, _ => (hlow 50 (by decide)).trans rfl | 51, _ => (hlow 51 (by decide)).trans rfl | 52, _ => (hlow 52 (by decide)).trans rfl | 53, _ => (hlow 53 (by decide)).trans rfl | 54, _ => (hlow 54 (by decide)).trans rfl | 55, _ => (hlow 55 (by decide)).trans rfl | 56, _ => (hlow 56 (by decide)).trans rfl | 57, _ => (hlow 57 (by decide)).trans rfl | 58, _ => (hlow 58 (by decide)).trans rfl | 59, _ => (hlow 59 (by decide)).trans rfl | 60, _ => (hlow 60 (by decide)).trans rfl | 61, _ => (hlow 61 (by decide)).trans rfl | 62, _ => (hlow 62 (by decide)).trans rfl | 63, _ => (hlow 63 (by decide)).trans rfl | 64, _ => (hlow 64 (by decide)).trans rfl | 65, _ => (hlow 65 (by decide)).trans rfl | 66, _ => (hlow 66 (by decide)).trans rfl | 67, _ => (hlow 67 (by decide)).trans rfl | 68, _ => (hlow 68 (by decide)).trans rfl | 69, _ => (hlow 69 (by decide)).trans rfl | 70, _ => (hlow 70 (by decide)).trans rfl | 71, _ => (hlow 71 (by decide)).trans rfl | 72, _ => (hlow 72 (by decide)).trans rfl | 73, _ => (hlow 73 (by decide)).trans rfl | 74, _ => (hlow 74 (by decide)).trans rfl | 75, _ => (hlow 75 (by decide)).trans rfl | 76, _ => (hlow 76 (by decide)).trans rfl | 77, _ => (hlow 77 (by decide)).trans rfl | 78, _ => (hlow 78 (by decide)).trans rfl | 79, _ => (hlow 79 (by decide)).trans rfl | 80, _ => (hlow 80 (by decide)).trans rfl | 81, _ => (hlow 81 (by decide)).trans rfl | 82, _ => (hlow 82 (by decide)).trans rfl | 83, _ => (hlow 83 (by decide)).trans rfl | 84, _ => (hlow 84 (by decide)).trans rfl | 85, _ => (hlow 85 (by decide)).trans rfl | 86, _ => (hlow 86 (by decide)).trans rfl | 87, _ => (hlow 87 (by decide)).trans rfl | 88, _ => (hlow 88 (by decide)).trans rfl | 89, _ => (hlow 89 (by decide)).trans rfl | 90, _ => (hlow 90 (by decide)).trans rfl | 91, _ => (hlow 91 (by decide)).trans rfl | 92, _ => (hlow 92 (by decide)).trans rfl | 93, _ => (hlow 93 (by decide)).trans rfl | 94, _ => (hlow 94 (by decide)).trans rfl | 95, _ => (hlow 95 (by decide)).trans rfl | 96, _ => (hlow 96 (by decide)).trans rfl | 97, _ => (hlow 97 (by decide)).trans rfl | 98, _ => (hlow 98 (by decide)).trans rfl | 99, _ => (hlow 99 (by decide)).trans rfl | 100, _ => (hlow 100 (by decide)).trans rfl | 101, _ => (hlow 101 (by decide)).trans rfl | 102, _ => (hlow 102 (by decide)).trans rfl | 103, _ => (hlow 103 (by decide)).trans rfl | 104, _ => (hlow 104 (by decide)).trans rfl | 105, _ => (hlow 105 (by decide)).trans rfl | n + 106, h => absurd h (by show ¬ n + 106 < 106; omega))
      clear hs hd hlow hy hok hy40
      obtain ⟨⟨hB, _⟩, hO⟩ := hO
      rw [if_pos rfl] at hO
      obtain ⟨B', c', rfl, hown⟩ := hO
      refine ⟨rfl, ?_⟩
      refine RgX.app_src_exec (.tmp 41) (.tmp 48) 60 rfl v2.heap.size 5 ib (.int .u8 0) 1 1 Try.underlying60 hib hzb hsb hbb rfl (by decide) (.slice B' (k + 1) c') (k + 1) _ rfl hown A9 (m - q) (cb - q) (RS.flat byE (bs.drop q)) rfl (by rw [RS.flat_len, List.length_drop, hnb]; rfl) (back_by (HSL.out w3 hB) HA9.out hqn) (RS.flat_ones _) (by simp only [maxLen]; omega) (by omega) hB.size ?_
      intro B9 c9 w9 hown9 hgr9
      have HV9 := Lib.hid (hB.grown hgr9 hB.size (fun b e => (hown.lt b e).1))
      have HO9 := Lib.hid (show w9.ownsRow v2.heap.size 5 1 (.slice B9 (k + 1 + (m - q)) c9) (k + 1 + (m - q)) ((bs.take k ++ [a5] ++ bs.drop q).map (Value.int .u8)) from by
        rw [map_u8_app, map_u8_app, ← flat_by (bs.drop q)]
        exact hown9)
      clear hown hown9 hgr9 hB r40 l40
      show wpList _ _ _ _ ⟨#[.slice a0 len0 cap0, .slice a1 len1 cap1, .slice a2 len2 cap2, .int .i64 a3, .int .i64 a4, .int .u8 a5, undef, undef, undef, undef, undef, undef, .bool false, .slice (some ⟨gb, 0, none⟩) m cb, .int .i64 (k : Int), .slice B3 k c3, undef, undef, undef, undef, undef, undef, .slice a1 len1 cap1, .slice a2 len2 cap2, .agg #[.slice E ne ce, .slice A na ca], .slice (some ⟨gb, 0, none⟩) m cb, .int .i64 a3, .slice (some ⟨gb, 0, none⟩) m cb, .int .i64 (m : Int), .int .i64 ((m : Int) + 1), .int .i64 (k : Int), .slice (some ⟨v2.heap.size, 0, none⟩) 0 0, .slice (some ⟨gb, 0, none⟩) m cb, .int .i64 (k : Int), .slice (some ⟨gb, 0, none⟩) k cb, .slice B3 k c3, .int .i64 a4, .int .i64 ↑2, .slice B3 k c3, .int .u8 a5, .slice (some ⟨g40, 0, none⟩) 1 1, .slice B' (k + 1) c', .slice (some ⟨gb, 0, none⟩) m cb, .int .i64 (k : Int), .int .i64 ((k : Int) + 1), .slice (some ⟨gb, 0, none⟩) m cb, .int .i64 (m : Int), .int .i64 (q : Int), .slice A9 (m - q) (cb - q), .slice B9 (k + 1 + (m - q)) c9, .bool false, .bool false, undef, undef, undef, undef, undef, undef, undef, undef, .bool false, .bool false, undef, undef, undef, undef, undef, undef, undef, undef, undef, undef, undef, undef, undef, undef, undef, undef, undef, undef, undef, undef, undef, undef, undef, undef, undef, undef, undef, undef, undef, undef, undef, undef, undef, undef, undef, undef, undef, undef, undef, undef, undef, undef, undef, undef], []⟩ w9
      go_wp2_with fail
      go_meet
      case rel => exact ⟨B9, _, c9, _, rfl, by omega, HO9, b8_app3 HB8.out hb5 _ _, HV9⟩
  case rest =>
  obtain ⟨B15, n15, c15, ts, rfl, hn15, HO15, HT8, HV15⟩ := hcut
  clear HO3 HV3 hlo3 HA8 HA9 hs3 HSL
  have hwb : Below w.heap.size w wc := HBV.out.trans (HV15.out.mono HBV.out.size)
  have hl15 : ts.length = n15 := by have := HO15.out.1; simpa using this
  have HWC := Lib.hid hwb
  clear hwb
  go_upto_region 11 with (go_at_call 36; refine (HF.out _ HWC.out).mono ?_; rintro e w6 ⟨A6, n6, c6, rfl, m1, m2, _, m4⟩; have H6 := Lib.hid (And.intro m1 (And.intro m2 m4)); clear m1 m2 m4)
  obtain ⟨W8, hW8⟩ : ∃ W, w6.alloc (.cells #[.slice A6 n6 c6, .slice (some ⟨gb, 0, none⟩) m cb, .slice B15 n15 c15] 60) = W := ⟨_, rfl⟩
  rw [hW8]
  have hb8 : Below w6.heap.size w6 W8 := hW8 ▸ one_box w6 _
  have hs8 : W8.heap.size = w6.heap.size + 1 := by rw [← hW8]; simp
  have k8 : W8.heap[w6.heap.size]? = some (.cells #[.slice A6 n6 c6, .slice (some ⟨gb, 0, none⟩) m cb, .slice B15 n15 c15] 60 (0, 0)) := by rw [← hW8]; exact World.alloc_heap_new w6 _
  obtain ⟨g8, hg8⟩ : ∃ g, w6.heap.size = g := ⟨_, rfl⟩
  have bc8 : Below wc.heap.size wc W8 := H6.out.2.2.trans (hb8.mono H6.out.2.2.size)
  have b28 : Below v2.heap.size v2 W8 := HV15.out.trans (bc8.mono HV15.out.size)
  have HALL := Lib.hid (show ∀ j : Nat, j < 3 → ∃ (A : Option Addr) (n c : Nat) (zs : List Int), W8.cell? ⟨g8, j, none⟩ = some (.slice A n c) ∧ Lst 5 .u8 W8.heap.size W8 A n c zs ∧ n ≤ 4001 ∧ zs.length = n ∧ ∀ x ∈ zs, B8 x from by
    rw [← hg8]
    intro j hj
    match j, hj with
    | 0, _ => exact ⟨A6, n6, c6, _, cell_of_row W8 _ 0 _ _ (0, 0) k8, (H6.out.2.1.below hb8).more hb8.size, (by have := H6.out.1; have h2 := List.length_take_le 80 (z0.take len0); have h3 : (Int.toNat 80) = 80 := rfl; rw [h3] at this; omega), H6.out.1, H80.out⟩
    | 1, _ => exact ⟨_, m, cb, bs, cell_of_row W8 _ 1 _ _ (0, 0) k8, (HLS.out.below b28).more b28.size, by omega, hnb, HB8.out⟩
    | 2, _ => exact ⟨B15, n15, c15, ts, cell_of_row W8 _ 2 _ _ (0, 0) k8, ((Lst.of_own HO15.out).below bc8).more bc8.size, hn15, hl15, HT8.out⟩)
  have HB := Lib.hid (HWC.out.trans (bc8.mono HWC.out.size))
  have hgl : g8 < W8.heap.size := by omega
  rw [hg8] at hs8
  rw [hg8]
  clear hW8 hb8 k8 bc8 b28 H6 HF H80 HB8 hg8 HO15 HT8 HV15 HLS HWC
  go_wp2_with fail
  go_loopw [17] (fun i V => ∃ j : Nat, j ≤ 3 ∧ i = .int .i64 (j : Int) ∧ Hid (Below W8.heap.size W8 V)) (fun i _ => 3 - (intOf i).toNat)
  case atStart => exact ⟨0, by omega, rfl, Below.refl _ _⟩
  case round =>
    obtain ⟨j, hj, rfl, HV⟩ := hrel
    by_cases hin : j < 3
    · have dk : decide (j < 3) = true := decide_eq_true hin
      have dk2 : decide ((j : Int) < 3) = true := decide_eq_true (by omega)
      have dk3 : (j : Int) < 3 := by omega
      obtain ⟨A, n, c, zs, hcl, hz, hn4, hzl, hzb⟩ := HALL.out j hin
      have hcr := (HV.out.cell (p := ⟨g8, j, none⟩) hgl).trans hcl
      have HCL := Lib.hid (fun (V : World) (hV : Below W8.heap.size W8 V) => (hV.cell (p := ⟨g8, j, none⟩) hgl).trans hcl)
      have HZ := Lib.hid (fun (V : World) (hV : Below W8.heap.size W8 V) => hz.below hV)
      have HDP := Lib.hid (decodeP_any wr (HZ.out wr HV.out) (by omega) hzb)
      have HDR := Lib.hid (fun (V : World) (hV : Below W8.heap.size W8 V) => refDecode_any V (HZ.out V hV) hV.size (by omega) hzb)
      obtain ⟨⟨⟨es, l⟩, x⟩, hx⟩ : ∃ y, decP zs = y := ⟨_, rfl⟩
      rw [hx] at HDP HDR
      have hes := decP_len zs
      rw [hx] at hes
      have hes1 : es.length ≤ 5000 := hes.1
      have hes2 : l.length ≤ 10000 := hes.2
      have hxx : (x != x) = false := by simp
      clear hcl hz hx hzb hes
      go_upto_region 15 with (go_at_call 37; refine HDP.out.mono ?_; clear HDP; rintro e w9 ⟨⟨E, ne, ce, Q, na, ca, rfl, hT⟩, hb9⟩; have HT := Lib.hid (And.intro (show TapeIs wr.heap.size w9 E ne ce Q na ca es l from hT) hb9); clear hT hb9)
      clear hcr
      obtain ⟨W, hW⟩ : ∃ W, w9.alloc (.cells #[.slice E ne ce, .slice Q na ca] 26) = W := ⟨_, rfl⟩
      rw [hW]
      obtain ⟨gt, hgt⟩ : ∃ g, w9.heap.size = g := ⟨_, rfl⟩
      have hbW : Below w9.heap.size w9 W := hW ▸ one_box w9 _
      have kW : W.heap[gt]? = some (.cells #[.slice E ne ce, .slice Q na ca] 26 (0, 0)) := by rw [← hgt, ← hW]; exact World.alloc_heap_new w9 _
      have hTW := HT.out.1.keep hbW
      have hVW := HV.out.trans ((HT.out.2.trans (hbW.mono HT.out.2.size)).mono HV.out.size)
      rw [hgt]
      have HKW := Lib.hid (fun (V : World) (hV : Below W.heap.size W V) => And.intro (row2 ((hV.block gt (heap_lt kW)).trans kW)).1 (hTW.keep hV))
      have HVW := Lib.hid hVW
      have hcr := HCL.out W hVW
      clear hbW hW hTW hVW HT hgt kW
      go_upto_region 16 with (go_at_call 38; refine (HDR.out W HVW.out).mono ?_; clear HDR; rintro e u9 ⟨⟨E2, ne2, ce2, Q2, na2, ca2, rfl, hT⟩, hb9⟩; have HT2 := Lib.hid (And.intro (show TapeIs W.heap.size u9 E2 ne2 ce2 Q2 na2 ca2 es l from hT) hb9); clear hT hb9)
      clear hcr
      obtain ⟨Y, hY⟩ : ∃ W, u9.alloc (.cells #[.slice E2 ne2 ce2, .slice Q2 na2 ca2] 26) = W := ⟨_, rfl⟩
      rw [hY]
      obtain ⟨gu, hgu⟩ : ∃ g, u9.heap.size = g := ⟨_, rfl⟩
      have hbY : Below u9.heap.size u9 Y := hY ▸ one_box u9 _
      have kY : Y.heap[gu]? = some (.cells #[.slice E2 ne2 ce2, .slice Q2 na2 ca2] 26 (0, 0)) := by rw [← hgu, ← hY]; exact World.alloc_heap_new u9 _
      have hTY := HT2.out.1.keep hbY
      have hWY := HT2.out.2.trans (hbY.mono HT2.out.2.size)
      rw [hgu]
      obtain ⟨⟨x0, x1⟩, hTX⟩ := HKW.out Y hWY
      obtain ⟨⟨y0, y1⟩, _, _⟩ := row2 kY
      have hl1 := hTX.1.1
      have hl2 := hTX.1.2
      have hl3 := hTY.1.1
      have hl4 := hTY.1.2
      have HSM := Lib.hid (same_good (c1 := ce) (d1 := ca) (c2 := ce2) (d2 := ca2) Y (hTX.tin (by omega) (by omega)) (hTY.tin (by omega) (by omega)))
      have HVY := Lib.hid (HVW.out.trans (hWY.mono HVW.out.size))
      clear hbY hY hgu kY hTY hWY hTX HKW HT2
      go_wp2_with (go_at_call 16; refine HSM.out.mono ?_; clear HSM; rintro e y9 ⟨rfl, hb9⟩; have HB9 := Lib.hid (HVY.out.trans (hb9.mono HVY.out.size)); clear hb9)
      go_roundw
      case rel => exact ⟨j + 1, by omega, by go_num, HB9⟩
      case measure => simp [intOf]; omega
    · have dk : decide (j < 3) = false := decide_eq_false hin
      have dk2 : decide ((j : Int) < 3) = false := decide_eq_false (by omega)
      go_wp2_with (go_at_call 24; refine (lives_any wr).mono ?_; rintro e wb ⟨rfl, hbb⟩; have HBB := Lib.hid hbb; clear hbb)
      have HE := Lib.hid (HB.out.trans ((HV.out.trans (HBB.out.mono HV.out.size)).mono HB.out.size))
      go_ret
      exact ⟨rfl, HE.out⟩
end Go.Proofs.Ytiokiecnglmbnaa.LawTapeDecodes

namespace Go.Proofs.Ytiokiecnglmbnaa.tapeDecodes
open Go.ChangeShapes Go.WideShapes Go.ChangeAt Go.RowKit
open Go.ChangeMaps (open_string shut_string)
set_option linter.unusedVariables false

theorem own : ownKnob Try.prog.godebug = none := by kernel_rfl
theorem laidOut : laidOutB Try.prog = true := by kernel_rfl

/-- WHAT THE WALK IS TOLD OF A SLICE OF INTEGERS THAT CAME IN: it is nil; or it leads to a row of 'cap' cells, the numbers 'zs' (the first 'len' are its elements, the rest its spare room), each fitting its kind. -/
def IsRow (k : IntKind) (w : World) (a : Option Addr) (len cap : Nat) (zs : List Int) : Prop :=
  (a = none ∧ len = 0 ∧ cap = 0 ∧ zs = []) ∨
  ∃ x, a = some x ∧ len ≤ cap ∧ cap ≤ maxLen ∧ zs.length = cap ∧ (∀ i, i < zs.length → w.cell? (x.add i) = some (.int k (zs.getD i 0))) ∧ ∀ n ∈ zs, (Lit.int k n).wf = true

/-! ### STEP 1: THE WALK: the Go text returns true, AND WRITES NOTHING THAT WAS THERE: 'Below w.heap.size w w'' (Derived/Below.lean: '.refl', '.alloc', '.drew', '.setCell' at a new block, '.trans'). Open each 'IsRow' by 'rcases' AHEAD of 'go_enter'; part every test ahead of the walk. -/
theorem walk (a0 : Option Addr) (len0 cap0 : Nat) (z0 : List Int) (a1 : Option Addr) (len1 cap1 : Nat) (z1 : List Int) (a2 : Option Addr) (len2 cap2 : Nat) (z2 : List Int) (a3 : Int) (a4 : Int) (a5 : Int) (w : World) (w0 : IsRow .u8 w a0 len0 cap0 z0) (w1 : IsRow .i64 w a1 len1 cap1 z1) (w2 : IsRow .i64 w a2 len2 cap2 z2) (w3 : (Lit.int .i64 a3).wf = true) (w4 : (Lit.int .i64 a4).wf = true) (w5 : (Lit.int .u8 a5).wf = true) :
    Calls Try.prog 7 #[.slice a0 len0 cap0, .slice a1 len1 cap1, .slice a2 len2 cap2, .int .i64 a3, .int .i64 a4, .int .u8 a5] w fun e w' => e = .returned (.bool true) ∧ Below w.heap.size w w' := by
  exact LawTapeDecodes.walk a0 len0 cap0 z0 a1 len1 cap1 z1 a2 len2 cap2 z2 a3 a4 a5 w w0 w1 w2 w3 w4 w5

/-! ### THE ROW's STEP: WRITTEN OUT: LEAVE IT -/
set_option maxRecDepth 100000 in
theorem lifted (os : Os) (started : os.Started) (H : Type) (enc : TypeId × Value → H) :
    ReturnsInHanded {} Try.checked os 7 .any (Rows.tapeDecodesSpec.pre6 enc Try.prog Try.f7 Rows.tapeDecodesRow.domain false) (Rows.tapeDecodesSpec.post enc Try.prog Try.f7 false true false false) := by
  refine returnsInHanded_of_change (C := Try.checked) own started (by kernel_rfl) Try.func7
    (ChangeSpec.witness6 (enc := enc) (C := Try.checked) false ⟨#[], #[.slice none 0 0, .slice none 0 0, .slice none 0 0, .int .i64 0, .int .i64 0, .int .u8 0], []⟩ 8 (by kernel_rfl) (by kernel_rfl) (by kernel_rfl) (by kernel_rfl)) ?_
  intro W base args ds gs before hval0 hW hcnd _
  have hval : ∀ (j : Nat) t v, Try.f7.params[j]? = some t → args[j]? = some v → Value.okWide Try.prog W .any base t v := hval0
  have hW' := hW
  obtain ⟨p, q, hA0, hV, rfl, hfz, hnd⟩ := hW
  have hA : DataW.TrodAll enc Try.prog W 0 (fun _ => true) true Try.f7.params.toList args.toList ds p := hA0
  rw [Try.params7] at hA hval
  obtain ⟨v0, vs0, d0, ds0, p0, q0, hargs, rfl, rfl, h0, r0⟩ := trodAll_cons hA
  obtain ⟨v1, vs1, d1, ds1, p1, q1, rfl, rfl, rfl, h1, r1⟩ := trodAll_cons r0
  obtain ⟨v2, vs2, d2, ds2, p2, q2, rfl, rfl, rfl, h2, r2⟩ := trodAll_cons r1
  obtain ⟨v3, vs3, d3, ds3, p3, q3, rfl, rfl, rfl, h3, r3⟩ := trodAll_cons r2
  obtain ⟨v4, vs4, d4, ds4, p4, q4, rfl, rfl, rfl, h4, r4⟩ := trodAll_cons r3
  obtain ⟨v5, vs5, d5, ds5, p5, q5, rfl, rfl, rfl, h5, r5⟩ := trodAll_cons r4
  obtain ⟨rfl, rfl, rfl⟩ := trodAll_nil r5
  obtain rfl : args = #[v0, v1, v2, v3, v4, v5] := by cases args; simp_all
  obtain ⟨rfl, rfl⟩ := trodVars_none hV
  obtain ⟨a0, len0, cap0, rfl⟩ := okWide_slice Try.underlying60 (hval 0 60 v0 rfl rfl)
  have k0 := h0
  have lt0 : ∀ x ∈ p0, x.block < W.heap.size := by obtain ⟨m, hm⟩ := k0; exact DataW.trod_lt m _ _ _ hm
  obtain ⟨z0, w0⟩ : ∃ zs, IsRow .u8 W a0 len0 cap0 zs := by
    obtain ⟨fuel, hf⟩ := h0
    rcases open_ints Try.underlying60 Try.underlying5 (by kernel_rfl) hf with ⟨hcs, _⟩ | ⟨x, l, c, zs, hcs, _, hl, hm, hz, _, hcell, hwz⟩
    · simp [Value.cells] at hcs
      obtain ⟨rfl, rfl, rfl⟩ := hcs
      exact ⟨[], .inl ⟨rfl, rfl, rfl, rfl⟩⟩
    · simp [Value.cells] at hcs
      obtain ⟨rfl, rfl, rfl⟩ := hcs
      exact ⟨zs, .inr ⟨_, rfl, hl, hm, by simpa using hz, hcell, hwz⟩⟩
  obtain ⟨a1, len1, cap1, rfl⟩ := okWide_slice Try.underlying22 (hval 1 22 v1 rfl rfl)
  have k1 := h1
  have lt1 : ∀ x ∈ p1, x.block < W.heap.size := by obtain ⟨m, hm⟩ := k1; exact DataW.trod_lt m _ _ _ hm
  obtain ⟨z1, w1⟩ : ∃ zs, IsRow .i64 W a1 len1 cap1 zs := by
    obtain ⟨fuel, hf⟩ := h1
    rcases open_ints Try.underlying22 Try.underlying3 (by kernel_rfl) hf with ⟨hcs, _⟩ | ⟨x, l, c, zs, hcs, _, hl, hm, hz, _, hcell, hwz⟩
    · simp [Value.cells] at hcs
      obtain ⟨rfl, rfl, rfl⟩ := hcs
      exact ⟨[], .inl ⟨rfl, rfl, rfl, rfl⟩⟩
    · simp [Value.cells] at hcs
      obtain ⟨rfl, rfl, rfl⟩ := hcs
      exact ⟨zs, .inr ⟨_, rfl, hl, hm, by simpa using hz, hcell, hwz⟩⟩
  obtain ⟨a2, len2, cap2, rfl⟩ := okWide_slice Try.underlying22 (hval 2 22 v2 rfl rfl)
  have k2 := h2
  have lt2 : ∀ x ∈ p2, x.block < W.heap.size := by obtain ⟨m, hm⟩ := k2; exact DataW.trod_lt m _ _ _ hm
  obtain ⟨z2, w2⟩ : ∃ zs, IsRow .i64 W a2 len2 cap2 zs := by
    obtain ⟨fuel, hf⟩ := h2
    rcases open_ints Try.underlying22 Try.underlying3 (by kernel_rfl) hf with ⟨hcs, _⟩ | ⟨x, l, c, zs, hcs, _, hl, hm, hz, _, hcell, hwz⟩
    · simp [Value.cells] at hcs
      obtain ⟨rfl, rfl, rfl⟩ := hcs
      exact ⟨[], .inl ⟨rfl, rfl, rfl, rfl⟩⟩
    · simp [Value.cells] at hcs
      obtain ⟨rfl, rfl, rfl⟩ := hcs
      exact ⟨zs, .inr ⟨_, rfl, hl, hm, by simpa using hz, hcell, hwz⟩⟩
  obtain ⟨a3, rfl, rfl, rfl, w3⟩ := open_int Try.underlying3 (hval 3 3 v3 rfl rfl) h3
  obtain ⟨a4, rfl, rfl, rfl, w4⟩ := open_int Try.underlying3 (hval 4 3 v4 rfl rfl) h4
  obtain ⟨a5, rfl, rfl, rfl, w5⟩ := open_int Try.underlying5 (hval 5 5 v5 rfl rfl) h5
  clear hA0 hval0
  refine (walk a0 len0 cap0 z0 a1 len1 cap1 z1 a2 len2 cap2 z2 a3 a4 a5 W w0 w1 w2 w3 w4 w5).mono fun e W' ⟨he, bel⟩ => ?_
  subst he
  exact ⟨_, rfl, _, _, _, [], _, [], hW', trodAll_mk1 (shut_bool Try.underlying4 _), (trodAll_cons_mk (Below.trod laidOut (by kernel_rfl) (of_decide_eq_true (by kernel_rfl)) k0 bel lt0) (trodAll_cons_mk (Below.trod laidOut (by kernel_rfl) (of_decide_eq_true (by kernel_rfl)) k1 bel lt1) (trodAll_cons_mk (Below.trod laidOut (by kernel_rfl) (of_decide_eq_true (by kernel_rfl)) k2 bel lt2) (trodAll_cons_mk (shut_int Try.underlying3 w3) (trodAll_cons_mk (shut_int Try.underlying3 w4) (trodAll_cons_mk (shut_int Try.underlying5 w5) trodAll_mk0)))))), rfl, bel.frame _, fun h => by cases h⟩

theorem over : Rows.tapeDecodesRow.holds Try.pinned (OpenSpec.ofChange Rows.tapeDecodesSpec) :=
  OpenClaim.holds_of_wide 7 Try.f7 rfl rfl rfl rfl rfl rfl rfl ⟨rfl, rfl, rfl, rfl, rfl⟩ rfl rfl rfl rfl rfl (by kernel_rfl) Try.func7 (by kernel_rfl)
    (of_decide_eq_true (by kernel_rfl)) (by unfold Func.isWrapper; first | (rw [if_pos (by decide +kernel)]; kernel_rfl) | (rw [if_neg (by decide +kernel)]; exact ⟨rfl, rfl⟩))
    (fun os started H enc _ => lifted os started H enc)

/-- ████ THE STATEMENT ████ -/
theorem proved : Rows.TapeDecodesSaid := over
end Go.Proofs.Ytiokiecnglmbnaa.tapeDecodes
