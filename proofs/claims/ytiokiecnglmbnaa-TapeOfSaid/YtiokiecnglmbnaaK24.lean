/-
  The program's decode. Conditions: the bytes' number.
  The program's Decode. Conditions: the bytes' number.
  Decoding what was encoded. Plain mathematics; no function of the program.
  The law's own example: lives.
  The reference's Question of a number. Condition: the number is Go's.
-/
import Derived.Test.YtiokiecnglmbnaaK20
import Derived.Test.YtiokiecnglmbnaaK8
import Derived.Deep.Cut
import Derived.Deep.CutRange
import Derived.Deep.CutBlock
import Derived.IntWalk
import Derived.Test.YtiokiecnglmbnaaK3
import Derived.Test.YtiokiecnglmbnaaK21
import Derived.Test.YtiokiecnglmbnaaK5

namespace Go.Proofs.Ytiokiecnglmbnaa
open Go Go.RowKit Go.Proofs
attribute [local go_sem] Oper.semAt_some

theorem rdC_cases {most : Int} {s : St} (hw : W64 (rdU s).1) : ∃ (m : Nat) (s1 : St), rdC most s = ((m : Int), s1) ∧ ((∃ r, s1 = .ok r) → (m : Int) ≤ most) ∧ (m : Int) < 18446744073709551616 := by
  obtain ⟨h1, h2⟩ := hw
  refine ⟨(rdU s).1.toNat, (rdC most s).2, ?_, ?_, by omega⟩
  · show (_, _) = _
    refine Prod.ext ?_ rfl
    show (rdU s).1 = _
    omega
  · rintro ⟨r, hr⟩
    unfold rdC at hr
    simp only at hr
    split at hr
    · cases hq : (rdU s).2 with
      | ok q => rw [hq] at hr; cases hr
      | bad e => rw [hq] at hr; cases hr
    · omega
theorem u64_pred {m : Nat} (h : 0 < m) (hb : (m : Int) < 18446744073709551616) : IntKind.u64.wrap ((m : Int) - 1) = ((m - 1 : Nat) : Int) := by
  rw [IntKind.wrap_u64]
  omega
theorem InAt.bad_ne' {B g : Nat} {w : World} {e : Int} (h : InAt B w g (.bad e)) : (e == 0) = false := by
  obtain ⟨_, _, _, _, h, _⟩ := h
  exact h
theorem chkO_true {l : List TP.An} {x : TP.An} {s : St} (h : (match l.getLast? with | some b => decide (¬ TP.ltQ b.1 x.1) | none => false) = true) : chkO l x s = s.fail 5 := by
  unfold chkO
  cases hl : l.getLast? with
  | none => rw [hl] at h; cases h
  | some b => rw [hl] at h; exact if_neg (of_decide_eq_true h)
theorem chkO_false {l : List TP.An} {x : TP.An} {s : St} (h : (match l.getLast? with | some b => decide (¬ TP.ltQ b.1 x.1) | none => false) = false) : chkO l x s = s := by
  unfold chkO
  cases hl : l.getLast? with
  | none => rfl
  | some b => rw [hl] at h; exact if_pos (Decidable.not_not.1 (of_decide_eq_false h))
set_option maxHeartbeats 8000000 in
set_option maxRecDepth 100000 in
theorem decode_any {B0 : Nat} {AD : Option Addr} {nD cD : Nat} {zs : List Int} (w : World) (hz : Lst 5 .u8 B0 w AD nD cD zs) (hn : nD ≤ 1000000) (h8 : ∀ x ∈ zs, B8 x) :
    Calls Try.prog 57 #[.slice AD nD cD] w fun e w' => (∃ E ne ce A na ca, e = .returned (.tuple #[.agg #[.slice E ne ce, .slice A na ca], .int .i64 (decT zs).2.endE]) ∧ TapeIs w.heap.size w' E ne ce A na ca (decT zs).1.1 (decT zs).1.2) ∧ Below w.heap.size w w' := by
  obtain ⟨iE, hiE, hzE, hsE, hbE⟩ := info_splitE info_event
  obtain ⟨iA, hiA, hzA, hsA, hbA⟩ := info_split' info_answer
  obtain ⟨U, hU⟩ : ∃ U, w.alloc (.cells #[.slice none 0 0, .slice none 0 0] 26) = U := ⟨_, rfl⟩
  have hb : Below w.heap.size w U := hU ▸ one_box w _
  have hsU : U.heap.size = w.heap.size + 1 := by rw [← hU]; simp
  have kr : U.heap[w.heap.size]? = some (.cells #[.slice none 0 0, .slice none 0 0] 26 (0, 0)) := by rw [← hU]; exact new_at rfl
  have hz' : Lst 5 .u8 B0 U AD nD cD zs := hz.keep fun b C _ hC => hb.block b (heap_lt hC)
  have HNI := Lib.hid (newin_any AD nD cD zs U B0 hz' hn h8)
  have HB := Lib.hid (And.intro hb kr)
  clear hz hz' h8 hb kr
  go_enter Try.func57, Try.ntmps57
  go_wp2_with fail
  refine HNI.out.mono ?_
  rintro e w1 ⟨g, rfl, hg, hin, hb1⟩
  have hs1 := hin.lt
  have hs1' := hb1.size
  have hr1 : w1.heap[w.heap.size]? = _ := (hb1.block _ (by omega)).trans HB.out.2
  have hbw1 := HB.out.1.trans (hb1.mono (by omega))
  have H1 := Lib.hid (And.intro hin (And.intro hr1 hbw1))
  clear hin hb1 hr1 hbw1 HNI hU
  go_upto_region 3 with (fail)
  obtain ⟨w2, hw2⟩ : ∃ w2, w1.alloc (.cells #[.slice none 0 0, .slice none 0 0] 26) = w2 := ⟨_, rfl⟩
  have hb2 : Below w1.heap.size w1 w2 := hw2 ▸ one_box w1 _
  have hs2 : w2.heap.size = w1.heap.size + 1 := by rw [← hw2]; simp
  have hD2 : DcAt w2.heap.size w1.heap.size g w1.heap.size w.heap.size w2 (.ok zs) none 0 0 none 0 0 [] [] := ⟨H1.out.1.below hb2, by rw [← hw2]; exact World.alloc_heap_new w1 _, (hb2.block _ (by omega)).trans H1.out.2.1, ⟨⟨rfl, rfl⟩, World.ownsRow_nil _ _ _ _, World.ownsRow_nil _ _ _ _⟩, by omega, by omega, hs1, by omega⟩
  have H2 := Lib.hid (And.intro hD2 (H1.out.2.2.trans (hb2.mono (by omega))))
  obtain ⟨t5, ht5⟩ : ∃ t5, w1.heap.size = t5 := ⟨_, rfl⟩
  obtain ⟨lo, hlo⟩ : ∃ lo, w2.heap.size = lo := ⟨_, rfl⟩
  rw [hlo, ht5] at H2
  have hlt5 : lo = t5 + 1 := by omega
  have hgt5 : g < t5 := by omega
  have hwg : w.heap.size < g := by omega
  rw [hw2, ht5]
  clear hw2 ht5 hb2 hs2 hD2 H1 hs1 hs1' HB
  obtain ⟨m0, s0, hC0, hm0, hm64⟩ := rdC_cases (most := 5000) (InAt.w64 H2.out.1.rd)
  have HC0 := Lib.hid (And.intro hC0 hm0)
  have HL0 := Lib.hid (length_any g 5000 (.ok zs) w2 H2.out.1.rd (by decide) (by decide))
  rw [hC0] at HL0
  clear hC0 hm0
  go_upto_block 0 with (go_at_call 77; refine HL0.out.mono ?_; rintro e w3 ⟨rfl, h3, b3⟩)
  have hB3 : Below w.heap.size w w3 := H2.out.2.grown b3 (by have := H2.out.2.size; omega) (fun b e => by injection e with e; omega)
  have HD3 := Lib.hid (And.intro (H2.out.1.but b3 h3) hB3)
  clear h3 b3 hB3 HL0 hlo
  obtain ⟨⟨es1, s1⟩, hE1⟩ : ∃ y, rdEs m0 [] s0 = y := ⟨_, rfl⟩
  go_cut [] from 14 (fun V => ∃ ne ce E, Hid (DcAt lo t5 g t5 w.heap.size V s1 E ne ce none 0 0 es1 []) ∧ Hid (Below w.heap.size w V))
  case first =>
    go_wp2_with fail
    go_loopw [6] (fun x V => ∃ (m ne ce : Nat) (E : Option Addr) (es : List NM.Ev) (s : St), x = .int .u64 (m : Int) ∧ m ≤ m0 ∧ Hid (DcAt lo t5 g t5 w.heap.size V s E ne ce none 0 0 es []) ∧ Hid (Below w.heap.size w V) ∧ Hid (rdEs m es s = rdEs m0 [] s0) ∧ Hid ((∃ r, s = .ok r) → ne + m ≤ 5000)) (fun x _ => (intOf x).toNat)
    case atStart => exact ⟨m0, 0, 0, none, [], s0, rfl, Nat.le_refl _, HD3.out.1, HD3.out.2, rfl, (fun h => by have := HC0.out.2 h; omega)⟩
    case round =>
      obtain ⟨m, ne, ce, E, es, s, rfl, hmm, HD, HV, HQ, HN⟩ := hrel
      by_cases hm : 0 < m
      · have dm : decide (0 < m) = true := decide_eq_true hm
        cases s with
        | bad ee =>
          obtain ⟨he1, he2⟩ : es = es1 ∧ s1 = .bad ee := by
            have := HQ.out
            rw [rdEs_bad, hE1] at this
            injection this with p q
            exact ⟨p, q.symm⟩
          subst he1
          subst he2
          have hee : (ee == 0) = false := HD.out.rd.bad_ne'
          have HE := Lib.hid (in_err g _ wr HD.out.rd)
          go_wp2_with (go_at_call 78; refine HE.out.mono ?_; clear HE; rintro e w4 ⟨rfl, rfl⟩; simp only [St.err])
          go_meet
          case rel => exact ⟨ne, ce, E, HD, HV⟩
        | ok rr =>
          have hnm := HN.out ⟨rr, rfl⟩
          have HE := Lib.hid (in_err g _ wr HD.out.rd)
          go_upto_region 6 with (go_at_call 78; refine HE.out.mono ?_; clear HE; rintro e w4 ⟨rfl, rfl⟩; simp only [St.err])
          obtain ⟨⟨xk, xn, xa, ⟨xc, xh, xt, xi, xp⟩⟩, hx⟩ : ∃ x, (rdE (.ok rr)).1 = x := ⟨_, rfl⟩
          obtain ⟨s5, hs5⟩ : ∃ s5, (rdE (.ok rr)).2 = s5 := ⟨_, rfl⟩
          have hev := event_anyD g (.ok rr) wr.drew (HD.out.rd.below (Below.refl _ _).drew)
          rw [hx, hs5] at hev
          have HEV := Lib.hid hev
          have HQ5 := Lib.hid (show rdEs (m - 1) (es ++ [⟨xk, xn, xa, ⟨xc, xh, xt, xi, xp⟩⟩]) s5 = rdEs m0 [] s0 from by
            rw [← HQ.out, show m = (m - 1) + 1 by omega, rdEs, hx, hs5]
            rfl)
          clear hev hx hs5
          obtain ⟨⟨b0, b1⟩, bf0, bf1⟩ := row2 HD.out.box
          go_region_law (first
            | (go_simp; go_at_call 79; refine HEV.out.mono ?_; clear HEV; rintro e w5 ⟨rfl, h5, b5⟩
               have hd5 : But g wr w5 := ⟨b5.os, b5.tape, b5.output, b5.size, b5.block⟩
               have D5 := HD.out.but hd5 h5
               obtain ⟨⟨d0, d1⟩, df0, df1⟩ := row2 D5.box
               have hA5 : ∀ o : Obj, (w5.alloc o).cell? ⟨t5, 0, none⟩ = some (.slice E ne ce) := fun o => (World.cell?_of_block (w := w5) (Below.heap_alloc _ _ _ (heap_lt D5.box))).trans d0
               have hl5 := heap_lt D5.box
               have H5 := Lib.hid (And.intro D5 hd5)
               clear h5 b5 hd5 D5)
            | (refine step_append_lies _ rfl (.tmp 24) (.tmp 27) 23 rfl lo 47 iE _ 8 64 Try.underlying23 hiE hzE hsE hbE rfl (by decide) (.slice E ne ce) ne (es.flatMap evC) (by simp [Act.eval]) (own_belowT H5.out.1.row.2.1 (one_box w5 _)) ⟨w5.heap.size, 0, none⟩ 1 1 (evC ⟨xk, xn, xa, ⟨xc, xh, xt, xi, xp⟩⟩) (by simp [Act.eval]) rfl (World.news_of_block (World.alloc_heap_new w5 _)) (by simp [evC, Value.oneCell']) (by decide) (by simp only [maxLen]; omega) (by omega) (by simp; omega) _ rfl ?_
               intro g7 c7 w7 hown7 hgr7 _ _
               have D7 := H5.out.1.below (one_box w5 (.cells #[.int .i64 xk, .int .i64 xn, .int .i64 xa, .int .i64 xc, .int .i64 xh, .int .i64 xt, .int .i64 xi, .int .i64 xp] 47))
               have hob : ∀ b, (Value.slice E ne ce).ownBlock = some b → lo ≤ b := fun b hb => (evRow_ne D7.row.2.1 hb).1
               obtain ⟨⟨p0, p1⟩, pf0, pf1⟩ := row2 ((hgr7.block t5 (heap_lt D7.box) (fun e => by have := hob _ e.symm; omega)).trans D7.box)
               have H7 := Lib.hid (And.intro D7 (And.intro hown7 hgr7))
               clear D7 hown7 hgr7 hob))
          all_goals
            have hwm := u64_pred hm (by omega : (m : Int) < 18446744073709551616)
            obtain ⟨D7, hown7, hgr7⟩ := H7.out
            have hob : ∀ b, (Value.slice E ne ce).ownBlock = some b → lo ≤ b := fun b hb => (evRow_ne D7.row.2.1 hb).1
            have D8 := Lib.hid (D7.event hown7 hgr7)
            have hV5 : Below w.heap.size w w5 := HV.out.grown H5.out.2 (by have := HV.out.size; omega) (fun b e => by injection e with e; omega)
            have hV7 := (hV5.alloc hV5.size _).grown hgr7 (by have := hV5.size; simp; omega) (fun b e => by have := hob _ e; omega)
            have HV8 := Lib.hid (hV7.setCell (p := ⟨t5, 0, none⟩) (by show w.heap.size ≤ t5; omega) (.slice (some ⟨g7, 0, none⟩) (ne + 1) c7))
            clear D7 hown7 hgr7 hob hV5 hV7 H7 H5
            go_wp2_with fail
            go_roundw
            case rel => exact ⟨m - 1, ne + 1, c7, _, _, s5, rfl, by omega, D8, HV8, HQ5, (fun _ => by omega)⟩
            case measure => simp [intOf]; omega
      · have dm : decide (0 < m) = false := decide_eq_false hm
        obtain rfl : m = 0 := by omega
        obtain ⟨he1, he2⟩ : es = es1 ∧ s = s1 := by
          have := HQ.out
          rw [rdEs, hE1] at this
          injection this with p q
          exact ⟨p, q⟩
        subst he1
        subst he2
        go_wp2_with fail
        go_meet
        case rel => exact ⟨ne, ce, E, HD, HV⟩
  case rest =>
    obtain ⟨ne, ce, E, HD1, HV1⟩ := hcut
    clear HD3 H2
    obtain ⟨m1, s2, hC1, hm1, hm164⟩ := rdC_cases (most := 10000) (InAt.w64 HD1.out.rd)
    have HC1 := Lib.hid (And.intro hC1 hm1)
    have HL1 := Lib.hid (length_any g 10000 s1 wc HD1.out.rd (by decide) (by decide))
    rw [hC1] at HL1
    clear hC1 hm1
    go_upto_block 2 with (go_at_call 77; refine HL1.out.mono ?_; rintro e w4 ⟨rfl, h4, b4⟩)
    have hB4 : Below w.heap.size w w4 := HV1.out.grown b4 (by have := HV1.out.size; omega) (fun b e => by injection e with e; omega)
    have HD4 := Lib.hid (And.intro (HD1.out.but b4 h4) hB4)
    clear h4 b4 hB4 HL1 HD1 HV1
    obtain ⟨⟨l1, s3⟩, hA1⟩ : ∃ y, rdAs m1 [] s2 = y := ⟨_, rfl⟩
    go_cut [] from 32 (fun V => ∃ na ca A, Hid (DcAt lo t5 g t5 w.heap.size V s3 E ne ce A na ca es1 l1) ∧ Hid (Below w.heap.size w V))
    case first =>
      go_wp2_with fail
      go_loopw [7] (fun x V => ∃ (m na ca : Nat) (A : Option Addr) (l : List TP.An) (s : St), x = .int .u64 (m : Int) ∧ m ≤ m1 ∧ Hid (DcAt lo t5 g t5 w.heap.size V s E ne ce A na ca es1 l) ∧ Hid (Below w.heap.size w V) ∧ Hid (rdAs m l s = rdAs m1 [] s2) ∧ Hid ((∃ r, s = .ok r) → na + m ≤ 10000)) (fun x _ => (intOf x).toNat)
      case atStart => exact ⟨m1, 0, 0, none, [], s2, rfl, Nat.le_refl _, HD4.out.1, HD4.out.2, rfl, (fun h => by have := HC1.out.2 h; omega)⟩
      case round =>
        obtain ⟨m, na, ca, A, l, s, rfl, hmm, HD, HV, HQ, HN⟩ := hrel
        by_cases hm : 0 < m
        · have dm : decide (0 < m) = true := decide_eq_true hm
          cases s with
          | bad ee =>
            obtain ⟨he1, he2⟩ : l = l1 ∧ s3 = .bad ee := by
              have := HQ.out
              rw [rdAs_bad, hA1] at this
              injection this with p q
              exact ⟨p, q.symm⟩
            subst he1
            subst he2
            have hee : (ee == 0) = false := HD.out.rd.bad_ne'
            have HE := Lib.hid (in_err g _ wr HD.out.rd)
            go_wp2_with (go_at_call 78; refine HE.out.mono ?_; clear HE; rintro e w4 ⟨rfl, rfl⟩; simp only [St.err])
            go_meet
            case rel => exact ⟨na, ca, A, HD, HV⟩
          | ok rr =>
            have hnm := HN.out ⟨rr, rfl⟩
            have HE := Lib.hid (in_err g _ wr HD.out.rd)
            go_upto_region 10 with (go_at_call 78; refine HE.out.mono ?_; clear HE; rintro e w4 ⟨rfl, rfl⟩; simp only [St.err])
            obtain ⟨⟨⟨xc, xh, xt, xk, xi⟩, y⟩, hx⟩ : ∃ x, (rdA (.ok rr)).1 = x := ⟨_, rfl⟩
            obtain ⟨s5, hs5⟩ : ∃ s5, (rdA (.ok rr)).2 = s5 := ⟨_, rfl⟩
            have han := answer_anyD g (.ok rr) wr HD.out.rd
            rw [hx, hs5] at han
            have HAN := Lib.hid han
            have HQ5 := Lib.hid (show rdAs (m - 1) (l ++ [(⟨xc, xh, xt, xk, xi⟩, y)]) (chkA l (⟨xc, xh, xt, xk, xi⟩, y) s5) = rdAs m1 [] s2 from by
              rw [← HQ.out, show m = (m - 1) + 1 by omega, rdAs, hx, hs5]
              rfl)
            clear han hx hs5
            go_upto_region 12 with (go_at_call 80; refine HAN.out.mono ?_; clear HAN; rintro e w5 ⟨rfl, h5, b5⟩
                                    have D5 := HD.out.but b5 h5
                                    have hA5 : ∀ o : Obj, (w5.alloc o).cell? ⟨t5, 1, none⟩ = some (.slice A na ca) := fun o => (World.cell?_of_block (w := w5) (Below.heap_alloc _ _ _ (heap_lt D5.box))).trans (row2 D5.box).1.2
                                    have hl5 := heap_lt D5.box
                                    have H5 := Lib.hid (And.intro D5 b5)
                                    clear h5 b5 D5)
            obtain ⟨W6, hW6⟩ : ∃ W, w5.alloc (.cells #[.int .i64 xc, .int .i64 xh, .int .i64 xt, .int .i64 xk, .int .i64 xi, .int .i64 y] 71) = W := ⟨_, rfl⟩
            rw [hW6]
            have hb6 : Below w5.heap.size w5 W6 := hW6 ▸ one_box w5 _
            have k6 : W6.heap[w5.heap.size]? = some (.cells #[.int .i64 xc, .int .i64 xh, .int .i64 xt, .int .i64 xk, .int .i64 xi, .int .i64 y] 71 (0, 0)) := by rw [← hW6]; exact World.alloc_heap_new w5 _
            have hs6 : W6.heap.size = w5.heap.size + 1 := by rw [← hW6]; simp
            have hV5 : Below w.heap.size w w5 := HV.out.grown H5.out.2 (by have := HV.out.size; omega) (fun b e => by injection e with e; omega)
            have H6 := Lib.hid (And.intro (H5.out.1.below hb6) (And.intro (hV5.trans (hb6.mono hV5.size)) k6))
            obtain ⟨g6, hg6⟩ : ∃ g6, w5.heap.size = g6 := ⟨_, rfl⟩
            rw [hg6] at H6 hs6 hl5
            rw [hg6]
            clear hW6 hb6 k6 hV5 hA5 H5 hg6
            obtain ⟨bo, hbo⟩ : ∃ bo : Bool, (match l.getLast? with | some b => decide (¬ TP.ltQ b.1 ⟨xc, xh, xt, xk, xi⟩) | none => false) = bo := ⟨_, rfl⟩
            go_cut [60] from 46 to 60 (fun s60 V => s60 = .bool bo ∧ Hid (Below W6.heap.size W6 V))
            case first =>
              obtain ⟨⟨b0, b1⟩, bf0, bf1⟩ := row2 H6.out.1.box
              obtain ⟨⟨⟨q0, q1⟩, q2, q3⟩, q4, q5⟩ := row6D H6.out.2.2
              by_cases hna : 0 < na
              · have dn : decide (0 < na) = true := decide_eq_true hna
                obtain ⟨k, rfl⟩ : ∃ k, na = k + 1 := ⟨na - 1, by omega⟩
                obtain ⟨⟨⟨uc, uh, ut, uk, ui⟩, z⟩, hu⟩ : ∃ x, l.getLast? = some x := by
                  cases hl : l.getLast? with
                  | none => rw [List.getLast?_eq_none_iff] at hl; have := H6.out.1.row.1.2; rw [hl] at this; cases this
                  | some x => exact ⟨x, rfl⟩
                have hbo' : decide (¬ TP.ltQ ⟨uc, uh, ut, uk, ui⟩ ⟨xc, xh, xt, xk, xi⟩) = bo := by rw [← hbo, hu]
                have huk : l[k]? = some (⟨uc, uh, ut, uk, ui⟩, z) := by rw [← hu, List.getLast?_eq_getElem?, H6.out.1.row.1.2]; rfl
                obtain ⟨gA, hgA, hgl, hxa⟩ := (ans_of_own H6.out.1.row.2.2 H6.out.1.row.1.2).1.2 (by omega)
                obtain ⟨r0, r1, r2, r3, r4, r5⟩ := hxa k _ huk
                subst hgA
                have hwk : IntKind.i64.wrap (k : Int) = (k : Int) := IntWalk.i64_in _ (by omega)
                have hk1 : (k : Int) < (k : Int) + 1 := by omega
                have HC := Lib.hid (fun V => (cmpQueD_any ⟨uc, uh, ut, uk, ui⟩ ⟨xc, xh, xt, xk, xi⟩ V).mono fun _ _ h => And.intro h.1 h.2.1)
                clear hxa huk hu hbo
                go_region_law (go_simp; go_at_call 39; refine (HC.out _).mono ?_; clear HC; rintro e w7 ⟨rfl, b7⟩)
                all_goals
                  go_wp2_with fail
                  go_meet
                  case rel => exact ⟨by rw [← hbo']; simp only [TP.ltQ, Int.not_lt], (Below.refl W6.heap.size W6).drew.trans b7⟩
              · have dn : decide (0 < na) = false := decide_eq_false hna
                obtain rfl : na = 0 := by omega
                have hl0 : l = [] := List.length_eq_zero_iff.1 H6.out.1.row.1.2
                subst hl0
                obtain rfl : false = bo := hbo
                go_quiet (fail)
                all_goals
                  go_wp2_with fail
                  go_meet
                  case rel => exact ⟨rfl, (drewN_below W6 _)⟩
            case rest =>
              obtain ⟨rfl, HW⟩ := hcut
              have hl6 : t5 < W6.heap.size := by omega
              have D7 := H6.out.1.below HW.out
              have V7 := H6.out.2.1.trans (HW.out.mono H6.out.2.1.size)
              have k7 := (HW.out.block g6 (by omega)).trans H6.out.2.2
              have H7 := Lib.hid (And.intro D7 (And.intro V7 k7))
              clear D7 V7 k7 H6 HW
              go_upto_if 60 with (fail)
              go_cut [] from 61 to 62 (fun V => Hid (DcAt lo t5 g t5 w.heap.size V (chkO l (⟨xc, xh, xt, xk, xi⟩, y) s5) E ne ce A na ca es1 l ∧ Below w.heap.size w V ∧ V.heap[g6]? = some (.cells #[.int .i64 xc, .int .i64 xh, .int .i64 xt, .int .i64 xk, .int .i64 xi, .int .i64 y] 71 (0, 0))))
              case first =>
                cases bo with
                | true =>
                  have hck := Lib.hid (chkO_true (x := (⟨xc, xh, xt, xk, xi⟩, y)) (s := s5) hbo)
                  have HF := Lib.hid (in_fail g s5 5 wc H7.out.1.rd rfl ⟨by decide, by decide⟩)
                  clear hbo
                  go_wp2_with (go_at_call 81; refine HF.out.mono ?_; clear HF; rintro e w8 ⟨rfl, h8, b8⟩)
                  go_meet
                  case rel =>
                    rw [hck.out]
                    exact ⟨H7.out.1.but b8 h8, H7.out.2.1.grown b8 (by have := H7.out.2.1.size; omega) (fun b e => by injection e with e; omega), (b8.block g6 (heap_lt H7.out.2.2) (fun e => by injection e with e; omega)).trans H7.out.2.2⟩
                | false =>
                  have hck := Lib.hid (chkO_false (x := (⟨xc, xh, xt, xk, xi⟩, y)) (s := s5) hbo)
                  clear hbo
                  go_wp2_with fail
                  go_meet
                  case rel =>
                    rw [hck.out]
                    exact H7.out
              case rest =>
              clear H7 hbo
              have H8 := hcut
              clear hcut
              obtain ⟨⟨⟨q0, q1⟩, q2, q3⟩, q4, q5⟩ := row6D H8.out.2.2
              go_upto_if 65 with (fail)
              obtain ⟨bz, hbz⟩ : ∃ bz : Bool, decide (y ≤ 0) = bz := ⟨_, rfl⟩
              rw [hbz]
              go_cut [] from 63 to 67 (fun V => Hid (DcAt lo t5 g t5 w.heap.size V (chkA l (⟨xc, xh, xt, xk, xi⟩, y) s5) E ne ce A na ca es1 l ∧ Below w.heap.size w V ∧ V.heap[g6]? = some (.cells #[.int .i64 xc, .int .i64 xh, .int .i64 xt, .int .i64 xk, .int .i64 xi, .int .i64 y] 71 (0, 0))))
              case first =>
                cases bz with
                | true =>
                  have hy : y ≤ 0 := of_decide_eq_true hbz
                  have hck := Lib.hid (show chkA l (⟨xc, xh, xt, xk, xi⟩, y) s5 = (chkO l (⟨xc, xh, xt, xk, xi⟩, y) s5).fail 6 from if_pos hy)
                  clear hbz hy
                  have HF := Lib.hid (in_fail g _ 6 wc H8.out.1.rd rfl ⟨by decide, by decide⟩)
                  go_wp2_with (go_at_call 81; refine HF.out.mono ?_; clear HF; rintro e w8 ⟨rfl, h8, b8⟩)
                  go_meet
                  case rel =>
                    rw [hck.out]
                    exact ⟨H8.out.1.but b8 h8, H8.out.2.1.grown b8 (by have := H8.out.2.1.size; omega) (fun b e => by injection e with e; omega), (b8.block g6 (heap_lt H8.out.2.2) (fun e => by injection e with e; omega)).trans H8.out.2.2⟩
                | false =>
                  have hy : ¬ y ≤ 0 := of_decide_eq_false hbz
                  have hck := Lib.hid (show chkA l (⟨xc, xh, xt, xk, xi⟩, y) s5 = chkO l (⟨xc, xh, xt, xk, xi⟩, y) s5 from if_neg hy)
                  clear hbz hy
                  go_wp2_with fail
                  go_meet
                  case rel =>
                    rw [hck.out]
                    exact H8.out
              case rest =>
              have H9 := hcut
              clear hbz hcut H8 q0 q1 q2 q3 q4 q5
              obtain ⟨⟨b0, b1⟩, bf0, bf1⟩ := row2 H9.out.1.box
              obtain ⟨⟨⟨q0, q1⟩, q2, q3⟩, q4, q5⟩ := row6D H9.out.2.2
              have lT := heap_lt H9.out.1.box
              have hwm := u64_pred hm (by omega : (m : Int) < 18446744073709551616)
              go_wp2_with (at_builtin; refine wpList_append_lies _ rfl (.tmp 69) (.tmp 71) 24 rfl lo 71 iA _ 6 48 Try.underlying24 hiA hzA hsA hbA rfl (by decide) (.slice A na ca) na (TP.ansC l) (by simp [Act.eval]) (own_belowT H9.out.1.row.2.2 (one_box wc _)) ⟨wc.heap.size, 0, none⟩ 1 1 (TP.anC (⟨xc, xh, xt, xk, xi⟩, y)) (by simp [Act.eval]) rfl (World.news_of_block (World.alloc_heap_new wc _)) (by simp [TP.anC, Value.oneCell']) (by decide) (by simp only [maxLen]; omega) (by omega) (by simp; omega) _ rfl ?_
                           intro g10 c10 w10 hown10 hgr10 _ _
                           have D10 := H9.out.1.below (one_box wc (.cells #[.int .i64 xc, .int .i64 xh, .int .i64 xt, .int .i64 xk, .int .i64 xi, .int .i64 y] 71))
                           have hob : ∀ b, (Value.slice A na ca).ownBlock = some b → lo ≤ b := fun b hb => (anRow_ne D10.row.2.2 hb).1
                           obtain ⟨⟨p0, p1⟩, pf0, pf1⟩ := row2 ((hgr10.block t5 (heap_lt D10.box) (fun e => by have := hob _ e.symm; omega)).trans D10.box)
                           have V10 := (H9.out.2.1.trans ((one_box wc (.cells #[.int .i64 xc, .int .i64 xh, .int .i64 xt, .int .i64 xk, .int .i64 xi, .int .i64 y] 71)).mono H9.out.2.1.size)).grown hgr10 (by have := H9.out.2.1.size; simp; omega) (fun b e => by have := hob _ e; omega)
                           have D11 := Lib.hid (D10.answer hown10 hgr10)
                           have V11 := Lib.hid (V10.setCell (p := ⟨t5, 1, none⟩) (by show w.heap.size ≤ t5; omega) (.slice (some ⟨g10, 0, none⟩) (na + 1) c10))
                           clear D10 hown10 hgr10 hob V10)
              go_roundw
              case rel => exact ⟨m - 1, na + 1, c10, _, _, _, rfl, by omega, D11, V11, HQ5, (fun _ => by omega)⟩
              case measure => simp [intOf]; omega
        · have dm : decide (0 < m) = false := decide_eq_false hm
          obtain rfl : m = 0 := by omega
          obtain ⟨he1, he2⟩ : l = l1 ∧ s = s3 := by
            have := HQ.out
            rw [rdAs, hA1] at this
            injection this with p q
            exact ⟨p, q⟩
          subst he1
          subst he2
          go_wp2_with fail
          go_meet
          case rel => exact ⟨na, ca, A, HD, HV⟩
    case rest =>
      obtain ⟨na, ca, A, HD, HV⟩ := hcut
      have hdec := Lib.hid (show decT zs = ((es1, l1), s3) from by
        unfold decT
        rw [HC0.out.1]
        simp only [Int.toNat_natCast, hE1, HC1.out.1, hA1])
      clear hE1 hA1 HC0 HC1 HD4
      obtain ⟨⟨b0, b1⟩, bf0, bf1⟩ := row2 HD.out.box
      obtain ⟨⟨r0, r1⟩, rf0, rf1⟩ := row2 HD.out.res
      have HN := Lib.hid (in_end g s3 wc.drew (HD.out.rd.below (Below.refl _ _).drew))
      go_upto_region 17 with (fail)
      go_region_law (go_simp; go_at_call 82; refine HN.out.mono ?_; clear HN; rintro e w8 ⟨rfl, rfl⟩)
      all_goals
        go_wp2_with fail
        obtain ⟨W8, e8, k8, o8, z8, p8, q8, t8⟩ := set1D (V := wc) HD.out.res (i := 0) (.slice E ne ce)
        rw [e8]
        clear e8
        obtain ⟨W9, e9, k9, o9, z9, p9, q9, t9⟩ := set1D k8 (i := 1) (.slice A na ca)
        rw [e9]
        clear e9
        obtain ⟨⟨y0, y1⟩, _, _⟩ := row2 (V := W9.drew) k9
        have hgr : wc.grownBy W9 (some w.heap.size) := ⟨p9.trans p8, q9.trans q8, t9.trans t8, by rw [z9, z8]; exact Nat.le_refl _, fun b _ hne => (o9 b (fun e => hne (by rw [e]))).trans (o8 b (fun e => hne (by rw [e])))⟩
        have hT := (HD.out.row.grown hgr HD.out.res (by decide) (by decide)).low (show w.heap.size ≤ lo by omega)
        have hV := HV.out.grown hgr HV.out.size (fun b e => by injection e with e; omega)
        refine bodyPost_ret (v := .tuple #[.agg #[.slice E ne ce, .slice A na ca], .int .i64 s3.endE]) (by simp [results, Try.results57, go_sem, y0, y1]) rfl ?_
        rw [hdec.out]
        exact ⟨⟨E, ne, ce, A, na, ca, rfl, hT.keep (Below.refl _ W9).drew⟩, hV.drew⟩
end Go.Proofs.Ytiokiecnglmbnaa

namespace Go.Proofs.Ytiokiecnglmbnaa
open Go Go.RowKit Go.Proofs
attribute [local go_sem] Oper.semAt_some

/-- What Decode returns: no tape, where there is an error. -/
def decP (zs : List Int) : (List NM.Ev × List TP.An) × Int := if (decT zs).2.endE = 0 then ((decT zs).1, 0) else (([], []), (decT zs).2.endE)
theorem tape_nil (lo : Nat) (w : World) : TapeIs lo w none 0 0 none 0 0 [] [] := ⟨⟨rfl, rfl⟩, World.ownsRow_nil _ _ _ _, World.ownsRow_nil _ _ _ _⟩
set_option maxHeartbeats 4000000 in
set_option maxRecDepth 100000 in
theorem decodeP_any {B0 : Nat} {AD : Option Addr} {nD cD : Nat} {zs : List Int} (w : World) (hz : Lst 5 .u8 B0 w AD nD cD zs) (hn : nD ≤ 1000000) (h8 : ∀ x ∈ zs, B8 x) :
    Calls Try.prog 37 #[.slice AD nD cD] w fun e w' => (∃ E ne ce A na ca, e = .returned (.tuple #[.agg #[.slice E ne ce, .slice A na ca], .int .i64 (decP zs).2]) ∧ TapeIs w.heap.size w' E ne ce A na ca (decP zs).1.1 (decP zs).1.2) ∧ Below w.heap.size w w' := by
  obtain ⟨U, hU⟩ : ∃ U, w.alloc (.cells #[.slice none 0 0, .slice none 0 0] 26) = U := ⟨_, rfl⟩
  have hb : Below w.heap.size w U := hU ▸ one_box w _
  have hsU : U.heap.size = w.heap.size + 1 := by rw [← hU]; simp
  have kr : U.heap[w.heap.size]? = some (.cells #[.slice none 0 0, .slice none 0 0] 26 (0, 0)) := by rw [← hU]; exact new_at rfl
  have hz' : Lst 5 .u8 B0 U AD nD cD zs := hz.keep fun b C _ hC => hb.block b (heap_lt hC)
  have HD := Lib.hid (decode_any U hz' hn h8)
  have HB := Lib.hid (And.intro hb kr)
  clear hz hz' h8 hb kr
  go_enter Try.func37, Try.ntmps37
  go_upto_region 2 with (go_at_call 57; refine HD.out.mono ?_; clear HD; rintro e w1 ⟨⟨E, ne, ce, A, na, ca, rfl, hT⟩, hb1⟩; have HT := Lib.hid (And.intro hT hb1); have hs1 := hb1.size; clear hT hb1)
  obtain ⟨W, hW⟩ : ∃ W, w1.alloc (.cells #[.slice E ne ce, .slice A na ca] 26) = W := ⟨_, rfl⟩
  rw [hW]
  have hbW : Below w1.heap.size w1 W := hW ▸ one_box w1 _
  have hsW : W.heap.size = w1.heap.size + 1 := by rw [← hW]; simp
  have k4 : W.heap[w1.heap.size]? = some (.cells #[.slice E ne ce, .slice A na ca] 26 (0, 0)) := by rw [← hW]; exact World.alloc_heap_new w1 _
  have kr : W.heap[w.heap.size]? = _ := (hbW.block _ (by omega)).trans ((HT.out.2.block _ (by omega)).trans HB.out.2)
  have hTW := HT.out.1.keep hbW
  have hVW := (HB.out.1.trans (HT.out.2.mono (by omega))).trans (hbW.mono (by omega))
  obtain ⟨⟨b0, b1⟩, _, _⟩ := row2 k4
  obtain ⟨⟨r0, r1⟩, rf0, rf1⟩ := row2 kr
  have HW := Lib.hid (And.intro hTW (And.intro hVW kr))
  obtain ⟨x, hx⟩ : ∃ x, (decT zs).2.endE = x := ⟨_, rfl⟩
  rw [hx]
  clear hTW hVW kr k4 hbW hW HT HB hU
  by_cases h0 : x = 0
  · have d0 : (x != 0) = false := by rw [h0]; rfl
    have HP := Lib.hid (show decP zs = ((decT zs).1, 0) by unfold decP; rw [if_pos (hx.trans h0)])
    clear hx h0
    go_wp2_with fail
    obtain ⟨W8, e8, k8, o8, z8, p8, q8, t8⟩ := set1D (V := W) HW.out.2.2 (i := 0) (.slice E ne ce)
    rw [e8]
    clear e8
    obtain ⟨W9, e9, k9, o9, z9, p9, q9, t9⟩ := set1D k8 (i := 1) (.slice A na ca)
    rw [e9]
    clear e9
    obtain ⟨⟨y0, y1⟩, _, _⟩ := row2 k9
    have hgr : W.grownBy W9 (some w.heap.size) := ⟨p9.trans p8, q9.trans q8, t9.trans t8, by rw [z9, z8]; exact Nat.le_refl _, fun b _ hne => (o9 b (fun e => hne (by rw [e]))).trans (o8 b (fun e => hne (by rw [e])))⟩
    have hT := (HW.out.1.grown hgr HW.out.2.2 (by decide) (by decide)).low (show w.heap.size ≤ U.heap.size by omega)
    have hV := HW.out.2.1.grown hgr HW.out.2.1.size (fun b e => by injection e with e; omega)
    refine bodyPost_ret (v := .tuple #[.agg #[.slice E ne ce, .slice A na ca], .int .i64 0]) (by simp [results, Try.results37, go_sem, y0, y1]) rfl ?_
    rw [HP.out]
    exact ⟨⟨E, ne, ce, A, na, ca, rfl, hT⟩, hV⟩
  · have d0 : (x != 0) = true := by rw [bne_iff_ne]; exact h0
    have HP := Lib.hid (show decP zs = (([], []), x) by unfold decP; rw [if_neg (by rw [hx]; exact h0), hx])
    clear hx h0
    go_wp2_with fail
    obtain ⟨W8, e8, k8, o8, z8, p8, q8, t8⟩ := set1D (V := W) HW.out.2.2 (i := 0) (.slice none 0 0)
    rw [e8]
    clear e8
    obtain ⟨W9, e9, k9, o9, z9, p9, q9, t9⟩ := set1D k8 (i := 1) (.slice none 0 0)
    rw [e9]
    clear e9
    obtain ⟨⟨y0, y1⟩, _, _⟩ := row2 k9
    have hgr : W.grownBy W9 (some w.heap.size) := ⟨p9.trans p8, q9.trans q8, t9.trans t8, by rw [z9, z8]; exact Nat.le_refl _, fun b _ hne => (o9 b (fun e => hne (by rw [e]))).trans (o8 b (fun e => hne (by rw [e])))⟩
    have hV := HW.out.2.1.grown hgr HW.out.2.1.size (fun b e => by injection e with e; omega)
    refine bodyPost_ret (v := .tuple #[.agg #[.slice none 0 0, .slice none 0 0], .int .i64 x]) (by simp [results, Try.results37, go_sem, y0, y1]) rfl ?_
    rw [HP.out]
    exact ⟨⟨none, 0, 0, none, 0, 0, rfl, tape_nil _ _⟩, hV⟩
end Go.Proofs.Ytiokiecnglmbnaa

namespace Go.Proofs.Ytiokiecnglmbnaa
open Go

theorem rdI_encT (n : Int) (rest : List Int) (h : I64 n) : rdI (.ok (encI n ++ rest)) = (n, .ok rest) := by
  unfold rdI encI
  rw [rdU_enc _ _ (zig_w h), unzig_zig]
theorem rdZ_enc (l : List Int) : ∀ (rest : List Int), (∀ x ∈ l, I64 x) → rdZ l.length (.ok (encN l ++ rest)) = (l, .ok rest) := by
  unfold encN
  induction l with
  | nil => intro rest _; rfl
  | cons x xs ih =>
    intro rest h
    rw [List.length_cons, rdZ, List.flatMap_cons, List.append_assoc, rdI_encT x _ (h x (by simp))]
    simp only
    rw [ih _ (fun y hy => h y (by simp [hy]))]
theorem rdE_enc (x : NM.Ev) (rest : List Int) (h : ∀ y ∈ NM.evL x, I64 y) : rdE (.ok (encN (NM.evL x) ++ rest)) = (x, .ok rest) := by
  have h1 : rdZ 8 (.ok (encN (NM.evL x) ++ rest)) = _ := rdZ_enc (NM.evL x) rest h
  unfold rdE
  rw [h1]
  rfl
theorem rdA_enc (x : TP.An) (rest : List Int) (h : ∀ y ∈ anL x, I64 y) : rdA (.ok (encN (anL x) ++ rest)) = (x, .ok rest) := by
  have h1 : rdZ 6 (.ok (encN (anL x) ++ rest)) = _ := rdZ_enc (anL x) rest h
  unfold rdA
  rw [h1]
  rfl
theorem rdEs_enc : ∀ (es acc : List NM.Ev) (rest : List Int), (∀ e ∈ es, ∀ y ∈ NM.evL e, I64 y) → rdEs es.length acc (.ok (es.flatMap (fun e => encN (NM.evL e)) ++ rest)) = (acc ++ es, .ok rest)
  | [], acc, rest, _ => by simp [rdEs]
  | x :: es, acc, rest, h => by
    rw [List.length_cons, List.flatMap_cons, List.append_assoc, rdEs, rdE_enc x _ (h x (by simp))]
    simp only
    rw [rdEs_enc es _ _ (fun e he => h e (by simp [he]))]
    simp
theorem rdAs_enc : ∀ (l acc : List TP.An) (rest : List Int), (∀ e ∈ l, ∀ y ∈ anL e, I64 y) → TP.Srt (acc ++ l) → (∀ x ∈ l, 0 < x.2) → rdAs l.length acc (.ok (l.flatMap (fun e => encN (anL e)) ++ rest)) = (acc ++ l, .ok rest)
  | [], acc, rest, _, _, _ => by simp [rdAs]
  | x :: l, acc, rest, h, hs, hp => by
    rw [List.length_cons, List.flatMap_cons, List.append_assoc, rdAs, rdA_enc x _ (h x (by simp))]
    have hc : chkA acc x (.ok (l.flatMap (fun e => encN (anL e)) ++ rest)) = .ok (l.flatMap (fun e => encN (anL e)) ++ rest) := by
      have hx := hp x (by simp)
      unfold chkA chkO
      rw [if_neg (by omega)]
      cases hl : acc.getLast? with
      | none => rfl
      | some b =>
        have hb : b ∈ acc := List.mem_of_getLast? hl
        exact if_pos ((List.pairwise_append.1 hs).2.2 b hb x (by simp))
    simp only [hc]
    rw [rdAs_enc l _ _ (fun e he => h e (by simp [he])) (by simpa using hs) (fun y hy => hp y (by simp [hy]))]
    simp
theorem rdC_enc (most n : Nat) (rest : List Int) (h : n ≤ most) (h2 : most ≤ 1000000) : rdC most (.ok (encU n ++ rest)) = ((n : Int), .ok rest) := by
  unfold rdC
  rw [rdU_enc _ _ ⟨by omega, by omega⟩]
  simp only
  rw [if_neg (by omega)]
/-- Decoding an encoding gives the tape. -/
theorem decT_enc (es : List NM.Ev) (l : List TP.An) (h1 : es.length ≤ 5000) (h2 : l.length ≤ 10000) (he : ∀ e ∈ es, ∀ y ∈ NM.evL e, I64 y) (ha : ∀ e ∈ l, ∀ y ∈ anL e, I64 y) (hs : TP.Srt l) (hp : ∀ x ∈ l, 0 < x.2) : decT (encT es l) = ((es, l), .ok []) := by
  have e1 : encT es l = encU es.length ++ (es.flatMap (fun e => encN (NM.evL e)) ++ (encU l.length ++ (l.flatMap (fun x => encN (anL x)) ++ []))) := by simp [encT]
  have c1 := rdC_enc 5000 es.length (es.flatMap (fun e => encN (NM.evL e)) ++ (encU l.length ++ (l.flatMap (fun x => encN (anL x)) ++ []))) h1 (by omega)
  have c2 := rdEs_enc es [] (encU l.length ++ (l.flatMap (fun x => encN (anL x)) ++ [])) he
  have c3 := rdC_enc 10000 l.length (l.flatMap (fun x => encN (anL x)) ++ []) h2 (by omega)
  have c4 := rdAs_enc l [] [] ha (by simpa using hs) hp
  rw [e1]
  unfold decT
  rw [show ((5000 : Int)) = ((5000 : Nat) : Int) from rfl, show ((10000 : Int)) = ((10000 : Nat) : Int) from rfl, c1]
  simp only [Int.toNat_natCast, c2, c3, c4, List.nil_append]
theorem decP_enc (es : List NM.Ev) (l : List TP.An) (h1 : es.length ≤ 5000) (h2 : l.length ≤ 10000) (he : ∀ e ∈ es, ∀ y ∈ NM.evL e, I64 y) (ha : ∀ e ∈ l, ∀ y ∈ anL e, I64 y) (hs : TP.Srt l) (hp : ∀ x ∈ l, 0 < x.2) : decP (encT es l) = ((es, l), 0) := by
  unfold decP
  rw [decT_enc es l h1 h2 he ha hs hp]
  rfl
end Go.Proofs.Ytiokiecnglmbnaa

namespace Go.Proofs.Ytiokiecnglmbnaa
open Go Go.RowKit Go.Proofs
attribute [local go_sem] Oper.semAt_some

abbrev qLv : NM.Qu := ⟨0, 0, 0, 1, 0⟩
abbrev eLv : NM.Ev := ⟨7, 0, 0, ⟨0, 0, 0, 0, 0⟩⟩
abbrev lLv : List TP.An := [(qLv, 2), (qLv, 0)]
theorem four_boxes (w : World) (A B C D : Obj) : ∃ U, (((w.alloc A).alloc B).alloc C).alloc D = U ∧ Below w.heap.size w U ∧ U.heap[w.heap.size]? = some A ∧ U.heap[w.heap.size + 1]? = some B ∧ U.heap[w.heap.size + 1 + 1]? = some C ∧ U.heap[w.heap.size + 1 + 1 + 1]? = some D ∧ U.heap.size = w.heap.size + 1 + 1 + 1 + 1 := by
  obtain ⟨V, hV, hb, h1, h2, h3, _⟩ := three_boxes w A B C
  have hs : V.heap.size = w.heap.size + 1 + 1 + 1 := by rw [← hV]; simp
  have hb2 := one_box V D
  refine ⟨V.alloc D, by rw [hV], hb.trans (hb2.mono (by omega)), (hb2.block _ (by omega)).trans h1, (hb2.block _ (by omega)).trans h2, (hb2.block _ (by omega)).trans h3, ?_, by simp [hs]⟩
  rw [← hs]
  exact World.alloc_heap_new V D
theorem lv_norm : TP.normA lLv = [] := by decide
theorem lv_with : TP.withA lLv qLv 3 = [(qLv, 3)] := by decide
theorem lv_norm2 : TP.normA [(qLv, 3)] = [(qLv, 3)] := by decide
theorem lv_get : TP.getA lLv qLv = 0 := by decide
theorem lv_get2 : TP.getA [(qLv, 3)] qLv = 3 := by decide
theorem lv_b8 : ∀ x ∈ encT [eLv] [(qLv, 3)], B8 x := by
  have : encT [eLv] [(qLv, 3)] = [1, 14, 0, 0, 0, 0, 0, 0, 0, 1, 0, 0, 0, 2, 0, 6] := by decide
  rw [this]
  intro x hx
  simp only [List.mem_cons, List.not_mem_nil, or_false] at hx
  rcases hx with h | h | h | h | h | h | h | h | h | h | h | h | h | h | h | h <;> subst h <;> exact ⟨by decide, by decide⟩
theorem lv_len : (encT [eLv] [(qLv, 3)]).length = 16 := by decide
theorem lv_ev : ∀ e ∈ [eLv], ∀ y ∈ NM.evL e, I64 y := by
  intro e he y hy
  rw [List.mem_singleton.1 he] at hy
  simp [NM.evL, NM.msL] at hy
  rcases hy with h | h <;> subst h <;> exact ⟨by decide, by decide⟩
theorem lv_an : ∀ e ∈ [((qLv, 3) : TP.An)], ∀ y ∈ anL e, I64 y := by
  intro e he y hy
  rw [List.mem_singleton.1 he] at hy
  simp [anL, NM.quL] at hy
  rcases hy with h | h | h | h <;> subst h <;> exact ⟨by decide, by decide⟩
theorem lv_dec : decP (encT [eLv] [(qLv, 3)]) = (([eLv], [(qLv, 3)]), 0) :=
  decP_enc _ _ (by decide) (by decide) lv_ev lv_an (by rw [← lv_norm2]; exact TP.norm_srt _) (by intro x hx; rw [List.mem_singleton.1 hx]; decide)
theorem lv_tape {W : World} {a b : Nat} (h1 : W.heap[a]? = some (.cells #[.int .i64 7, .int .i64 0, .int .i64 0, .int .i64 0, .int .i64 0, .int .i64 0, .int .i64 0, .int .i64 0] 47 (0, 0)))
    (h2 : W.heap[b]? = some (.cells #[.int .i64 0, .int .i64 0, .int .i64 0, .int .i64 1, .int .i64 0, .int .i64 2, .int .i64 0, .int .i64 0, .int .i64 0, .int .i64 1, .int .i64 0, .int .i64 0] 71 (0, 0))) :
    TIn W (some ⟨a, 0, none⟩) 1 1 (some ⟨b, 0, none⟩) 2 [eLv] lLv := by
  have c1 := fun i => cell_of_row W a i _ _ (0, 0) h1
  have c2 := fun i => cell_of_row W b i _ _ (0, 0) h2
  refine ⟨⟨rfl, fun _ => ⟨a, rfl, heap_lt h1, ?_⟩⟩, nofun, ⟨rfl, fun _ => ⟨b, rfl, heap_lt h2, ?_⟩⟩, by decide, by decide⟩
  · intro j x hj
    match j, hj with
    | 0, hj =>
      obtain rfl : eLv = x := by simpa using hj
      exact ⟨c1 0, c1 1, c1 2, c1 3, c1 4, c1 5, c1 6, c1 7⟩
    | j + 1, hj => simp at hj
  · intro j x hj
    match j, hj with
    | 0, hj =>
      obtain rfl : ((qLv, 2) : TP.An) = x := by simpa using hj
      exact ⟨c2 0, c2 1, c2 2, c2 3, c2 4, c2 5⟩
    | 1, hj =>
      obtain rfl : ((qLv, 0) : TP.An) = x := by simpa using hj
      exact ⟨c2 6, c2 7, c2 8, c2 9, c2 10, c2 11⟩
    | j + 2, hj => simp at hj
theorem tp_field1 (x0 x1 : Value) (w : World) : (Instr.field 26 (.agg #[x0, x1]) 1).run Try.prog w = .ok x1 w := by
  simp [Instr.field, go_sem, part, asAgg, Try.isAgg24]
set_option maxHeartbeats 8000000 in
set_option maxRecDepth 100000 in
theorem lives_any (w : World) : Calls Try.prog 24 #[] w fun e w' => e = .returned (.bool true) ∧ Below w.heap.size w w' := by
  obtain ⟨W, hW, hbW, k1, k2, k3, k4, hsW⟩ := four_boxes w (.cells #[.int .i64 0, .int .i64 0, .int .i64 0, .int .i64 1, .int .i64 0] 30) (.cells #[.int .i64 7, .int .i64 0, .int .i64 0, .int .i64 0, .int .i64 0, .int .i64 0, .int .i64 0, .int .i64 0] 47) (.cells #[.int .i64 0, .int .i64 0, .int .i64 0, .int .i64 1, .int .i64 0, .int .i64 2, .int .i64 0, .int .i64 0, .int .i64 0, .int .i64 1, .int .i64 0, .int .i64 0] 71) (.cells #[.slice (some ⟨w.heap.size + 1, 0, none⟩) 1 1, .slice (some ⟨w.heap.size + 1 + 1, 0, none⟩) 2 2] 26)
  have HT := Lib.hid (lv_tape k2 k3)
  have HK := Lib.hid (fun (V : World) (hV : Below W.heap.size W V) => And.intro (row5 ((hV.block _ (by omega)).trans k1)) (row2 ((hV.block _ (by omega)).trans k4)))
  have HB := Lib.hid hbW
  obtain ⟨⟨q0, q1, q2, q3, q4⟩, ⟨t0, t1⟩, _, _⟩ := HK.out W (Below.refl _ _)
  clear k1 k2 k3 k4 hbW
  go_enter Try.func24, Try.ntmps24
  go_upto_region 3 with (fail)
  try rw [hW]
  clear hW
  go_wp2_with fail
  refine (with_any qLv 3 W HT.out).mono ?_
  rintro e w1 ⟨⟨v, rfl, E, ne, ce, A, na, ca, rfl, hT⟩, hb1⟩
  rw [lv_with] at hT
  obtain rfl : 1 = ne := hT.1.1
  obtain rfl : 1 = na := hT.1.2
  have HU := Lib.hid (And.intro hT hb1)
  clear hT hb1 q0 q1 q2 q3 q4 t0 t1
  go_upto_region 4 with (fail)
  obtain ⟨W2, hW2⟩ : ∃ W2, w1.alloc (.cells #[.slice E 1 ce, .slice A 1 ca] 26) = W2 := ⟨_, rfl⟩
  rw [hW2]
  have hb2 : Below w1.heap.size w1 W2 := hW2 ▸ one_box w1 _
  have hs2 : W2.heap.size = w1.heap.size + 1 := by rw [← hW2]; simp
  have ku : W2.heap[w1.heap.size]? = some (.cells #[.slice E 1 ce, .slice A 1 ca] 26 (0, 0)) := by rw [← hW2]; exact World.alloc_heap_new w1 _
  have hs1 := HU.out.2.size
  have H2 := Lib.hid (And.intro (TapeIs.keep HU.out.1 hb2) (And.intro (HU.out.2.trans (hb2.mono hs1)) ku))
  obtain ⟨gu, hgu⟩ : ∃ gu, w1.heap.size = gu := ⟨_, rfl⟩
  rw [hgu] at H2 hs2 hs1
  rw [hgu]
  clear hb2 ku HU hW2 hgu
  obtain ⟨⟨u0, u1⟩, _, _⟩ := row2 H2.out.2.2
  have HE := Lib.hid (encodeP_any (ce := ce) (ca := ca) W2 (TapeIs.tin H2.out.1 (by decide) (by decide)) (by decide) (by decide) lv_ev lv_an)
  rw [lv_norm2] at HE
  go_wp2_with fail
  refine HE.out.mono ?_
  rintro e w3 ⟨B, n, c, rfl, m1, m2, m3, m4⟩
  rw [lv_len] at m1
  subst m1
  have HD := Lib.hid (decodeP_any w3 m2 (by decide) lv_b8)
  rw [lv_dec] at HD
  have H3 := Lib.hid m4
  clear m2 m3 m4 HE u0 u1
  go_wp2_with fail
  refine HD.out.mono ?_
  rintro e w4 ⟨⟨E4, ne, c4, A4, na, d4, rfl, hT4⟩, hb4⟩
  obtain rfl : 1 = ne := hT4.1.1
  obtain rfl : 1 = na := hT4.1.2
  have H4 := Lib.hid (And.intro hT4 (H3.out.trans (hb4.mono H3.out.size)))
  clear hT4 hb4 HD H3
  go_upto_region 5 with (fail)
  obtain ⟨W5, hW5⟩ : ∃ W5, w4.alloc (.cells #[.slice E4 1 c4, .slice A4 1 d4] 26) = W5 := ⟨_, rfl⟩
  rw [hW5]
  have hb5 : Below w4.heap.size w4 W5 := hW5 ▸ one_box w4 _
  have hs5 : W5.heap.size = w4.heap.size + 1 := by rw [← hW5]; simp
  have kv : W5.heap[w4.heap.size]? = some (.cells #[.slice E4 1 c4, .slice A4 1 d4] 26 (0, 0)) := by rw [← hW5]; exact World.alloc_heap_new w4 _
  have hs4 := H4.out.2.size
  have hb25 : Below W2.heap.size W2 W5 := H4.out.2.trans (hb5.mono hs4)
  have HV := Lib.hid (TapeIs.keep H4.out.1 hb5)
  have HB5 := Lib.hid (H2.out.2.1.trans (hb25.mono (by omega)))
  have HK5 := Lib.hid (fun (V : World) (hV : Below W5.heap.size W5 V) => And.intro (HK.out V (HB5.out.trans (hV.mono HB5.out.size))) (And.intro (row2 ((hV.block gu (by omega)).trans ((hb25.block gu (by omega)).trans H2.out.2.2))) (row2 ((hV.block _ (by omega)).trans kv))))
  have HT5 := Lib.hid (HT.out.keep HB5.out)
  have HU5 := Lib.hid (TapeIs.keep H2.out.1 hb25)
  obtain ⟨gv, hgv⟩ : ∃ gv, w4.heap.size = gv := ⟨_, rfl⟩
  rw [hgv] at HK5 hs5 hs4
  rw [hgv]
  clear hb5 kv hb25 hW5 hgv H4 HK HT H2
  obtain ⟨⟨⟨q0, q1, q2, q3, q4⟩, ⟨t0, t1⟩, _, _⟩, ⟨⟨u0, u1⟩, _, _⟩, ⟨⟨v0, v1⟩, _, _⟩⟩ := HK5.out W5 (Below.refl _ _)
  go_wp2_with fail
  refine (normal_any W5 HT5.out).mono ?_
  rintro e w6 ⟨⟨v, rfl, E6, ne, c6, A6, na, d6, rfl, hT6⟩, b6⟩
  rw [lv_norm] at hT6
  obtain rfl : 0 = na := hT6.1.2
  have B6 := Lib.hid b6
  have hfd := tp_field1 (.slice E6 ne c6) (.slice A6 0 d6) w6
  clear hT6 b6 q0 q1 q2 q3 q4 t0 t1 u0 u1 v0 v1
  obtain ⟨⟨⟨q0, q1, q2, q3, q4⟩, ⟨t0, t1⟩, _, _⟩, ⟨⟨u0, u1⟩, _, _⟩, ⟨⟨v0, v1⟩, _, _⟩⟩ := HK5.out w6 B6.out
  go_wp2_with fail
  refine (get_any qLv w6 (HT5.out.keep B6.out)).mono ?_
  rintro e w7 ⟨rfl, b7⟩
  rw [lv_get]
  have B7 := Lib.hid (B6.out.trans (b7.mono B6.out.size))
  clear b7 q0 q1 q2 q3 q4 t0 t1 u0 u1 v0 v1
  obtain ⟨⟨⟨q0, q1, q2, q3, q4⟩, ⟨t0, t1⟩, _, _⟩, ⟨⟨u0, u1⟩, _, _⟩, ⟨⟨v0, v1⟩, _, _⟩⟩ := HK5.out w7 B7.out
  go_wp2_with fail
  refine (get_any (ce := ce) (ca := ca) qLv w7 (TapeIs.tin (TapeIs.keep HU5.out B7.out) (by decide) (by decide))).mono ?_
  rintro e w8 ⟨rfl, b8⟩
  rw [lv_get2]
  have B8' := Lib.hid (B7.out.trans (b8.mono B7.out.size))
  clear b8 q0 q1 q2 q3 q4 t0 t1 u0 u1 v0 v1
  obtain ⟨⟨⟨q0, q1, q2, q3, q4⟩, ⟨t0, t1⟩, _, _⟩, ⟨⟨u0, u1⟩, _, _⟩, ⟨⟨v0, v1⟩, _, _⟩⟩ := HK5.out w8 B8'.out
  go_wp2_with fail
  refine (parts_any (ce := ce) (ca := ca) w8 (TapeIs.tin (TapeIs.keep HU5.out B8'.out) (by decide) (by decide))).mono ?_
  rintro e w9 ⟨rfl, b9⟩
  rw [lv_norm2]
  have B9 := Lib.hid (B8'.out.trans (b9.mono B8'.out.size))
  clear b9 q0 q1 q2 q3 q4 t0 t1 u0 u1 v0 v1
  obtain ⟨⟨⟨q0, q1, q2, q3, q4⟩, ⟨t0, t1⟩, _, _⟩, ⟨⟨u0, u1⟩, _, _⟩, ⟨⟨v0, v1⟩, _, _⟩⟩ := HK5.out w9 B9.out
  have HTU := Lib.hid (TapeIs.tin (TapeIs.keep HU5.out B9.out) (by decide) (by decide))
  have HTV := Lib.hid (TapeIs.tin (TapeIs.keep HV.out B9.out) (by decide) (by decide))
  go_wp2_with fail
  refine (refSame_any (c1 := ce) (d1 := ca) (c2 := c4) (d2 := d4) w9 HTU.out.ev HTU.out.an HTV.out.ev HTV.out.an (by decide) (by decide)).mono ?_
  rintro e w10 ⟨rfl, b10⟩
  rw [decide_eq_true (⟨rfl, rfl⟩ : [eLv] = [eLv] ∧ [((qLv, 3) : TP.An)] = [(qLv, 3)])]
  have B10 := Lib.hid (B9.out.trans (b10.mono B9.out.size))
  clear b10 q0 q1 q2 q3 q4 t0 t1 u0 u1 v0 v1
  go_wp2_with fail
  go_ret
  exact ⟨rfl, HB.out.trans ((HB5.out.mono HB.out.size).trans (B10.out.mono (by have := HB5.out.size; have := HB.out.size; omega)))⟩
end Go.Proofs.Ytiokiecnglmbnaa

namespace Go.Proofs.Ytiokiecnglmbnaa
open Go Go.RowKit Go.Proofs
attribute [local go_sem] Oper.semAt_some

theorem set5Q {V : World} {r : Nat} {z0 z1 z2 z3 z4 : Value} {t : TypeId} {fr : Nat × Nat} (h : V.heap[r]? = some (.cells #[z0, z1, z2, z3, z4] t fr)) (a0 a1 a2 a3 a4 : Value) :
    ∃ W, (((((V.setCell ⟨r, 0, none⟩ a0).setCell ⟨r, 1, none⟩ a1).setCell ⟨r, 2, none⟩ a2).setCell ⟨r, 3, none⟩ a3).setCell ⟨r, 4, none⟩ a4) = W ∧ W.heap[r]? = some (.cells #[a0, a1, a2, a3, a4] t fr) ∧ Below r V W := by
  refine ⟨_, rfl, ?_, ((((((Below.refl r V).setCell (Nat.le_refl _) _).setCell (Nat.le_refl _) _).setCell (Nat.le_refl _) _).setCell (Nat.le_refl _) _).setCell (Nat.le_refl _) _)⟩
  simp only [World.setCell, Array.getElem?_modify]
  simp [h]
/-- The reference's question of a number. -/
def TP.qOf (n : Int) : NM.Qu := ⟨around n 100000 % 2, if around n 100000 / 2 % 4 = 3 then 40 else around n 100000 / 2 % 4, around n 100000 / 8 % 2, 1 + around n 100000 / 16 % 3, around n 100000 / 48 % 2⟩
set_option maxHeartbeats 4000000 in
set_option maxRecDepth 100000 in
theorem refQuestion_any (n : Int) (hn : I64 n) (w : World) : Calls Try.prog 14 #[.int .i64 n] w fun e w' => e = .returned (quV (TP.qOf n)) ∧ Below w.heap.size w w' := by
  have HA := Lib.hid (fun V => around_any n 100000 hn (by decide) (by decide) V)
  have hk := around_in n 100000 (by decide)
  unfold TP.qOf
  obtain ⟨k, hke⟩ : ∃ k, around n 100000 = k := ⟨_, rfl⟩
  rw [hke] at HA hk
  rw [hke]
  obtain ⟨k0, k1⟩ := hk
  clear hke hn
  obtain ⟨U, hU, hb, k1_, k2_, hlt⟩ := two_boxes w (.cells #[.int .i64 0, .int .i64 0, .int .i64 0, .int .i64 0, .int .i64 0] 30) (.cells #[.int .i64 0, .int .i64 1, .int .i64 2, .int .i64 40] 3)
  obtain ⟨q0, q1, q2, q3, q4⟩ := row5 k1_
  have fr : ∀ i, U.frozen? ⟨w.heap.size, i, none⟩ = false := fun i => by simp [World.frozen?, k1_]
  have f0 := fr 0
  have f1 := fr 1
  have f2 := fr 2
  have f3 := fr 3
  have f4 := fr 4
  have e0 : U.cell? ⟨w.heap.size + 1, 0, none⟩ = some (.int .i64 0) := cell_of_row U _ 0 _ _ (0, 0) k2_
  have e1 : U.cell? ⟨w.heap.size + 1, 1, none⟩ = some (.int .i64 1) := cell_of_row U _ 1 _ _ (0, 0) k2_
  have e2 : U.cell? ⟨w.heap.size + 1, 2, none⟩ = some (.int .i64 2) := cell_of_row U _ 2 _ _ (0, 0) k2_
  have e3 : U.cell? ⟨w.heap.size + 1, 3, none⟩ = some (.int .i64 40) := cell_of_row U _ 3 _ _ (0, 0) k2_
  have HK := Lib.hid (And.intro k1_ hb)
  clear k1_ k2_ fr hb
  have hj : k / 2 % 4 = 0 ∨ k / 2 % 4 = 1 ∨ k / 2 % 4 = 2 ∨ k / 2 % 4 = 3 := by omega
  rcases hj with hj | hj | hj | hj
  · rw [hj]
    go_enter Try.func14, Try.ntmps14
    go_wp2_with (go_at_call 35; refine (HA.out _).mono ?_; clear HA; rintro e w1 ⟨rfl, rfl⟩)
    obtain ⟨W, hW, kW, hbW⟩ := set5Q HK.out.1 (.int .i64 (k % 2)) (.int .i64 0) (.int .i64 (k / 8 % 2)) (.int .i64 (1 + k / 16 % 3)) (.int .i64 (k / 48 % 2))
    rw [hW]
    obtain ⟨y0, y1, y2, y3, y4⟩ := row5 kW
    exact bodyPost_ret (v := .agg #[.int .i64 (k % 2), .int .i64 0, .int .i64 (k / 8 % 2), .int .i64 (1 + k / 16 % 3), .int .i64 (k / 48 % 2)]) (by simp [results, Try.results14, go_sem, y0, y1, y2, y3, y4]) rfl ⟨rfl, HK.out.2.trans hbW⟩
  · rw [hj]
    go_enter Try.func14, Try.ntmps14
    go_wp2_with (go_at_call 35; refine (HA.out _).mono ?_; clear HA; rintro e w1 ⟨rfl, rfl⟩)
    obtain ⟨W, hW, kW, hbW⟩ := set5Q HK.out.1 (.int .i64 (k % 2)) (.int .i64 1) (.int .i64 (k / 8 % 2)) (.int .i64 (1 + k / 16 % 3)) (.int .i64 (k / 48 % 2))
    rw [hW]
    obtain ⟨y0, y1, y2, y3, y4⟩ := row5 kW
    exact bodyPost_ret (v := .agg #[.int .i64 (k % 2), .int .i64 1, .int .i64 (k / 8 % 2), .int .i64 (1 + k / 16 % 3), .int .i64 (k / 48 % 2)]) (by simp [results, Try.results14, go_sem, y0, y1, y2, y3, y4]) rfl ⟨rfl, HK.out.2.trans hbW⟩
  · rw [hj]
    go_enter Try.func14, Try.ntmps14
    go_wp2_with (go_at_call 35; refine (HA.out _).mono ?_; clear HA; rintro e w1 ⟨rfl, rfl⟩)
    obtain ⟨W, hW, kW, hbW⟩ := set5Q HK.out.1 (.int .i64 (k % 2)) (.int .i64 2) (.int .i64 (k / 8 % 2)) (.int .i64 (1 + k / 16 % 3)) (.int .i64 (k / 48 % 2))
    rw [hW]
    obtain ⟨y0, y1, y2, y3, y4⟩ := row5 kW
    exact bodyPost_ret (v := .agg #[.int .i64 (k % 2), .int .i64 2, .int .i64 (k / 8 % 2), .int .i64 (1 + k / 16 % 3), .int .i64 (k / 48 % 2)]) (by simp [results, Try.results14, go_sem, y0, y1, y2, y3, y4]) rfl ⟨rfl, HK.out.2.trans hbW⟩
  · rw [hj]
    go_enter Try.func14, Try.ntmps14
    go_wp2_with (go_at_call 35; refine (HA.out _).mono ?_; clear HA; rintro e w1 ⟨rfl, rfl⟩)
    obtain ⟨W, hW, kW, hbW⟩ := set5Q HK.out.1 (.int .i64 (k % 2)) (.int .i64 40) (.int .i64 (k / 8 % 2)) (.int .i64 (1 + k / 16 % 3)) (.int .i64 (k / 48 % 2))
    rw [hW]
    obtain ⟨y0, y1, y2, y3, y4⟩ := row5 kW
    exact bodyPost_ret (v := .agg #[.int .i64 (k % 2), .int .i64 40, .int .i64 (k / 8 % 2), .int .i64 (1 + k / 16 % 3), .int .i64 (k / 48 % 2)]) (by simp [results, Try.results14, go_sem, y0, y1, y2, y3, y4]) rfl ⟨rfl, HK.out.2.trans hbW⟩
end Go.Proofs.Ytiokiecnglmbnaa
