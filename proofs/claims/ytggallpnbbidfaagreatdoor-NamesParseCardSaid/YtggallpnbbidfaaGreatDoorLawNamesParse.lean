/-
  The walk of NamesParse: what is parsed has that text, or it is refused. Condition: the listed tables and variables stand (TN).
-/
import Derived.Test.YtggallpnbbidfaaGreatDoorNmRn
import Derived.Test.YtggallpnbbidfaaGreatDoorNmL
import Derived.Test.YtggallpnbbidfaaGreatDoorNmKc
import Derived.Test.YtggallpnbbidfaaGreatDoorNmBr
import Derived.Test.YtggallpnbbidfaaGreatDoorNmAi
import Derived.Test.YtggallpnbbidfaaGreatDoorNmRi
import Derived.Test.YtggallpnbbidfaaGreatDoorRgW
import Derived.Test.YtggallpnbbidfaaGreatDoorRgT
namespace Go.Proofs.YtggallpnbbidfaaGreatDoor.LawNamesParse
open Go Go.RowKit Go.Proofs Go.Proofs.YtggallpnbbidfaaGreatDoor
attribute [local go_sem] Oper.semAt_some

theorem size_ev : (Tryz.prog.info? 28).map (·.size) = some 8 := by kernel_rfl
theorem size_qu : (Tryz.prog.info? 36).map (·.size) = some 5 := by kernel_rfl
theorem bs_back (S : ByteArray) : NM.bs S.data.toList = S := by
  cases S
  simp [NM.bs]
theorem back_bs (t : NM.Bs) : (NM.bs t).data.toList = t := by simp [NM.bs]
theorem okE_back {t : NM.Bs} (h : NM.okE t = true) : NM.evT (NM.parseE t) = t := by
  have h2 := h
  unfold NM.okE at h2
  simp only [Bool.and_eq_true, decide_eq_true_eq] at h2
  unfold NM.parseE
  rw [if_pos h]
  exact h2.2
theorem okQ_back {t : NM.Bs} (h : NM.okQs t = true) : NM.quT (NM.parseQ t) = t := by
  have h2 := h
  unfold NM.okQs at h2
  simp only [Bool.and_eq_true, decide_eq_true_eq] at h2
  unfold NM.parseQ
  rw [if_pos h]
  exact h2.2
/-- What is known of an event that is parsed. -/
theorem ev_parsed (S : ByteArray) : ∃ (b : Bool) (F : Int) (xk xn xa xc xh xt xi xp : Int) (SE : ByteArray), NM.parseE S.data.toList = ⟨xk, xn, xa, ⟨xc, xh, xt, xi, xp⟩⟩ ∧ (if NM.okE S.data.toList then (0 : Int) else 8) = F ∧ NM.bs (NM.evT ⟨xk, xn, xa, ⟨xc, xh, xt, xi, xp⟩⟩) = SE ∧ (F == 0) = b ∧ (F != 0) = (!b) ∧ (F != 8) = b ∧ (b = true → SE = S) ∧ (b = false → xk = 0 ∧ xn = 0 ∧ xa = 0 ∧ xc = 0 ∧ xh = 0 ∧ xt = 0 ∧ xi = 0 ∧ xp = 0) := by
  cases h : NM.okE S.data.toList with
  | true =>
    obtain ⟨⟨xk, xn, xa, ⟨xc, xh, xt, xi, xp⟩⟩, hx⟩ : ∃ X, NM.parseE S.data.toList = X := ⟨_, rfl⟩
    refine ⟨true, 0, xk, xn, xa, xc, xh, xt, xi, xp, _, hx, rfl, rfl, rfl, rfl, rfl, fun _ => ?_, fun h => by cases h⟩
    rw [← hx, okE_back h]
    exact bs_back S
  | false =>
    have hx : NM.parseE S.data.toList = ⟨0, 0, 0, ⟨0, 0, 0, 0, 0⟩⟩ := by unfold NM.parseE; rw [h]; rfl
    refine ⟨false, 8, 0, 0, 0, 0, 0, 0, 0, 0, _, hx, rfl, rfl, rfl, rfl, rfl, (fun h => by cases h), fun _ => ⟨rfl, rfl, rfl, rfl, rfl, rfl, rfl, rfl⟩⟩
theorem qu_parsed (S : ByteArray) : ∃ (b : Bool) (F : Int) (yc yh yt yk yi : Int) (SE : ByteArray), NM.parseQ S.data.toList = ⟨yc, yh, yt, yk, yi⟩ ∧ (if NM.okQs S.data.toList then (0 : Int) else 8) = F ∧ NM.bs (NM.quT ⟨yc, yh, yt, yk, yi⟩) = SE ∧ (F == 0) = b ∧ (F != 0) = (!b) ∧ (F != 8) = b ∧ (b = true → SE = S) ∧ (b = false → yc = 0 ∧ yh = 0 ∧ yt = 0 ∧ yk = 0 ∧ yi = 0) := by
  cases h : NM.okQs S.data.toList with
  | true =>
    obtain ⟨⟨yc, yh, yt, yk, yi⟩, hx⟩ : ∃ X, NM.parseQ S.data.toList = X := ⟨_, rfl⟩
    refine ⟨true, 0, yc, yh, yt, yk, yi, _, hx, rfl, rfl, rfl, rfl, rfl, fun _ => ?_, fun h => by cases h⟩
    rw [← hx, okQ_back h]
    exact bs_back S
  | false =>
    have hx : NM.parseQ S.data.toList = ⟨0, 0, 0, 0, 0⟩ := by unfold NM.parseQ; rw [h]; rfl
    refine ⟨false, 8, 0, 0, 0, 0, 0, _, hx, rfl, rfl, rfl, rfl, rfl, (fun h => by cases h), fun _ => ⟨rfl, rfl, rfl, rfl, rfl⟩⟩
set_option maxHeartbeats 8000000 in
set_option maxRecDepth 100000 in
theorem walk (raw : ByteArray) (n m at_ how c : Int) (w : World) (_ : raw.size ≤ maxLen) (wn : I64 n) (wm : I64 m) (wa : I64 at_) (wh : I64 how) (_ : (Lit.int .u8 c).wf = true) (hT : TN w) :
    Calls Tryz.prog 5 #[.string raw, .int .i64 n, .int .i64 m, .int .i64 at_, .int .i64 how, .int .u8 c] w fun e w' => e = .returned (.bool true) ∧ Below w.heap.size w w' := by
  have HL := Lib.hid (fun (V : World) (hV : Below w.heap.size w V) => lives_any V (hT.below hV))
  have HG := Lib.hid (fun V => eventOf_any n m wn wm V)
  have HH := Lib.hid (fun V => questionOf_any n m wn wm V)
  have HR := Lib.hid (fun V => refEvent_all (NM.evOf n m) V)
  have HS := Lib.hid (fun V => refQuestion_all (NM.quOf n m) V)
  obtain ⟨S1, hS1⟩ : ∃ S, NM.bs (NM.evT (NM.evOf n m)) = S := ⟨_, rfl⟩
  obtain ⟨S2, hS2⟩ : ∃ S, NM.bs (NM.quT (NM.quOf n m)) = S := ⟨_, rfl⟩
  have z1 : S1.size ≤ 100 := hS1 ▸ NM.evT_len _
  have z2 : S2.size ≤ 100 := hS2 ▸ NM.quT_len _
  obtain ⟨E1, hE1⟩ : ∃ E, evV (NM.evOf n m) = E := ⟨_, rfl⟩
  obtain ⟨Q1, hQ1⟩ : ∃ E, quV (NM.quOf n m) = E := ⟨_, rfl⟩
  rw [hE1] at HG HR
  rw [hQ1] at HH HS
  rw [hS1] at HR
  rw [hS2] at HS
  have H0 := Lib.hid (fun V => short_any raw 40 (by omega) (by omega) V)
  obtain ⟨S0, hS0⟩ : ∃ S, raw.extract 0 (Int.toNat 40) = S := ⟨_, rfl⟩
  have z0 : S0.size ≤ 40 := by
    rw [← hS0, ByteArray.size_extract]
    show min 40 _ - 0 ≤ 40
    omega
  rw [hS0] at H0
  have H1 := Lib.hid (fun V => broken_any S1 at_ how c (by omega) wa wh V)
  have H2 := Lib.hid (fun V => broken_any S2 at_ how c (by omega) wa wh V)
  have HPE := Lib.hid (fun (S : ByteArray) (hS : S.size ≤ 1000) (V : World) (hV : Below w.heap.size w V) => ParseEvent_any S.data.toList V (hT.below hV) hS)
  have HPQ := Lib.hid (fun (S : ByteArray) (hS : S.size ≤ 1000) (V : World) (hV : Below w.heap.size w V) => ParseQuestion_any S.data.toList V (hT.below hV) hS)
  simp only [bs_back] at HPE HPQ
  clear hS0 hE1 hQ1 hS1 hS2 hT wn wm wa wh
  go_enter Tryz.func5, Tryz.ntmps5
  go_wp2_with fail
  refine (HG.out _).mono ?_
  rintro e w1 ⟨rfl, hb1⟩
  have B1 := Lib.hid hb1
  clear hb1
  go_wp2_with fail
  refine (HR.out _).mono ?_
  rintro e w2 ⟨rfl, hb2⟩
  have B2 := Lib.hid (show Below w.heap.size w w2 from B1.out.trans (hb2.mono B1.out.size))
  clear hb2
  go_wp2_with fail
  refine (HH.out _).mono ?_
  rintro e w3 ⟨rfl, hb3⟩
  have B3 := Lib.hid (show Below w.heap.size w w3 from B2.out.trans (hb3.mono B2.out.size))
  clear hb3
  go_wp2_with fail
  refine (HS.out _).mono ?_
  rintro e w4 ⟨rfl, hb4⟩
  have B4 := Lib.hid (show Below w.heap.size w w4 from B3.out.trans (hb4.mono B3.out.size))
  clear hb4
  go_wp2_with (go_at_call 17; refine (H0.out _).mono ?_; rintro e w5 ⟨rfl, rfl⟩)
  refine (H1.out _).mono ?_
  rintro e w5 ⟨T1, rfl, y1, hb5⟩
  have B5 := Lib.hid (show Below w.heap.size w w5 from B4.out.trans (hb5.mono B4.out.size))
  clear hb5
  go_wp2_with fail
  refine (H2.out _).mono ?_
  rintro e w6 ⟨T2, rfl, y2, hb6⟩
  obtain ⟨U, hU⟩ : ∃ U, w6.alloc (.cells #[.string S0, .string T1, .string T2] 9) = U := ⟨_, rfl⟩
  have hbU : Below w6.heap.size w6 U := hU ▸ one_box w6 _
  have kU : U.heap[w6.heap.size]? = some (.cells #[.string S0, .string T1, .string T2] 9 (0, 0)) := by rw [← hU]; exact new_at rfl
  have hlU : w6.heap.size < U.heap.size := by rw [← hU]; simp
  have BU := Lib.hid (show Below w.heap.size w U from (B5.out.trans (hb6.mono B5.out.size)).trans (hbU.mono (by have := B5.out.size; have := hb6.size; omega)))
  have HROW := Lib.hid (fun (V : World) (hV : Below U.heap.size U V) => row3 ((hV.block _ hlU).trans kU))
  have hwU := BU.out.size
  have Z := Lib.hid (show ∀ k : Nat, k < 3 → ∃ S : ByteArray, S.size ≤ 1000 ∧ ∀ V, Below U.heap.size U V → V.cell? ⟨w6.heap.size, k, none⟩ = some (.string S) from fun k hk => by
    rcases (show k = 0 ∨ k = 1 ∨ k = 2 by omega) with rfl | rfl | rfl
    · exact ⟨S0, by omega, fun V hV => (HROW.out V hV).1⟩
    · exact ⟨T1, by omega, fun V hV => (HROW.out V hV).2.1⟩
    · exact ⟨T2, by omega, fun V hV => (HROW.out V hV).2.2⟩)
  clear hb6 hbU kU z0 z1 z2 y1 y2 HROW H0 H1 H2 HG HH HR HS B1 B2 B3 B4 B5
  go_wp2_with fail
  clear hU
  go_loopw [16] (fun i V => ∃ k : Nat, k ≤ 3 ∧ i = .int .i64 (k : Int) ∧ Hid (Below U.heap.size U V)) (fun i _ => 3 - (intOf i).toNat)
  case atStart => exact ⟨0, by omega, rfl, Below.refl _ _⟩
  case round =>
    obtain ⟨k, hk, rfl, HV⟩ := hrel
    by_cases hlt : k < 3
    · have d3 : decide ((k : Int) < 3) = true := by simp; omega
      obtain ⟨S, hS, hSc⟩ := Z.out k hlt
      have HSC := Lib.hid hSc
      obtain ⟨b, F, xk, xn, xa, xc, xh, xt, xi, xp, SE, hx, hF, hSE, f0, f1, f8, hb, hne⟩ := ev_parsed S
      obtain ⟨b', F', yc, yh, yt, yk, yi, SQ, hx', hF', hSQ, f0', f1', f8', hb', hne'⟩ := qu_parsed S
      have hBw := BU.out.trans (HV.out.mono hwU)
      have HP := Lib.hid (fun (V : World) (hV : Below w.heap.size w V) => HPE.out S hS V hV)
      have HQ := Lib.hid (fun (V : World) (hV : Below w.heap.size w V) => HPQ.out S hS V hV)
      have HRE := Lib.hid (fun V => refEvent_all ⟨xk, xn, xa, ⟨xc, xh, xt, xi, xp⟩⟩ V)
      have HRQ := Lib.hid (fun V => refQuestion_all ⟨yc, yh, yt, yk, yi⟩ V)
      simp only [hx, hF] at HP
      simp only [hx', hF'] at HQ
      rw [hSE] at HRE
      rw [hSQ] at HRQ
      have FF := Lib.hid (And.intro f0 (And.intro f1 (And.intro f8 (And.intro hb hne))))
      have FF' := Lib.hid (And.intro f0' (And.intro f1' (And.intro f8' (And.intro hb' hne'))))
      have BW := Lib.hid hBw
      have c0 := hSc wr HV.out
      have hUr := HV.out.size
      clear hx hF hSE f0 f1 f8 hb hne hx' hF' hSQ f0' f1' f8' hb' hne' hBw hSc
      go_wp2_with fail
      refine (HP.out _ BW.out).mono ?_
      rintro e wA ⟨rfl, hbA⟩
      have hzA := hbA.size
      have BA := Lib.hid hbA
      clear hbA c0
      go_wp2_with (refine RgX.wpList_store_seg rfl 28 _ _ rfl wA.heap.size 0 (.agg #[.int .i64 xk, .int .i64 xn, .int .i64 xa, .int .i64 xc, .int .i64 xh, .int .i64 xt, .int .i64 xi, .int .i64 xp]) rfl rfl 28 #[.int .i64 0, .int .i64 0, .int .i64 0, .int .i64 0, .int .i64 0, .int .i64 0, .int .i64 0, .int .i64 0] (new_at rfl) (by rw [size_ev]; rfl) (by show 0 + 8 ≤ 8; omega) (by simp [Value.cells, Value.oneCell']) #[.int .i64 xk, .int .i64 xn, .int .i64 xa, .int .i64 xc, .int .i64 xh, .int .i64 xt, .int .i64 xi, .int .i64 xp] rfl ?_; intro u1 kx1 ho1 hz1 hx1; have c2 : u1.cell? ⟨w6.heap.size, k, none⟩ = some (.string S) := (HSC.out u1 (HV.out.trans ((BA.out.trans (((one_box wA _).trans hx1).mono hzA)).mono hUr))))
      have h1u : u1.heap.size = wA.heap.size + 1 := by rw [hz1]; simp
      have BU1 := Lib.hid (show Below wr.heap.size wr u1 from BA.out.trans (((one_box wA _).trans hx1).mono hzA))
      have K1 := Lib.hid kx1
      clear kx1 ho1 hz1 hx1 c2
      refine (HQ.out _ (BW.out.trans (BU1.out.mono BW.out.size))).mono ?_
      rintro e wB ⟨rfl, hbB⟩
      have hzB := hbB.size
      have BB := Lib.hid (show Below wr.heap.size wr wB from BU1.out.trans (hbB.mono BU1.out.size))
      have K2 := Lib.hid (show wB.heap[wA.heap.size]? = some (.cells #[.int .i64 xk, .int .i64 xn, .int .i64 xa, .int .i64 xc, .int .i64 xh, .int .i64 xt, .int .i64 xi, .int .i64 xp] 28 (0, 0)) from (hbB.block _ (by omega)).trans K1.out)
      clear hbB K1
      go_wp2_with (refine RgX.wpList_store_seg rfl 36 _ _ rfl wB.heap.size 0 (.agg #[.int .i64 yc, .int .i64 yh, .int .i64 yt, .int .i64 yk, .int .i64 yi]) rfl rfl 36 #[.int .i64 0, .int .i64 0, .int .i64 0, .int .i64 0, .int .i64 0] (new_at rfl) (by rw [size_qu]; rfl) (by show 0 + 5 ≤ 5; omega) (by simp [Value.cells, Value.oneCell']) #[.int .i64 yc, .int .i64 yh, .int .i64 yt, .int .i64 yk, .int .i64 yi] rfl ?_; intro u2 kx2 ho2 hz2 hx2)
      have h2u : u2.heap.size = wB.heap.size + 1 := by rw [hz2]; simp
      have BU2 := Lib.hid (show Below wr.heap.size wr u2 from BB.out.trans (((one_box wB _).trans hx2).mono (by have := BB.out.size; omega)))
      have ke : u2.heap[wA.heap.size]? = some (.cells #[.int .i64 xk, .int .i64 xn, .int .i64 xa, .int .i64 xc, .int .i64 xh, .int .i64 xt, .int .i64 xi, .int .i64 xp] 28 (0, 0)) := (ho2 _ (by omega)).trans ((Below.heap_alloc _ _ _ (by omega)).trans K2.out)
      have HK := Lib.hid (fun (V : World) (hV : Below u2.heap.size u2 V) => And.intro (row8 ((hV.block _ (by omega)).trans ke)) (And.intro (row5 ((hV.block _ (by omega)).trans kx2)) (HSC.out V (HV.out.trans ((BU2.out.trans (hV.mono BU2.out.size)).mono hUr)))))
      clear ke kx2 ho2 hz2 hx2 K2 BB BA
      have f0 := FF.out.1
      have f1 := FF.out.2.1
      have f8 := FF.out.2.2.1
      refine RgX.region 24 (fun i => ( 62 + i)) (fun ix_ => match ix_ with | 0 => .v (.int .i64 F) | 1 => .v (.bool b) | 2 => .v (.bool b) | 3 => (bif b then (.v (.agg #[.int .i64 xk, .int .i64 xn, .int .i64 xa, .int .i64 xc, .int .i64 xh, .int .i64 xt, .int .i64 xi, .int .i64 xp]) : RgX.Sp) else .v undef) | 4 => (bif b then (.v (.string SE) : RgX.Sp) else .v undef) | 5 => (bif b then (.v (.slice (some ⟨w6.heap.size, 0, none⟩) 3 3) : RgX.Sp) else .v undef) | 6 => (bif b then (.v (.int .i64 (k : Int)) : RgX.Sp) else .v undef) | 7 => (bif b then (.v (.pointer (some ⟨w6.heap.size, k, none⟩)) : RgX.Sp) else .v undef) | 8 => (bif b then (.v (.string S) : RgX.Sp) else .v undef) | 9 => (bif b then (.v (.bool false) : RgX.Sp) else .v undef) | 10 => .v (.bool false) | 11 => .v (.bool false) | 12 => .v (.int .i64 F) | 13 => .v (.bool (!b)) | 14 => .v (.bool (!b)) | 15 => (bif (!b) then (.v (.int .i64 F) : RgX.Sp) else .v undef) | 16 => (bif (!b) then (.v (.bool false) : RgX.Sp) else .v undef) | 17 => (bif (!b) then (.v (.bool false) : RgX.Sp) else .v undef) | 18 => (bif (!b) then (.v (.agg #[.int .i64 xk, .int .i64 xn, .int .i64 xa, .int .i64 xc, .int .i64 xh, .int .i64 xt, .int .i64 xi, .int .i64 xp]) : RgX.Sp) else .v undef) | 19 => (bif (!b) then (.v (.agg #[.int .i64 0, .int .i64 0, .int .i64 0, .int .i64 0, .int .i64 0, .int .i64 0, .int .i64 0, .int .i64 0]) : RgX.Sp) else .v undef) | 20 => (bif (!b) then (.v (.bool false) : RgX.Sp) else .v undef) | 21 => (bif (!b) then (.v (.bool false) : RgX.Sp) else .v undef) | 22 => .v (.bool false) | 23 => .v (.bool false) | _ => .any) (by kernel_rfl) rfl (by kernel_rfl)  (fun i hi => by show ( 62 + i) < 111; (repeat' split) <;> omega) (fun i j hi hj => by show ( 62 + i) = ( 62 + j) → i = j; (repeat' split) <;> omega) ?step ?fin
      case step =>
        intro L_ A_ w3 ix op_ hI ho hdep
        have hi : ix < 24 := (Array.getElem?_eq_some_iff.1 ho).1
        have hcase : ix = 0 ∨ ix = 1 ∨ ix = 2 ∨ ix = 3 ∨ ix = 4 ∨ ix = 5 ∨ ix = 6 ∨ ix = 7 ∨ ix = 8 ∨ ix = 9 ∨ ix = 10 ∨ ix = 11 ∨ ix = 12 ∨ ix = 13 ∨ ix = 14 ∨ ix = 15 ∨ ix = 16 ∨ ix = 17 ∨ ix = 18 ∨ ix = 19 ∨ ix = 20 ∨ ix = 21 ∨ ix = 22 ∨ ix = 23 := by omega
        have hh := hI.held
        clear hi
        rcases hcase with rfl | rfl | rfl | rfl | rfl | rfl | rfl | rfl | rfl | rfl | rfl | rfl | rfl | rfl | rfl | rfl | rfl | rfl | rfl | rfl | rfl | rfl | rfl | rfl
        · simp only [List.getElem?_toArray, List.getElem?_cons_zero, Option.some.injEq] at ho
          subst ho
          refine ⟨rfl, ?_⟩
          have e18 : A_.tmps[18]?.getD undef = .int .i64 F := by rw [hI.low 18 (by decide)]; rfl
          clear hI hdep
          exact .run rfl (.int .i64 F) w3 (by simp [execOp, go_sem, Act.eval, e18]) (Below.refl _ _) rfl
        · simp only [List.getElem?_toArray, List.getElem?_cons_succ, List.getElem?_cons_zero, Option.some.injEq] at ho
          subst ho
          refine ⟨rfl, ?_⟩
          have e62 : A_.tmps[62]?.getD undef = .int .i64 F := getD_of (hI.val_ (i := 0) rfl rfl (by decide) (hdep ⟨0, .data⟩ (by simp) rfl))
          clear hI hdep
          exact .run rfl (.bool b) w3 (by simp [execOp, go_sem, Act.eval, *]) (Below.refl _ _) rfl
        · simp only [List.getElem?_toArray, List.getElem?_cons_succ, List.getElem?_cons_zero, Option.some.injEq] at ho
          subst ho
          refine ⟨rfl, ?_⟩
          have e63 : A_.tmps[63]?.getD undef = .bool b := getD_of (hI.val_ (i := 1) rfl rfl (by decide) (hdep ⟨1, .data⟩ (by simp) rfl))
          clear hI hdep
          exact .run rfl (.bool b) w3 (by simp [execOp, go_sem, Act.eval, e63]) (Below.refl _ _) rfl
        · simp only [List.getElem?_toArray, List.getElem?_cons_succ, List.getElem?_cons_zero, Option.some.injEq] at ho
          subst ho
          refine ⟨rfl, ?_⟩
          cases b
          · have q64 : A_.tmps[64]? = some (.bool false) := hI.val_ (i := 2) rfl rfl (by decide) (hdep ⟨2, .guard⟩ (by simp) rfl)
            exact .skip ((wanted_some rfl rfl q64).trans rfl) (fun _ => rfl)
          · have q64 : A_.tmps[64]? = some (.bool true) := hI.val_ (i := 2) rfl rfl (by decide) (hdep ⟨2, .guard⟩ (by simp) rfl)
            have e17 : A_.tmps[17]?.getD undef = .pointer (some ⟨wA.heap.size, 0, none⟩) := by rw [hI.low 17 (by decide)]; rfl
            clear hI hdep
            obtain ⟨⟨fa0, fa1, fa2, fa3, fa4, fa5, fa6, fa7⟩, ⟨fb0, fb1, fb2, fb3, fb4⟩, c9⟩ := HK.out w3 (hh)
            exact .run ((wanted_some rfl rfl q64).trans rfl) (.agg #[.int .i64 xk, .int .i64 xn, .int .i64 xa, .int .i64 xc, .int .i64 xh, .int .i64 xt, .int .i64 xi, .int .i64 xp]) w3 (by simp [execOp, go_sem, Act.eval, *]) (Below.refl _ _) rfl
        · simp only [List.getElem?_toArray, List.getElem?_cons_succ, List.getElem?_cons_zero, Option.some.injEq] at ho
          subst ho
          refine ⟨rfl, ?_⟩
          cases b
          · have q64 : A_.tmps[64]? = some (.bool false) := hI.val_ (i := 2) rfl rfl (by decide) (hdep ⟨2, .guard⟩ (by simp) rfl)
            exact .skip ((wanted_some rfl rfl q64).trans rfl) (fun _ => rfl)
          · have q64 : A_.tmps[64]? = some (.bool true) := hI.val_ (i := 2) rfl rfl (by decide) (hdep ⟨2, .guard⟩ (by simp) rfl)
            have e65 : A_.tmps[65]?.getD undef = .agg #[.int .i64 xk, .int .i64 xn, .int .i64 xa, .int .i64 xc, .int .i64 xh, .int .i64 xt, .int .i64 xi, .int .i64 xp] := getD_of (hI.val_ (i := 3) rfl rfl (by decide) (hdep ⟨3, .data⟩ (by simp) rfl))
            clear hI hdep
            exact .call ((wanted_some rfl rfl q64).trans rfl) 14 #[.agg #[.int .i64 xk, .int .i64 xn, .int .i64 xa, .int .i64 xc, .int .i64 xh, .int .i64 xt, .int .i64 xi, .int .i64 xp]] (by simp [go_sem, Act.eval, e65]) ((HRE.out w3).mono fun _ _ ⟨h1_, h2_⟩ => ⟨⟨_, h1_, rfl⟩, h2_⟩)
        · simp only [List.getElem?_toArray, List.getElem?_cons_succ, List.getElem?_cons_zero, Option.some.injEq] at ho
          subst ho
          refine ⟨rfl, ?_⟩
          cases b
          · have q64 : A_.tmps[64]? = some (.bool false) := hI.val_ (i := 2) rfl rfl (by decide) (hdep ⟨2, .guard⟩ (by simp) rfl)
            exact .skip ((wanted_some rfl rfl q64).trans rfl) (fun _ => rfl)
          · have q64 : A_.tmps[64]? = some (.bool true) := hI.val_ (i := 2) rfl rfl (by decide) (hdep ⟨2, .guard⟩ (by simp) rfl)
            have e15 : A_.tmps[15]?.getD undef = .slice (some ⟨w6.heap.size, 0, none⟩) 3 3 := by rw [hI.low 15 (by decide)]; rfl
            clear hI hdep
            exact .run ((wanted_some rfl rfl q64).trans rfl) (.slice (some ⟨w6.heap.size, 0, none⟩) 3 3) w3 (by simp [execOp, go_sem, Act.eval, e15]) (Below.refl _ _) rfl
        · simp only [List.getElem?_toArray, List.getElem?_cons_succ, List.getElem?_cons_zero, Option.some.injEq] at ho
          subst ho
          refine ⟨rfl, ?_⟩
          cases b
          · have q64 : A_.tmps[64]? = some (.bool false) := hI.val_ (i := 2) rfl rfl (by decide) (hdep ⟨2, .guard⟩ (by simp) rfl)
            exact .skip ((wanted_some rfl rfl q64).trans rfl) (fun _ => rfl)
          · have q64 : A_.tmps[64]? = some (.bool true) := hI.val_ (i := 2) rfl rfl (by decide) (hdep ⟨2, .guard⟩ (by simp) rfl)
            have e16 : A_.tmps[16]?.getD undef = .int .i64 (k : Int) := by rw [hI.low 16 (by decide)]; rfl
            clear hI hdep
            exact .run ((wanted_some rfl rfl q64).trans rfl) (.int .i64 (k : Int)) w3 (by simp [execOp, go_sem, Act.eval, e16]) (Below.refl _ _) rfl
        · simp only [List.getElem?_toArray, List.getElem?_cons_succ, List.getElem?_cons_zero, Option.some.injEq] at ho
          subst ho
          refine ⟨rfl, ?_⟩
          cases b
          · have q64 : A_.tmps[64]? = some (.bool false) := hI.val_ (i := 2) rfl rfl (by decide) (hdep ⟨2, .guard⟩ (by simp) rfl)
            exact .skip ((wanted_some rfl rfl q64).trans rfl) (fun _ => rfl)
          · have q64 : A_.tmps[64]? = some (.bool true) := hI.val_ (i := 2) rfl rfl (by decide) (hdep ⟨2, .guard⟩ (by simp) rfl)
            have e67 : A_.tmps[67]?.getD undef = .slice (some ⟨w6.heap.size, 0, none⟩) 3 3 := getD_of (hI.val_ (i := 5) rfl rfl (by decide) (hdep ⟨5, .data⟩ (by simp) rfl))
            have e68 : A_.tmps[68]?.getD undef = .int .i64 (k : Int) := getD_of (hI.val_ (i := 6) rfl rfl (by decide) (hdep ⟨6, .data⟩ (by simp) rfl))
            clear hI hdep
            have h8 : ¬ ((3 : Int) ≤ (k : Int)) := by omega
            exact .run ((wanted_some rfl rfl q64).trans rfl) (.pointer (some ⟨w6.heap.size, k, none⟩)) w3 (by simp [execOp, go_sem, Act.eval, *]) (Below.refl _ _) rfl
        · simp only [List.getElem?_toArray, List.getElem?_cons_succ, List.getElem?_cons_zero, Option.some.injEq] at ho
          subst ho
          refine ⟨rfl, ?_⟩
          cases b
          · have q64 : A_.tmps[64]? = some (.bool false) := hI.val_ (i := 2) rfl rfl (by decide) (hdep ⟨2, .guard⟩ (by simp) rfl)
            exact .skip ((wanted_some rfl rfl q64).trans rfl) (fun _ => rfl)
          · have q64 : A_.tmps[64]? = some (.bool true) := hI.val_ (i := 2) rfl rfl (by decide) (hdep ⟨2, .guard⟩ (by simp) rfl)
            have e69 : A_.tmps[69]?.getD undef = .pointer (some ⟨w6.heap.size, k, none⟩) := getD_of (hI.val_ (i := 7) rfl rfl (by decide) (hdep ⟨7, .data⟩ (by simp) rfl))
            clear hI hdep
            obtain ⟨_, _, c9⟩ := HK.out w3 (hh)
            exact .run ((wanted_some rfl rfl q64).trans rfl) (.string S) w3 (by simp [execOp, go_sem, Act.eval, *]) (Below.refl _ _) rfl
        · simp only [List.getElem?_toArray, List.getElem?_cons_succ, List.getElem?_cons_zero, Option.some.injEq] at ho
          subst ho
          refine ⟨rfl, ?_⟩
          cases b
          · have q64 : A_.tmps[64]? = some (.bool false) := hI.val_ (i := 2) rfl rfl (by decide) (hdep ⟨2, .guard⟩ (by simp) rfl)
            exact .skip ((wanted_some rfl rfl q64).trans rfl) (fun _ => rfl)
          · have q64 : A_.tmps[64]? = some (.bool true) := hI.val_ (i := 2) rfl rfl (by decide) (hdep ⟨2, .guard⟩ (by simp) rfl)
            have e66 : A_.tmps[66]?.getD undef = .string SE := getD_of (hI.val_ (i := 4) rfl rfl (by decide) (hdep ⟨4, .data⟩ (by simp) rfl))
            have e70 : A_.tmps[70]?.getD undef = .string S := getD_of (hI.val_ (i := 8) rfl rfl (by decide) (hdep ⟨8, .data⟩ (by simp) rfl))
            clear hI hdep
            have h_ := FF.out.2.2.2.1 rfl
            subst h_
            exact .run ((wanted_some rfl rfl q64).trans rfl) (.bool false) w3 (by simp [execOp, go_sem, Act.eval, *]) (Below.refl _ _) rfl
        · simp only [List.getElem?_toArray, List.getElem?_cons_succ, List.getElem?_cons_zero, Option.some.injEq] at ho
          subst ho
          refine ⟨rfl, ?_⟩
          cases b
          · have e64 : A_.tmps[64]?.getD undef = .bool false := getD_of (hI.val_ (i := 2) rfl rfl (by decide) (hdep ⟨2, .data⟩ (by simp) rfl))
            have e71 : A_.tmps[71]?.getD undef = undef := getD_of (hI.val_ (i := 9) rfl rfl (by decide) (hdep ⟨9, .data⟩ (by simp) rfl))
            clear hI hdep
            exact .run rfl (.bool false) w3 (by simp [execOp, go_sem, Act.eval, e64, e71]) (Below.refl _ _) rfl
          · have e64 : A_.tmps[64]?.getD undef = .bool true := getD_of (hI.val_ (i := 2) rfl rfl (by decide) (hdep ⟨2, .data⟩ (by simp) rfl))
            have e71 : A_.tmps[71]?.getD undef = .bool false := getD_of (hI.val_ (i := 9) rfl rfl (by decide) (hdep ⟨9, .data⟩ (by simp) rfl))
            clear hI hdep
            exact .run rfl (.bool false) w3 (by simp [execOp, go_sem, Act.eval, e64, e71]) (Below.refl _ _) rfl
        · simp only [List.getElem?_toArray, List.getElem?_cons_succ, List.getElem?_cons_zero, Option.some.injEq] at ho
          subst ho
          refine ⟨rfl, ?_⟩
          have e72 : A_.tmps[72]?.getD undef = .bool false := getD_of (hI.val_ (i := 10) rfl rfl (by decide) (hdep ⟨10, .data⟩ (by simp) rfl))
          clear hI hdep
          exact .run rfl (.bool false) w3 (by simp [execOp, go_sem, Act.eval, e72]) (Below.refl _ _) rfl
        · simp only [List.getElem?_toArray, List.getElem?_cons_succ, List.getElem?_cons_zero, Option.some.injEq] at ho
          subst ho
          refine ⟨rfl, ?_⟩
          have q73 : A_.tmps[73]? = some (.bool false) := hI.val_ (i := 11) rfl rfl (by decide) (hdep ⟨11, .guard⟩ (by simp) rfl)
          have e18 : A_.tmps[18]?.getD undef = .int .i64 F := by rw [hI.low 18 (by decide)]; rfl
          clear hI hdep
          exact .run ((wanted_some rfl rfl q73).trans rfl) (.int .i64 F) w3 (by simp [execOp, go_sem, Act.eval, e18]) (Below.refl _ _) rfl
        · simp only [List.getElem?_toArray, List.getElem?_cons_succ, List.getElem?_cons_zero, Option.some.injEq] at ho
          subst ho
          refine ⟨rfl, ?_⟩
          have q73 : A_.tmps[73]? = some (.bool false) := hI.val_ (i := 11) rfl rfl (by decide) (hdep ⟨11, .guard⟩ (by simp) rfl)
          have e74 : A_.tmps[74]?.getD undef = .int .i64 F := getD_of (hI.val_ (i := 12) rfl rfl (by decide) (hdep ⟨12, .data⟩ (by simp) rfl))
          clear hI hdep
          exact .run ((wanted_some rfl rfl q73).trans rfl) (.bool (!b)) w3 (by simp [execOp, go_sem, Act.eval, *]) (Below.refl _ _) rfl
        · simp only [List.getElem?_toArray, List.getElem?_cons_succ, List.getElem?_cons_zero, Option.some.injEq] at ho
          subst ho
          refine ⟨rfl, ?_⟩
          have q73 : A_.tmps[73]? = some (.bool false) := hI.val_ (i := 11) rfl rfl (by decide) (hdep ⟨11, .guard⟩ (by simp) rfl)
          have e75 : A_.tmps[75]?.getD undef = .bool (!b) := getD_of (hI.val_ (i := 13) rfl rfl (by decide) (hdep ⟨13, .data⟩ (by simp) rfl))
          clear hI hdep
          exact .run ((wanted_some rfl rfl q73).trans rfl) (.bool (!b)) w3 (by simp [execOp, go_sem, Act.eval, e75]) (Below.refl _ _) rfl
        · simp only [List.getElem?_toArray, List.getElem?_cons_succ, List.getElem?_cons_zero, Option.some.injEq] at ho
          subst ho
          refine ⟨rfl, ?_⟩
          cases b
          · have q76 : A_.tmps[76]? = some (.bool true) := hI.val_ (i := 14) rfl rfl (by decide) (hdep ⟨14, .guard⟩ (by simp) rfl)
            have e18 : A_.tmps[18]?.getD undef = .int .i64 F := by rw [hI.low 18 (by decide)]; rfl
            clear hI hdep
            exact .run ((wanted_some rfl rfl q76).trans rfl) (.int .i64 F) w3 (by simp [execOp, go_sem, Act.eval, e18]) (Below.refl _ _) rfl
          · have q76 : A_.tmps[76]? = some (.bool false) := hI.val_ (i := 14) rfl rfl (by decide) (hdep ⟨14, .guard⟩ (by simp) rfl)
            exact .skip ((wanted_some rfl rfl q76).trans rfl) (fun _ => rfl)
        · simp only [List.getElem?_toArray, List.getElem?_cons_succ, List.getElem?_cons_zero, Option.some.injEq] at ho
          subst ho
          refine ⟨rfl, ?_⟩
          cases b
          · have q76 : A_.tmps[76]? = some (.bool true) := hI.val_ (i := 14) rfl rfl (by decide) (hdep ⟨14, .guard⟩ (by simp) rfl)
            have e77 : A_.tmps[77]?.getD undef = .int .i64 F := getD_of (hI.val_ (i := 15) rfl rfl (by decide) (hdep ⟨15, .data⟩ (by simp) rfl))
            clear hI hdep
            exact .run ((wanted_some rfl rfl q76).trans rfl) (.bool false) w3 (by simp [execOp, go_sem, Act.eval, *]) (Below.refl _ _) rfl
          · have q76 : A_.tmps[76]? = some (.bool false) := hI.val_ (i := 14) rfl rfl (by decide) (hdep ⟨14, .guard⟩ (by simp) rfl)
            exact .skip ((wanted_some rfl rfl q76).trans rfl) (fun _ => rfl)
        · simp only [List.getElem?_toArray, List.getElem?_cons_succ, List.getElem?_cons_zero, Option.some.injEq] at ho
          subst ho
          refine ⟨rfl, ?_⟩
          cases b
          · have q76 : A_.tmps[76]? = some (.bool true) := hI.val_ (i := 14) rfl rfl (by decide) (hdep ⟨14, .guard⟩ (by simp) rfl)
            have e78 : A_.tmps[78]?.getD undef = .bool false := getD_of (hI.val_ (i := 16) rfl rfl (by decide) (hdep ⟨16, .data⟩ (by simp) rfl))
            clear hI hdep
            exact .run ((wanted_some rfl rfl q76).trans rfl) (.bool false) w3 (by simp [execOp, go_sem, Act.eval, e78]) (Below.refl _ _) rfl
          · have q76 : A_.tmps[76]? = some (.bool false) := hI.val_ (i := 14) rfl rfl (by decide) (hdep ⟨14, .guard⟩ (by simp) rfl)
            exact .skip ((wanted_some rfl rfl q76).trans rfl) (fun _ => rfl)
        · simp only [List.getElem?_toArray, List.getElem?_cons_succ, List.getElem?_cons_zero, Option.some.injEq] at ho
          subst ho
          refine ⟨rfl, ?_⟩
          cases b
          · have q79 : A_.tmps[79]? = some (.bool false) := hI.val_ (i := 17) rfl rfl (by decide) (hdep ⟨17, .guard⟩ (by simp) rfl)
            have e17 : A_.tmps[17]?.getD undef = .pointer (some ⟨wA.heap.size, 0, none⟩) := by rw [hI.low 17 (by decide)]; rfl
            clear hI hdep
            obtain ⟨⟨fa0, fa1, fa2, fa3, fa4, fa5, fa6, fa7⟩, ⟨fb0, fb1, fb2, fb3, fb4⟩, c9⟩ := HK.out w3 (hh)
            exact .run ((wanted_some rfl rfl q79).trans rfl) (.agg #[.int .i64 xk, .int .i64 xn, .int .i64 xa, .int .i64 xc, .int .i64 xh, .int .i64 xt, .int .i64 xi, .int .i64 xp]) w3 (by simp [execOp, go_sem, Act.eval, *]) (Below.refl _ _) rfl
          · have q79 : A_.tmps[79]? = some undef := hI.val_ (i := 17) rfl rfl (by decide) (hdep ⟨17, .guard⟩ (by simp) rfl)
            exact .skip (RgX.wanted_undef rfl rfl q79) (fun _ => rfl)
        · simp only [List.getElem?_toArray, List.getElem?_cons_succ, List.getElem?_cons_zero, Option.some.injEq] at ho
          subst ho
          refine ⟨rfl, ?_⟩
          cases b
          · have q79 : A_.tmps[79]? = some (.bool false) := hI.val_ (i := 17) rfl rfl (by decide) (hdep ⟨17, .guard⟩ (by simp) rfl)
            clear hI hdep
            exact .run ((wanted_some rfl rfl q79).trans rfl) (.agg #[.int .i64 0, .int .i64 0, .int .i64 0, .int .i64 0, .int .i64 0, .int .i64 0, .int .i64 0, .int .i64 0]) w3 (by simp [execOp, go_sem]) (Below.refl _ _) rfl
          · have q79 : A_.tmps[79]? = some undef := hI.val_ (i := 17) rfl rfl (by decide) (hdep ⟨17, .guard⟩ (by simp) rfl)
            exact .skip (RgX.wanted_undef rfl rfl q79) (fun _ => rfl)
        · simp only [List.getElem?_toArray, List.getElem?_cons_succ, List.getElem?_cons_zero, Option.some.injEq] at ho
          subst ho
          refine ⟨rfl, ?_⟩
          cases b
          · have q79 : A_.tmps[79]? = some (.bool false) := hI.val_ (i := 17) rfl rfl (by decide) (hdep ⟨17, .guard⟩ (by simp) rfl)
            have e80 : A_.tmps[80]?.getD undef = .agg #[.int .i64 xk, .int .i64 xn, .int .i64 xa, .int .i64 xc, .int .i64 xh, .int .i64 xt, .int .i64 xi, .int .i64 xp] := getD_of (hI.val_ (i := 18) rfl rfl (by decide) (hdep ⟨18, .data⟩ (by simp) rfl))
            have e81 : A_.tmps[81]?.getD undef = .agg #[.int .i64 0, .int .i64 0, .int .i64 0, .int .i64 0, .int .i64 0, .int .i64 0, .int .i64 0, .int .i64 0] := getD_of (hI.val_ (i := 19) rfl rfl (by decide) (hdep ⟨19, .data⟩ (by simp) rfl))
            clear hI hdep
            obtain ⟨z0_, z1_, z2_, z3_, z4_, z5_, z6_, z7_⟩ := FF.out.2.2.2.2 rfl
            exact .run ((wanted_some rfl rfl q79).trans rfl) (.bool false) w3 (by simp [execOp, go_sem, Act.eval, *]) (Below.refl _ _) rfl
          · have q79 : A_.tmps[79]? = some undef := hI.val_ (i := 17) rfl rfl (by decide) (hdep ⟨17, .guard⟩ (by simp) rfl)
            exact .skip (RgX.wanted_undef rfl rfl q79) (fun _ => rfl)
        · simp only [List.getElem?_toArray, List.getElem?_cons_succ, List.getElem?_cons_zero, Option.some.injEq] at ho
          subst ho
          refine ⟨rfl, ?_⟩
          cases b
          · have q76 : A_.tmps[76]? = some (.bool true) := hI.val_ (i := 14) rfl rfl (by decide) (hdep ⟨14, .guard⟩ (by simp) rfl)
            have e79 : A_.tmps[79]?.getD undef = .bool false := getD_of (hI.val_ (i := 17) rfl rfl (by decide) (hdep ⟨17, .data⟩ (by simp) rfl))
            have e82 : A_.tmps[82]?.getD undef = .bool false := getD_of (hI.val_ (i := 20) rfl rfl (by decide) (hdep ⟨20, .data⟩ (by simp) rfl))
            clear hI hdep
            exact .run ((wanted_some rfl rfl q76).trans rfl) (.bool false) w3 (by simp [execOp, go_sem, Act.eval, e79, e82]) (Below.refl _ _) rfl
          · have q76 : A_.tmps[76]? = some (.bool false) := hI.val_ (i := 14) rfl rfl (by decide) (hdep ⟨14, .guard⟩ (by simp) rfl)
            exact .skip ((wanted_some rfl rfl q76).trans rfl) (fun _ => rfl)
        · simp only [List.getElem?_toArray, List.getElem?_cons_succ, List.getElem?_cons_zero, Option.some.injEq] at ho
          subst ho
          refine ⟨rfl, ?_⟩
          cases b
          · have q73 : A_.tmps[73]? = some (.bool false) := hI.val_ (i := 11) rfl rfl (by decide) (hdep ⟨11, .guard⟩ (by simp) rfl)
            have e76 : A_.tmps[76]?.getD undef = .bool true := getD_of (hI.val_ (i := 14) rfl rfl (by decide) (hdep ⟨14, .data⟩ (by simp) rfl))
            have e83 : A_.tmps[83]?.getD undef = .bool false := getD_of (hI.val_ (i := 21) rfl rfl (by decide) (hdep ⟨21, .data⟩ (by simp) rfl))
            clear hI hdep
            exact .run ((wanted_some rfl rfl q73).trans rfl) (.bool false) w3 (by simp [execOp, go_sem, Act.eval, e76, e83]) (Below.refl _ _) rfl
          · have q73 : A_.tmps[73]? = some (.bool false) := hI.val_ (i := 11) rfl rfl (by decide) (hdep ⟨11, .guard⟩ (by simp) rfl)
            have e76 : A_.tmps[76]?.getD undef = .bool false := getD_of (hI.val_ (i := 14) rfl rfl (by decide) (hdep ⟨14, .data⟩ (by simp) rfl))
            have e83 : A_.tmps[83]?.getD undef = undef := getD_of (hI.val_ (i := 21) rfl rfl (by decide) (hdep ⟨21, .data⟩ (by simp) rfl))
            clear hI hdep
            exact .run ((wanted_some rfl rfl q73).trans rfl) (.bool false) w3 (by simp [execOp, go_sem, Act.eval, e76, e83]) (Below.refl _ _) rfl
        · simp only [List.getElem?_toArray, List.getElem?_cons_succ, List.getElem?_cons_zero, Option.some.injEq] at ho
          subst ho
          refine ⟨rfl, ?_⟩
          have e73 : A_.tmps[73]?.getD undef = .bool false := getD_of (hI.val_ (i := 11) rfl rfl (by decide) (hdep ⟨11, .data⟩ (by simp) rfl))
          have e84 : A_.tmps[84]?.getD undef = .bool false := getD_of (hI.val_ (i := 22) rfl rfl (by decide) (hdep ⟨22, .data⟩ (by simp) rfl))
          clear hI hdep
          exact .run rfl (.bool false) w3 (by simp [execOp, go_sem, Act.eval, e73, e84]) (Below.refl _ _) rfl
      case fin =>
      intro A_ w3 hs hd hlow hS_ hok
      obtain ⟨y65, hy65, _⟩ := hok 3 65 _ (by decide) rfl rfl
      obtain ⟨y66, hy66, _⟩ := hok 4 66 _ (by decide) rfl rfl
      obtain ⟨y67, hy67, _⟩ := hok 5 67 _ (by decide) rfl rfl
      obtain ⟨y68, hy68, _⟩ := hok 6 68 _ (by decide) rfl rfl
      obtain ⟨y69, hy69, _⟩ := hok 7 69 _ (by decide) rfl rfl
      obtain ⟨y70, hy70, _⟩ := hok 8 70 _ (by decide) rfl rfl
      obtain ⟨y71, hy71, _⟩ := hok 9 71 _ (by decide) rfl rfl
      obtain ⟨y77, hy77, _⟩ := hok 15 77 _ (by decide) rfl rfl
      obtain ⟨y78, hy78, _⟩ := hok 16 78 _ (by decide) rfl rfl
      obtain ⟨y79, hy79, _⟩ := hok 17 79 _ (by decide) rfl rfl
      obtain ⟨y80, hy80, _⟩ := hok 18 80 _ (by decide) rfl rfl
      obtain ⟨y81, hy81, _⟩ := hok 19 81 _ (by decide) rfl rfl
      obtain ⟨y82, hy82, _⟩ := hok 20 82 _ (by decide) rfl rfl
      obtain ⟨y83, hy83, _⟩ := hok 21 83 _ (by decide) rfl rfl
      obtain rfl : A_ = ⟨#[.string raw, .int .i64 n, .int .i64 m, .int .i64 at_, .int .i64 how, .int .u8 c, undef, undef, undef, undef, undef, undef, u12, .string S1, .string S2, .slice (some ⟨w6.heap.size, 0, none⟩) 3 3, .int .i64 (k : Int), .pointer (some ⟨wA.heap.size, 0, none⟩), .int .i64 F, .pointer (some ⟨wB.heap.size, 0, none⟩), .int .i64 F', .int .i64 n, .int .i64 m, E1, .string S1, .int .i64 n, .int .i64 m, Q1, .string S2, .string raw, .string S0, .string S1, .int .i64 at_, .int .i64 how, .int .u8 c, .string T1, .string S2, .int .i64 at_, .int .i64 how, .int .u8 c, .string T2, .slice (some ⟨w6.heap.size, 0, none⟩) 3 3, .int .i64 (k : Int), .bool true, u44, u45, Value.tuple #[evV { k := xk, n := xn, a := xa, m := { c := xc, h := xh, t := xt, i := xi, p := xp } }, .int .i64 F], .slice (some ⟨w6.heap.size, 0, none⟩) 3 3, .int .i64 (k : Int), .pointer (some { block := w6.heap.size, off := k }), .string S, Value.tuple #[evV { k := xk, n := xn, a := xa, m := { c := xc, h := xh, t := xt, i := xi, p := xp } }, .int .i64 F], evV { k := xk, n := xn, a := xa, m := { c := xc, h := xh, t := xt, i := xi, p := xp } }, .int .i64 F, Value.tuple #[quV { c := yc, h := yh, t := yt, k := yk, i := yi }, .int .i64 F'], .slice (some ⟨w6.heap.size, 0, none⟩) 3 3, .int .i64 (k : Int), .pointer (some { block := w6.heap.size, off := k }), .string S, Value.tuple #[quV { c := yc, h := yh, t := yt, k := yk, i := yi }, .int .i64 F'], quV { c := yc, h := yh, t := yt, k := yk, i := yi }, .int .i64 F', .int .i64 F, .bool b, .bool b, y65, y66, y67, y68, y69, y70, y71, .bool false, .bool false, .int .i64 F, .bool (!b), .bool (!b), y77, y78, y79, y80, y81, y82, y83, .bool false, .bool false, u86, u87, u88, u89, u90, u91, u92, u93, u94, u95, u96, u97, u98, u99, u100, u101, u102, u103, u104, u105, u106, u107, u108, u109, undef], []⟩ := act_ext hd hs (fun j hj => match j, hj with | 0, _ => (hlow 0 (by decide)).trans rfl | 1, _ => (hlow 1 (by decide)).trans rfl | 2, _ => (hlow 2 (by decide)).trans rfl | 3, _ => (hlow 3 (by decide)).trans rfl | 4, _ => (hlow 4 (by decide)).trans rfl | 5, _ => (hlow 5 (by decide)).trans rfl | 6, _ => (hlow 6 (by decide)).trans rfl | 7, _ => (hlow 7 (by decide)).trans rfl | 8, _ => (hlow 8 (by decide)).trans rfl | 9, _ => (hlow 9 (by decide)).trans rfl | 10, _ => (hlow 10 (by decide)).trans rfl | 11, _ => (hlow 11 (by decide)).trans rfl | 12, _ => (hlow 12 (by decide)).trans rfl | 13, _ => (hlow 13 (by decide)).trans rfl | 14, _ => (hlow 14 (by decide)).trans rfl | 15, _ => (hlow 15 (by decide)).trans rfl | 16, _ => (hlow 16 (by decide)).trans rfl | 17, _ => (hlow 17 (by decide)).trans rfl | 18, _ => (hlow 18 (by decide)).trans rfl | 19, _ => (hlow 19 (by decide)).trans rfl | 20, _ => (hlow 20 (by decide)).trans rfl | 21, _ => (hlow 21 (by decide)).trans rfl | 22, _ => (hlow 22 (by decide)).trans rfl | 23, _ => (hlow 23 (by decide)).trans rfl | 24, _ => (hlow 24 (by decide)).trans rfl | 25, _ => (hlow 25 (by decide)).trans rfl | 26, _ => (hlow 26 (by decide)).trans rfl | 27, _ => (hlow 27 (by decide)).trans rfl | 28, _ => (hlow 28 (by decide)).trans rfl | 29, _ => (hlow 29 (by decide)).trans rfl | 30, _ => (hlow 30 (by decide)).trans rfl | 31, _ => (hlow 31 (by decide)).trans rfl | 32, _ => (hlow 32 (by decide)).trans rfl | 33, _ => (hlow 33 (by decide)).trans rfl | 34, _ => (hlow 34 (by decide)).trans rfl | 35, _ => (hlow 35 (by decide)).trans rfl | 36, _ => (hlow 36 (by decide)).trans rfl | 37, _ => (hlow 37 (by decide)).trans rfl | 38, _ => (hlow 38 (by decide)).trans rfl | 39, _ => (hlow 39 (by decide)).trans rfl | 40, _ => (hlow 40 (by decide)).trans rfl | 41, _ => (hlow 41 (by decide)).trans rfl | 42, _ => (hlow 42 (by decide)).trans rfl | 43, _ => (hlow 43 (by decide)).trans rfl | 44, _ => (hlow 44 (by decide)).trans rfl | 45, _ => (hlow 45 (by decide)).trans rfl | 46, _ => (hlow 46 (by decide)).trans rfl | 47, _ => (hlow 47 (by decide)).trans rfl | 48, _ => (hlow 48 (by decide)).trans rfl | 49, _ => (hlow 49 (by decide)).trans rfl | 50, _ => (hlow 50 (by decide)).trans rfl | 51, _ => (hlow 51 (by decide)).trans rfl | 52, _ => (hlow 52 (by decide)).trans rfl | 53, _ => (hlow 53 (by decide)).trans rfl | 54, _ => (hlow 54 (by decide)).trans rfl | 55, _ => (hlow 55 (by decide)).trans rfl | 56, _ => (hlow 56 (by decide)).trans rfl | 57, _ => (hlow 57 (by decide)).trans rfl | 58, _ => (hlow 58 (by decide)).trans rfl | 59, _ => (hlow 59 (by decide)).trans rfl | 60, _ => (hlow 60 (by decide)).trans rfl | 61, _ => (hlow 61 (by decide)).trans rfl | 62, _ => RgX.val_at (hok 0 62 _ (by decide) rfl rfl) | 63, _ => RgX.val_at (hok 1 63 _ (by decide) rfl rfl) | 64, _ => RgX.val_at (hok 2 64 _ (by decide) rfl rfl) | 65, _ => hy65 | 66, _ => hy66 | 67, _ => hy67 | 68, _ => hy68 | 69, _ => hy69 | 70, _ => hy70 | 71, _ => hy71 | 72, _ => RgX.val_at (hok 10 72 _ (by decide) rfl rfl) | 73, _ => RgX.val_at (hok 11 73 _ (by decide) rfl rfl) | 74, _ => RgX.val_at (hok 12 74 _ (by decide) rfl rfl) | 75, _ => RgX.val_at (hok 13 75 _ (by decide) rfl rfl) | 76, _ => RgX.val_at (hok 14 76 _ (by decide) rfl rfl) | 77, _ => hy77 | 78, _ => hy78 | 79, _ => hy79 | 80, _ => hy80 | 81, _ => hy81 | 82, _ => hy82 | 83, _ => hy83 | 84, _ => RgX.val_at (hok 22 84 _ (by decide) rfl rfl) | 85, _ => RgX.val_at (hok 23 85 _ (by decide) rfl rfl) | 86, _ => (hlow 86 (by decide)).trans rfl | 87, _ => (hlow 87 (by decide)).trans rfl | 88, _ => (hlow 88 (by decide)).trans rfl | 89, _ => (hlow 89 (by decide)).trans rfl | 90, _ => (hlow 90 (by decide)).trans rfl | 91, _ => (hlow 91 (by decide)).trans rfl | 92, _ => (hlow 92 (by decide)).trans rfl | 93, _ => (hlow 93 (by decide)).trans rfl | 94, _ => (hlow 94 (by decide)).trans rfl | 95, _ => (hlow 95 (by decide)).trans rfl | 96, _ => (hlow 96 (by decide)).trans rfl | 97, _ => (hlow 97 (by decide)).trans rfl | 98, _ => (hlow 98 (by decide)).trans rfl | 99, _ => (hlow 99 (by decide)).trans rfl | 100, _ => (hlow 100 (by decide)).trans rfl | 101, _ => (hlow 101 (by decide)).trans rfl | 102, _ => (hlow 102 (by decide)).trans rfl | 103, _ => (hlow 103 (by decide)).trans rfl | 104, _ => (hlow 104 (by decide)).trans rfl | 105, _ => (hlow 105 (by decide)).trans rfl | 106, _ => (hlow 106 (by decide)).trans rfl | 107, _ => (hlow 107 (by decide)).trans rfl | 108, _ => (hlow 108 (by decide)).trans rfl | 109, _ => (hlow 109 (by decide)).trans rfl | 110, _ => (hlow 110 (by decide)).trans rfl | n + 111, h => absurd h (by show ¬ n + 111 < 111; omega))
      clear hs hd hlow hok hy65 hy66 hy67 hy68 hy69 hy70 hy71 hy77 hy78 hy79 hy80 hy81 hy82 hy83
      clear f0 f1 f8
      have BR := Lib.hid hS_
      have BU3 := Lib.hid (show Below wr.heap.size wr w3 from BU2.out.trans (hS_.mono BU2.out.size))
      clear hS_
      obtain ⟨u3, hu3⟩ : ∃ W, W = w3 := ⟨_, rfl⟩
      subst hu3
      go_wp2_with fail
      have f0 := FF'.out.1
      have f1 := FF'.out.2.1
      have f8 := FF'.out.2.2.1
      refine RgX.region 24 (fun i => ( 86 + i)) (fun ix_ => match ix_ with | 0 => .v (.int .i64 F') | 1 => .v (.bool b') | 2 => .v (.bool b') | 3 => (bif b' then (.v (.agg #[.int .i64 yc, .int .i64 yh, .int .i64 yt, .int .i64 yk, .int .i64 yi]) : RgX.Sp) else .v undef) | 4 => (bif b' then (.v (.string SQ) : RgX.Sp) else .v undef) | 5 => (bif b' then (.v (.slice (some ⟨w6.heap.size, 0, none⟩) 3 3) : RgX.Sp) else .v undef) | 6 => (bif b' then (.v (.int .i64 (k : Int)) : RgX.Sp) else .v undef) | 7 => (bif b' then (.v (.pointer (some ⟨w6.heap.size, k, none⟩)) : RgX.Sp) else .v undef) | 8 => (bif b' then (.v (.string S) : RgX.Sp) else .v undef) | 9 => (bif b' then (.v (.bool false) : RgX.Sp) else .v undef) | 10 => .v (.bool false) | 11 => .v (.bool false) | 12 => .v (.int .i64 F') | 13 => .v (.bool (!b')) | 14 => .v (.bool (!b')) | 15 => (bif (!b') then (.v (.int .i64 F') : RgX.Sp) else .v undef) | 16 => (bif (!b') then (.v (.bool false) : RgX.Sp) else .v undef) | 17 => (bif (!b') then (.v (.bool false) : RgX.Sp) else .v undef) | 18 => (bif (!b') then (.v (.agg #[.int .i64 yc, .int .i64 yh, .int .i64 yt, .int .i64 yk, .int .i64 yi]) : RgX.Sp) else .v undef) | 19 => (bif (!b') then (.v (.agg #[.int .i64 0, .int .i64 0, .int .i64 0, .int .i64 0, .int .i64 0]) : RgX.Sp) else .v undef) | 20 => (bif (!b') then (.v (.bool false) : RgX.Sp) else .v undef) | 21 => (bif (!b') then (.v (.bool false) : RgX.Sp) else .v undef) | 22 => .v (.bool false) | 23 => .v (.bool false) | _ => .any) (by kernel_rfl) rfl (by kernel_rfl)  (fun i hi => by show ( 86 + i) < 111; (repeat' split) <;> omega) (fun i j hi hj => by show ( 86 + i) = ( 86 + j) → i = j; (repeat' split) <;> omega) ?step ?fin
      case step =>
        intro L_ A_ w3 ix op_ hI ho hdep
        have hi : ix < 24 := (Array.getElem?_eq_some_iff.1 ho).1
        have hcase : ix = 0 ∨ ix = 1 ∨ ix = 2 ∨ ix = 3 ∨ ix = 4 ∨ ix = 5 ∨ ix = 6 ∨ ix = 7 ∨ ix = 8 ∨ ix = 9 ∨ ix = 10 ∨ ix = 11 ∨ ix = 12 ∨ ix = 13 ∨ ix = 14 ∨ ix = 15 ∨ ix = 16 ∨ ix = 17 ∨ ix = 18 ∨ ix = 19 ∨ ix = 20 ∨ ix = 21 ∨ ix = 22 ∨ ix = 23 := by omega
        have hh := hI.held
        clear hi
        rcases hcase with rfl | rfl | rfl | rfl | rfl | rfl | rfl | rfl | rfl | rfl | rfl | rfl | rfl | rfl | rfl | rfl | rfl | rfl | rfl | rfl | rfl | rfl | rfl | rfl
        · simp only [List.getElem?_toArray, List.getElem?_cons_zero, Option.some.injEq] at ho
          subst ho
          refine ⟨rfl, ?_⟩
          have e20 : A_.tmps[20]?.getD undef = .int .i64 F' := by rw [hI.low 20 (by decide)]; rfl
          clear hI hdep
          exact .run rfl (.int .i64 F') w3 (by simp [execOp, go_sem, Act.eval, e20]) (Below.refl _ _) rfl
        · simp only [List.getElem?_toArray, List.getElem?_cons_succ, List.getElem?_cons_zero, Option.some.injEq] at ho
          subst ho
          refine ⟨rfl, ?_⟩
          have e86 : A_.tmps[86]?.getD undef = .int .i64 F' := getD_of (hI.val_ (i := 0) rfl rfl (by decide) (hdep ⟨0, .data⟩ (by simp) rfl))
          clear hI hdep
          exact .run rfl (.bool b') w3 (by simp [execOp, go_sem, Act.eval, *]) (Below.refl _ _) rfl
        · simp only [List.getElem?_toArray, List.getElem?_cons_succ, List.getElem?_cons_zero, Option.some.injEq] at ho
          subst ho
          refine ⟨rfl, ?_⟩
          have e87 : A_.tmps[87]?.getD undef = .bool b' := getD_of (hI.val_ (i := 1) rfl rfl (by decide) (hdep ⟨1, .data⟩ (by simp) rfl))
          clear hI hdep
          exact .run rfl (.bool b') w3 (by simp [execOp, go_sem, Act.eval, e87]) (Below.refl _ _) rfl
        · simp only [List.getElem?_toArray, List.getElem?_cons_succ, List.getElem?_cons_zero, Option.some.injEq] at ho
          subst ho
          refine ⟨rfl, ?_⟩
          cases b'
          · have q88 : A_.tmps[88]? = some (.bool false) := hI.val_ (i := 2) rfl rfl (by decide) (hdep ⟨2, .guard⟩ (by simp) rfl)
            exact .skip ((wanted_some rfl rfl q88).trans rfl) (fun _ => rfl)
          · have q88 : A_.tmps[88]? = some (.bool true) := hI.val_ (i := 2) rfl rfl (by decide) (hdep ⟨2, .guard⟩ (by simp) rfl)
            have e19 : A_.tmps[19]?.getD undef = .pointer (some ⟨wB.heap.size, 0, none⟩) := by rw [hI.low 19 (by decide)]; rfl
            clear hI hdep
            obtain ⟨⟨fa0, fa1, fa2, fa3, fa4, fa5, fa6, fa7⟩, ⟨fb0, fb1, fb2, fb3, fb4⟩, c9⟩ := HK.out w3 (BR.out.trans (hh.mono BR.out.size))
            exact .run ((wanted_some rfl rfl q88).trans rfl) (.agg #[.int .i64 yc, .int .i64 yh, .int .i64 yt, .int .i64 yk, .int .i64 yi]) w3 (by simp [execOp, go_sem, Act.eval, *]) (Below.refl _ _) rfl
        · simp only [List.getElem?_toArray, List.getElem?_cons_succ, List.getElem?_cons_zero, Option.some.injEq] at ho
          subst ho
          refine ⟨rfl, ?_⟩
          cases b'
          · have q88 : A_.tmps[88]? = some (.bool false) := hI.val_ (i := 2) rfl rfl (by decide) (hdep ⟨2, .guard⟩ (by simp) rfl)
            exact .skip ((wanted_some rfl rfl q88).trans rfl) (fun _ => rfl)
          · have q88 : A_.tmps[88]? = some (.bool true) := hI.val_ (i := 2) rfl rfl (by decide) (hdep ⟨2, .guard⟩ (by simp) rfl)
            have e89 : A_.tmps[89]?.getD undef = .agg #[.int .i64 yc, .int .i64 yh, .int .i64 yt, .int .i64 yk, .int .i64 yi] := getD_of (hI.val_ (i := 3) rfl rfl (by decide) (hdep ⟨3, .data⟩ (by simp) rfl))
            clear hI hdep
            exact .call ((wanted_some rfl rfl q88).trans rfl) 16 #[.agg #[.int .i64 yc, .int .i64 yh, .int .i64 yt, .int .i64 yk, .int .i64 yi]] (by simp [go_sem, Act.eval, e89]) ((HRQ.out w3).mono fun _ _ ⟨h1_, h2_⟩ => ⟨⟨_, h1_, rfl⟩, h2_⟩)
        · simp only [List.getElem?_toArray, List.getElem?_cons_succ, List.getElem?_cons_zero, Option.some.injEq] at ho
          subst ho
          refine ⟨rfl, ?_⟩
          cases b'
          · have q88 : A_.tmps[88]? = some (.bool false) := hI.val_ (i := 2) rfl rfl (by decide) (hdep ⟨2, .guard⟩ (by simp) rfl)
            exact .skip ((wanted_some rfl rfl q88).trans rfl) (fun _ => rfl)
          · have q88 : A_.tmps[88]? = some (.bool true) := hI.val_ (i := 2) rfl rfl (by decide) (hdep ⟨2, .guard⟩ (by simp) rfl)
            have e15 : A_.tmps[15]?.getD undef = .slice (some ⟨w6.heap.size, 0, none⟩) 3 3 := by rw [hI.low 15 (by decide)]; rfl
            clear hI hdep
            exact .run ((wanted_some rfl rfl q88).trans rfl) (.slice (some ⟨w6.heap.size, 0, none⟩) 3 3) w3 (by simp [execOp, go_sem, Act.eval, e15]) (Below.refl _ _) rfl
        · simp only [List.getElem?_toArray, List.getElem?_cons_succ, List.getElem?_cons_zero, Option.some.injEq] at ho
          subst ho
          refine ⟨rfl, ?_⟩
          cases b'
          · have q88 : A_.tmps[88]? = some (.bool false) := hI.val_ (i := 2) rfl rfl (by decide) (hdep ⟨2, .guard⟩ (by simp) rfl)
            exact .skip ((wanted_some rfl rfl q88).trans rfl) (fun _ => rfl)
          · have q88 : A_.tmps[88]? = some (.bool true) := hI.val_ (i := 2) rfl rfl (by decide) (hdep ⟨2, .guard⟩ (by simp) rfl)
            have e16 : A_.tmps[16]?.getD undef = .int .i64 (k : Int) := by rw [hI.low 16 (by decide)]; rfl
            clear hI hdep
            exact .run ((wanted_some rfl rfl q88).trans rfl) (.int .i64 (k : Int)) w3 (by simp [execOp, go_sem, Act.eval, e16]) (Below.refl _ _) rfl
        · simp only [List.getElem?_toArray, List.getElem?_cons_succ, List.getElem?_cons_zero, Option.some.injEq] at ho
          subst ho
          refine ⟨rfl, ?_⟩
          cases b'
          · have q88 : A_.tmps[88]? = some (.bool false) := hI.val_ (i := 2) rfl rfl (by decide) (hdep ⟨2, .guard⟩ (by simp) rfl)
            exact .skip ((wanted_some rfl rfl q88).trans rfl) (fun _ => rfl)
          · have q88 : A_.tmps[88]? = some (.bool true) := hI.val_ (i := 2) rfl rfl (by decide) (hdep ⟨2, .guard⟩ (by simp) rfl)
            have e91 : A_.tmps[91]?.getD undef = .slice (some ⟨w6.heap.size, 0, none⟩) 3 3 := getD_of (hI.val_ (i := 5) rfl rfl (by decide) (hdep ⟨5, .data⟩ (by simp) rfl))
            have e92 : A_.tmps[92]?.getD undef = .int .i64 (k : Int) := getD_of (hI.val_ (i := 6) rfl rfl (by decide) (hdep ⟨6, .data⟩ (by simp) rfl))
            clear hI hdep
            have h8 : ¬ ((3 : Int) ≤ (k : Int)) := by omega
            exact .run ((wanted_some rfl rfl q88).trans rfl) (.pointer (some ⟨w6.heap.size, k, none⟩)) w3 (by simp [execOp, go_sem, Act.eval, *]) (Below.refl _ _) rfl
        · simp only [List.getElem?_toArray, List.getElem?_cons_succ, List.getElem?_cons_zero, Option.some.injEq] at ho
          subst ho
          refine ⟨rfl, ?_⟩
          cases b'
          · have q88 : A_.tmps[88]? = some (.bool false) := hI.val_ (i := 2) rfl rfl (by decide) (hdep ⟨2, .guard⟩ (by simp) rfl)
            exact .skip ((wanted_some rfl rfl q88).trans rfl) (fun _ => rfl)
          · have q88 : A_.tmps[88]? = some (.bool true) := hI.val_ (i := 2) rfl rfl (by decide) (hdep ⟨2, .guard⟩ (by simp) rfl)
            have e93 : A_.tmps[93]?.getD undef = .pointer (some ⟨w6.heap.size, k, none⟩) := getD_of (hI.val_ (i := 7) rfl rfl (by decide) (hdep ⟨7, .data⟩ (by simp) rfl))
            clear hI hdep
            obtain ⟨_, _, c9⟩ := HK.out w3 (BR.out.trans (hh.mono BR.out.size))
            exact .run ((wanted_some rfl rfl q88).trans rfl) (.string S) w3 (by simp [execOp, go_sem, Act.eval, *]) (Below.refl _ _) rfl
        · simp only [List.getElem?_toArray, List.getElem?_cons_succ, List.getElem?_cons_zero, Option.some.injEq] at ho
          subst ho
          refine ⟨rfl, ?_⟩
          cases b'
          · have q88 : A_.tmps[88]? = some (.bool false) := hI.val_ (i := 2) rfl rfl (by decide) (hdep ⟨2, .guard⟩ (by simp) rfl)
            exact .skip ((wanted_some rfl rfl q88).trans rfl) (fun _ => rfl)
          · have q88 : A_.tmps[88]? = some (.bool true) := hI.val_ (i := 2) rfl rfl (by decide) (hdep ⟨2, .guard⟩ (by simp) rfl)
            have e90 : A_.tmps[90]?.getD undef = .string SQ := getD_of (hI.val_ (i := 4) rfl rfl (by decide) (hdep ⟨4, .data⟩ (by simp) rfl))
            have e94 : A_.tmps[94]?.getD undef = .string S := getD_of (hI.val_ (i := 8) rfl rfl (by decide) (hdep ⟨8, .data⟩ (by simp) rfl))
            clear hI hdep
            have h_ := FF'.out.2.2.2.1 rfl
            subst h_
            exact .run ((wanted_some rfl rfl q88).trans rfl) (.bool false) w3 (by simp [execOp, go_sem, Act.eval, *]) (Below.refl _ _) rfl
        · simp only [List.getElem?_toArray, List.getElem?_cons_succ, List.getElem?_cons_zero, Option.some.injEq] at ho
          subst ho
          refine ⟨rfl, ?_⟩
          cases b'
          · have e88 : A_.tmps[88]?.getD undef = .bool false := getD_of (hI.val_ (i := 2) rfl rfl (by decide) (hdep ⟨2, .data⟩ (by simp) rfl))
            have e95 : A_.tmps[95]?.getD undef = undef := getD_of (hI.val_ (i := 9) rfl rfl (by decide) (hdep ⟨9, .data⟩ (by simp) rfl))
            clear hI hdep
            exact .run rfl (.bool false) w3 (by simp [execOp, go_sem, Act.eval, e88, e95]) (Below.refl _ _) rfl
          · have e88 : A_.tmps[88]?.getD undef = .bool true := getD_of (hI.val_ (i := 2) rfl rfl (by decide) (hdep ⟨2, .data⟩ (by simp) rfl))
            have e95 : A_.tmps[95]?.getD undef = .bool false := getD_of (hI.val_ (i := 9) rfl rfl (by decide) (hdep ⟨9, .data⟩ (by simp) rfl))
            clear hI hdep
            exact .run rfl (.bool false) w3 (by simp [execOp, go_sem, Act.eval, e88, e95]) (Below.refl _ _) rfl
        · simp only [List.getElem?_toArray, List.getElem?_cons_succ, List.getElem?_cons_zero, Option.some.injEq] at ho
          subst ho
          refine ⟨rfl, ?_⟩
          have e96 : A_.tmps[96]?.getD undef = .bool false := getD_of (hI.val_ (i := 10) rfl rfl (by decide) (hdep ⟨10, .data⟩ (by simp) rfl))
          clear hI hdep
          exact .run rfl (.bool false) w3 (by simp [execOp, go_sem, Act.eval, e96]) (Below.refl _ _) rfl
        · simp only [List.getElem?_toArray, List.getElem?_cons_succ, List.getElem?_cons_zero, Option.some.injEq] at ho
          subst ho
          refine ⟨rfl, ?_⟩
          have q97 : A_.tmps[97]? = some (.bool false) := hI.val_ (i := 11) rfl rfl (by decide) (hdep ⟨11, .guard⟩ (by simp) rfl)
          have e20 : A_.tmps[20]?.getD undef = .int .i64 F' := by rw [hI.low 20 (by decide)]; rfl
          clear hI hdep
          exact .run ((wanted_some rfl rfl q97).trans rfl) (.int .i64 F') w3 (by simp [execOp, go_sem, Act.eval, e20]) (Below.refl _ _) rfl
        · simp only [List.getElem?_toArray, List.getElem?_cons_succ, List.getElem?_cons_zero, Option.some.injEq] at ho
          subst ho
          refine ⟨rfl, ?_⟩
          have q97 : A_.tmps[97]? = some (.bool false) := hI.val_ (i := 11) rfl rfl (by decide) (hdep ⟨11, .guard⟩ (by simp) rfl)
          have e98 : A_.tmps[98]?.getD undef = .int .i64 F' := getD_of (hI.val_ (i := 12) rfl rfl (by decide) (hdep ⟨12, .data⟩ (by simp) rfl))
          clear hI hdep
          exact .run ((wanted_some rfl rfl q97).trans rfl) (.bool (!b')) w3 (by simp [execOp, go_sem, Act.eval, *]) (Below.refl _ _) rfl
        · simp only [List.getElem?_toArray, List.getElem?_cons_succ, List.getElem?_cons_zero, Option.some.injEq] at ho
          subst ho
          refine ⟨rfl, ?_⟩
          have q97 : A_.tmps[97]? = some (.bool false) := hI.val_ (i := 11) rfl rfl (by decide) (hdep ⟨11, .guard⟩ (by simp) rfl)
          have e99 : A_.tmps[99]?.getD undef = .bool (!b') := getD_of (hI.val_ (i := 13) rfl rfl (by decide) (hdep ⟨13, .data⟩ (by simp) rfl))
          clear hI hdep
          exact .run ((wanted_some rfl rfl q97).trans rfl) (.bool (!b')) w3 (by simp [execOp, go_sem, Act.eval, e99]) (Below.refl _ _) rfl
        · simp only [List.getElem?_toArray, List.getElem?_cons_succ, List.getElem?_cons_zero, Option.some.injEq] at ho
          subst ho
          refine ⟨rfl, ?_⟩
          cases b'
          · have q100 : A_.tmps[100]? = some (.bool true) := hI.val_ (i := 14) rfl rfl (by decide) (hdep ⟨14, .guard⟩ (by simp) rfl)
            have e20 : A_.tmps[20]?.getD undef = .int .i64 F' := by rw [hI.low 20 (by decide)]; rfl
            clear hI hdep
            exact .run ((wanted_some rfl rfl q100).trans rfl) (.int .i64 F') w3 (by simp [execOp, go_sem, Act.eval, e20]) (Below.refl _ _) rfl
          · have q100 : A_.tmps[100]? = some (.bool false) := hI.val_ (i := 14) rfl rfl (by decide) (hdep ⟨14, .guard⟩ (by simp) rfl)
            exact .skip ((wanted_some rfl rfl q100).trans rfl) (fun _ => rfl)
        · simp only [List.getElem?_toArray, List.getElem?_cons_succ, List.getElem?_cons_zero, Option.some.injEq] at ho
          subst ho
          refine ⟨rfl, ?_⟩
          cases b'
          · have q100 : A_.tmps[100]? = some (.bool true) := hI.val_ (i := 14) rfl rfl (by decide) (hdep ⟨14, .guard⟩ (by simp) rfl)
            have e101 : A_.tmps[101]?.getD undef = .int .i64 F' := getD_of (hI.val_ (i := 15) rfl rfl (by decide) (hdep ⟨15, .data⟩ (by simp) rfl))
            clear hI hdep
            exact .run ((wanted_some rfl rfl q100).trans rfl) (.bool false) w3 (by simp [execOp, go_sem, Act.eval, *]) (Below.refl _ _) rfl
          · have q100 : A_.tmps[100]? = some (.bool false) := hI.val_ (i := 14) rfl rfl (by decide) (hdep ⟨14, .guard⟩ (by simp) rfl)
            exact .skip ((wanted_some rfl rfl q100).trans rfl) (fun _ => rfl)
        · simp only [List.getElem?_toArray, List.getElem?_cons_succ, List.getElem?_cons_zero, Option.some.injEq] at ho
          subst ho
          refine ⟨rfl, ?_⟩
          cases b'
          · have q100 : A_.tmps[100]? = some (.bool true) := hI.val_ (i := 14) rfl rfl (by decide) (hdep ⟨14, .guard⟩ (by simp) rfl)
            have e102 : A_.tmps[102]?.getD undef = .bool false := getD_of (hI.val_ (i := 16) rfl rfl (by decide) (hdep ⟨16, .data⟩ (by simp) rfl))
            clear hI hdep
            exact .run ((wanted_some rfl rfl q100).trans rfl) (.bool false) w3 (by simp [execOp, go_sem, Act.eval, e102]) (Below.refl _ _) rfl
          · have q100 : A_.tmps[100]? = some (.bool false) := hI.val_ (i := 14) rfl rfl (by decide) (hdep ⟨14, .guard⟩ (by simp) rfl)
            exact .skip ((wanted_some rfl rfl q100).trans rfl) (fun _ => rfl)
        · simp only [List.getElem?_toArray, List.getElem?_cons_succ, List.getElem?_cons_zero, Option.some.injEq] at ho
          subst ho
          refine ⟨rfl, ?_⟩
          cases b'
          · have q103 : A_.tmps[103]? = some (.bool false) := hI.val_ (i := 17) rfl rfl (by decide) (hdep ⟨17, .guard⟩ (by simp) rfl)
            have e19 : A_.tmps[19]?.getD undef = .pointer (some ⟨wB.heap.size, 0, none⟩) := by rw [hI.low 19 (by decide)]; rfl
            clear hI hdep
            obtain ⟨⟨fa0, fa1, fa2, fa3, fa4, fa5, fa6, fa7⟩, ⟨fb0, fb1, fb2, fb3, fb4⟩, c9⟩ := HK.out w3 (BR.out.trans (hh.mono BR.out.size))
            exact .run ((wanted_some rfl rfl q103).trans rfl) (.agg #[.int .i64 yc, .int .i64 yh, .int .i64 yt, .int .i64 yk, .int .i64 yi]) w3 (by simp [execOp, go_sem, Act.eval, *]) (Below.refl _ _) rfl
          · have q103 : A_.tmps[103]? = some undef := hI.val_ (i := 17) rfl rfl (by decide) (hdep ⟨17, .guard⟩ (by simp) rfl)
            exact .skip (RgX.wanted_undef rfl rfl q103) (fun _ => rfl)
        · simp only [List.getElem?_toArray, List.getElem?_cons_succ, List.getElem?_cons_zero, Option.some.injEq] at ho
          subst ho
          refine ⟨rfl, ?_⟩
          cases b'
          · have q103 : A_.tmps[103]? = some (.bool false) := hI.val_ (i := 17) rfl rfl (by decide) (hdep ⟨17, .guard⟩ (by simp) rfl)
            clear hI hdep
            exact .run ((wanted_some rfl rfl q103).trans rfl) (.agg #[.int .i64 0, .int .i64 0, .int .i64 0, .int .i64 0, .int .i64 0]) w3 (by simp [execOp, go_sem]) (Below.refl _ _) rfl
          · have q103 : A_.tmps[103]? = some undef := hI.val_ (i := 17) rfl rfl (by decide) (hdep ⟨17, .guard⟩ (by simp) rfl)
            exact .skip (RgX.wanted_undef rfl rfl q103) (fun _ => rfl)
        · simp only [List.getElem?_toArray, List.getElem?_cons_succ, List.getElem?_cons_zero, Option.some.injEq] at ho
          subst ho
          refine ⟨rfl, ?_⟩
          cases b'
          · have q103 : A_.tmps[103]? = some (.bool false) := hI.val_ (i := 17) rfl rfl (by decide) (hdep ⟨17, .guard⟩ (by simp) rfl)
            have e104 : A_.tmps[104]?.getD undef = .agg #[.int .i64 yc, .int .i64 yh, .int .i64 yt, .int .i64 yk, .int .i64 yi] := getD_of (hI.val_ (i := 18) rfl rfl (by decide) (hdep ⟨18, .data⟩ (by simp) rfl))
            have e105 : A_.tmps[105]?.getD undef = .agg #[.int .i64 0, .int .i64 0, .int .i64 0, .int .i64 0, .int .i64 0] := getD_of (hI.val_ (i := 19) rfl rfl (by decide) (hdep ⟨19, .data⟩ (by simp) rfl))
            clear hI hdep
            obtain ⟨z0_, z1_, z2_, z3_, z4_⟩ := FF'.out.2.2.2.2 rfl
            exact .run ((wanted_some rfl rfl q103).trans rfl) (.bool false) w3 (by simp [execOp, go_sem, Act.eval, *]) (Below.refl _ _) rfl
          · have q103 : A_.tmps[103]? = some undef := hI.val_ (i := 17) rfl rfl (by decide) (hdep ⟨17, .guard⟩ (by simp) rfl)
            exact .skip (RgX.wanted_undef rfl rfl q103) (fun _ => rfl)
        · simp only [List.getElem?_toArray, List.getElem?_cons_succ, List.getElem?_cons_zero, Option.some.injEq] at ho
          subst ho
          refine ⟨rfl, ?_⟩
          cases b'
          · have q100 : A_.tmps[100]? = some (.bool true) := hI.val_ (i := 14) rfl rfl (by decide) (hdep ⟨14, .guard⟩ (by simp) rfl)
            have e103 : A_.tmps[103]?.getD undef = .bool false := getD_of (hI.val_ (i := 17) rfl rfl (by decide) (hdep ⟨17, .data⟩ (by simp) rfl))
            have e106 : A_.tmps[106]?.getD undef = .bool false := getD_of (hI.val_ (i := 20) rfl rfl (by decide) (hdep ⟨20, .data⟩ (by simp) rfl))
            clear hI hdep
            exact .run ((wanted_some rfl rfl q100).trans rfl) (.bool false) w3 (by simp [execOp, go_sem, Act.eval, e103, e106]) (Below.refl _ _) rfl
          · have q100 : A_.tmps[100]? = some (.bool false) := hI.val_ (i := 14) rfl rfl (by decide) (hdep ⟨14, .guard⟩ (by simp) rfl)
            exact .skip ((wanted_some rfl rfl q100).trans rfl) (fun _ => rfl)
        · simp only [List.getElem?_toArray, List.getElem?_cons_succ, List.getElem?_cons_zero, Option.some.injEq] at ho
          subst ho
          refine ⟨rfl, ?_⟩
          cases b'
          · have q97 : A_.tmps[97]? = some (.bool false) := hI.val_ (i := 11) rfl rfl (by decide) (hdep ⟨11, .guard⟩ (by simp) rfl)
            have e100 : A_.tmps[100]?.getD undef = .bool true := getD_of (hI.val_ (i := 14) rfl rfl (by decide) (hdep ⟨14, .data⟩ (by simp) rfl))
            have e107 : A_.tmps[107]?.getD undef = .bool false := getD_of (hI.val_ (i := 21) rfl rfl (by decide) (hdep ⟨21, .data⟩ (by simp) rfl))
            clear hI hdep
            exact .run ((wanted_some rfl rfl q97).trans rfl) (.bool false) w3 (by simp [execOp, go_sem, Act.eval, e100, e107]) (Below.refl _ _) rfl
          · have q97 : A_.tmps[97]? = some (.bool false) := hI.val_ (i := 11) rfl rfl (by decide) (hdep ⟨11, .guard⟩ (by simp) rfl)
            have e100 : A_.tmps[100]?.getD undef = .bool false := getD_of (hI.val_ (i := 14) rfl rfl (by decide) (hdep ⟨14, .data⟩ (by simp) rfl))
            have e107 : A_.tmps[107]?.getD undef = undef := getD_of (hI.val_ (i := 21) rfl rfl (by decide) (hdep ⟨21, .data⟩ (by simp) rfl))
            clear hI hdep
            exact .run ((wanted_some rfl rfl q97).trans rfl) (.bool false) w3 (by simp [execOp, go_sem, Act.eval, e100, e107]) (Below.refl _ _) rfl
        · simp only [List.getElem?_toArray, List.getElem?_cons_succ, List.getElem?_cons_zero, Option.some.injEq] at ho
          subst ho
          refine ⟨rfl, ?_⟩
          have e97 : A_.tmps[97]?.getD undef = .bool false := getD_of (hI.val_ (i := 11) rfl rfl (by decide) (hdep ⟨11, .data⟩ (by simp) rfl))
          have e108 : A_.tmps[108]?.getD undef = .bool false := getD_of (hI.val_ (i := 22) rfl rfl (by decide) (hdep ⟨22, .data⟩ (by simp) rfl))
          clear hI hdep
          exact .run rfl (.bool false) w3 (by simp [execOp, go_sem, Act.eval, e97, e108]) (Below.refl _ _) rfl
      case fin =>
      intro A_ w3 hs hd hlow hS_ hok
      obtain ⟨y89, hy89, _⟩ := hok 3 89 _ (by decide) rfl rfl
      obtain ⟨y90, hy90, _⟩ := hok 4 90 _ (by decide) rfl rfl
      obtain ⟨y91, hy91, _⟩ := hok 5 91 _ (by decide) rfl rfl
      obtain ⟨y92, hy92, _⟩ := hok 6 92 _ (by decide) rfl rfl
      obtain ⟨y93, hy93, _⟩ := hok 7 93 _ (by decide) rfl rfl
      obtain ⟨y94, hy94, _⟩ := hok 8 94 _ (by decide) rfl rfl
      obtain ⟨y95, hy95, _⟩ := hok 9 95 _ (by decide) rfl rfl
      obtain ⟨y101, hy101, _⟩ := hok 15 101 _ (by decide) rfl rfl
      obtain ⟨y102, hy102, _⟩ := hok 16 102 _ (by decide) rfl rfl
      obtain ⟨y103, hy103, _⟩ := hok 17 103 _ (by decide) rfl rfl
      obtain ⟨y104, hy104, _⟩ := hok 18 104 _ (by decide) rfl rfl
      obtain ⟨y105, hy105, _⟩ := hok 19 105 _ (by decide) rfl rfl
      obtain ⟨y106, hy106, _⟩ := hok 20 106 _ (by decide) rfl rfl
      obtain ⟨y107, hy107, _⟩ := hok 21 107 _ (by decide) rfl rfl
      obtain rfl : A_ = ⟨#[.string raw, .int .i64 n, .int .i64 m, .int .i64 at_, .int .i64 how, .int .u8 c, undef, undef, undef, undef, undef, undef, u12, .string S1, .string S2, .slice (some ⟨w6.heap.size, 0, none⟩) 3 3, .int .i64 (k : Int), .pointer (some ⟨wA.heap.size, 0, none⟩), .int .i64 F, .pointer (some ⟨wB.heap.size, 0, none⟩), .int .i64 F', .int .i64 n, .int .i64 m, E1, .string S1, .int .i64 n, .int .i64 m, Q1, .string S2, .string raw, .string S0, .string S1, .int .i64 at_, .int .i64 how, .int .u8 c, .string T1, .string S2, .int .i64 at_, .int .i64 how, .int .u8 c, .string T2, .slice (some ⟨w6.heap.size, 0, none⟩) 3 3, .int .i64 (k : Int), .bool true, u44, u45, Value.tuple #[evV { k := xk, n := xn, a := xa, m := { c := xc, h := xh, t := xt, i := xi, p := xp } }, .int .i64 F], .slice (some ⟨w6.heap.size, 0, none⟩) 3 3, .int .i64 (k : Int), .pointer (some { block := w6.heap.size, off := k }), .string S, Value.tuple #[evV { k := xk, n := xn, a := xa, m := { c := xc, h := xh, t := xt, i := xi, p := xp } }, .int .i64 F], evV { k := xk, n := xn, a := xa, m := { c := xc, h := xh, t := xt, i := xi, p := xp } }, .int .i64 F, Value.tuple #[quV { c := yc, h := yh, t := yt, k := yk, i := yi }, .int .i64 F'], .slice (some ⟨w6.heap.size, 0, none⟩) 3 3, .int .i64 (k : Int), .pointer (some { block := w6.heap.size, off := k }), .string S, Value.tuple #[quV { c := yc, h := yh, t := yt, k := yk, i := yi }, .int .i64 F'], quV { c := yc, h := yh, t := yt, k := yk, i := yi }, .int .i64 F', .int .i64 F, .bool b, .bool b, y65, y66, y67, y68, y69, y70, y71, .bool false, .bool false, .int .i64 F, .bool !b, .bool !b, y77, y78, y79, y80, y81, y82, y83, .bool false, .bool false, .int .i64 F', .bool b', .bool b', y89, y90, y91, y92, y93, y94, y95, .bool false, .bool false, .int .i64 F', .bool (!b'), .bool (!b'), y101, y102, y103, y104, y105, y106, y107, .bool false, .bool false, undef], []⟩ := act_ext hd hs (fun j hj => match j, hj with | 0, _ => (hlow 0 (by decide)).trans rfl | 1, _ => (hlow 1 (by decide)).trans rfl | 2, _ => (hlow 2 (by decide)).trans rfl | 3, _ => (hlow 3 (by decide)).trans rfl | 4, _ => (hlow 4 (by decide)).trans rfl | 5, _ => (hlow 5 (by decide)).trans rfl | 6, _ => (hlow 6 (by decide)).trans rfl | 7, _ => (hlow 7 (by decide)).trans rfl | 8, _ => (hlow 8 (by decide)).trans rfl | 9, _ => (hlow 9 (by decide)).trans rfl | 10, _ => (hlow 10 (by decide)).trans rfl | 11, _ => (hlow 11 (by decide)).trans rfl | 12, _ => (hlow 12 (by decide)).trans rfl | 13, _ => (hlow 13 (by decide)).trans rfl | 14, _ => (hlow 14 (by decide)).trans rfl | 15, _ => (hlow 15 (by decide)).trans rfl | 16, _ => (hlow 16 (by decide)).trans rfl | 17, _ => (hlow 17 (by decide)).trans rfl | 18, _ => (hlow 18 (by decide)).trans rfl | 19, _ => (hlow 19 (by decide)).trans rfl | 20, _ => (hlow 20 (by decide)).trans rfl | 21, _ => (hlow 21 (by decide)).trans rfl | 22, _ => (hlow 22 (by decide)).trans rfl | 23, _ => (hlow 23 (by decide)).trans rfl | 24, _ => (hlow 24 (by decide)).trans rfl | 25, _ => (hlow 25 (by decide)).trans rfl | 26, _ => (hlow 26 (by decide)).trans rfl | 27, _ => (hlow 27 (by decide)).trans rfl | 28, _ => (hlow 28 (by decide)).trans rfl | 29, _ => (hlow 29 (by decide)).trans rfl | 30, _ => (hlow 30 (by decide)).trans rfl | 31, _ => (hlow 31 (by decide)).trans rfl | 32, _ => (hlow 32 (by decide)).trans rfl | 33, _ => (hlow 33 (by decide)).trans rfl | 34, _ => (hlow 34 (by decide)).trans rfl | 35, _ => (hlow 35 (by decide)).trans rfl | 36, _ => (hlow 36 (by decide)).trans rfl | 37, _ => (hlow 37 (by decide)).trans rfl | 38, _ => (hlow 38 (by decide)).trans rfl | 39, _ => (hlow 39 (by decide)).trans rfl | 40, _ => (hlow 40 (by decide)).trans rfl | 41, _ => (hlow 41 (by decide)).trans rfl | 42, _ => (hlow 42 (by decide)).trans rfl | 43, _ => (hlow 43 (by decide)).trans rfl | 44, _ => (hlow 44 (by decide)).trans rfl | 45, _ => (hlow 45 (by decide)).trans rfl | 46, _ => (hlow 46 (by decide)).trans rfl | 47, _ => (hlow 47 (by decide)).trans rfl | 48, _ => (hlow 48 (by decide)).trans rfl | 49, _ => (hlow 49 (by decide)).trans rfl | 50, _ => (hlow 50 (by decide)).trans rfl | 51, _ => (hlow 51 (by decide)).trans rfl | 52, _ => (hlow 52 (by decide)).trans rfl | 53, _ => (hlow 53 (by decide)).trans rfl | 54, _ => (hlow 54 (by decide)).trans rfl | 55, _ => (hlow 55 (by decide)).trans rfl | 56, _ => (hlow 56 (by decide)).trans rfl | 57, _ => (hlow 57 (by decide)).trans rfl | 58, _ => (hlow 58 (by decide)).trans rfl | 59, _ => (hlow 59 (by decide)).trans rfl | 60, _ => (hlow 60 (by decide)).trans rfl | 61, _ => (hlow 61 (by decide)).trans rfl | 62, _ => (hlow 62 (by decide)).trans rfl | 63, _ => (hlow 63 (by decide)).trans rfl | 64, _ => (hlow 64 (by decide)).trans rfl | 65, _ => (hlow 65 (by decide)).trans rfl | 66, _ => (hlow 66 (by decide)).trans rfl | 67, _ => (hlow 67 (by decide)).trans rfl | 68, _ => (hlow 68 (by decide)).trans rfl | 69, _ => (hlow 69 (by decide)).trans rfl | 70, _ => (hlow 70 (by decide)).trans rfl | 71, _ => (hlow 71 (by decide)).trans rfl | 72, _ => (hlow 72 (by decide)).trans rfl | 73, _ => (hlow 73 (by decide)).trans rfl | 74, _ => (hlow 74 (by decide)).trans rfl | 75, _ => (hlow 75 (by decide)).trans rfl | 76, _ => (hlow 76 (by decide)).trans rfl | 77, _ => (hlow 77 (by decide)).trans rfl | 78, _ => (hlow 78 (by decide)).trans rfl | 79, _ => (hlow 79 (by decide)).trans rfl | 80, _ => (hlow 80 (by decide)).trans rfl | 81, _ => (hlow 81 (by decide)).trans rfl | 82, _ => (hlow 82 (by decide)).trans rfl | 83, _ => (hlow 83 (by decide)).trans rfl | 84, _ => (hlow 84 (by decide)).trans rfl | 85, _ => (hlow 85 (by decide)).trans rfl | 86, _ => RgX.val_at (hok 0 86 _ (by decide) rfl rfl) | 87, _ => RgX.val_at (hok 1 87 _ (by decide) rfl rfl) | 88, _ => RgX.val_at (hok 2 88 _ (by decide) rfl rfl) | 89, _ => hy89 | 90, _ => hy90 | 91, _ => hy91 | 92, _ => hy92 | 93, _ => hy93 | 94, _ => hy94 | 95, _ => hy95 | 96, _ => RgX.val_at (hok 10 96 _ (by decide) rfl rfl) | 97, _ => RgX.val_at (hok 11 97 _ (by decide) rfl rfl) | 98, _ => RgX.val_at (hok 12 98 _ (by decide) rfl rfl) | 99, _ => RgX.val_at (hok 13 99 _ (by decide) rfl rfl) | 100, _ => RgX.val_at (hok 14 100 _ (by decide) rfl rfl) | 101, _ => hy101 | 102, _ => hy102 | 103, _ => hy103 | 104, _ => hy104 | 105, _ => hy105 | 106, _ => hy106 | 107, _ => hy107 | 108, _ => RgX.val_at (hok 22 108 _ (by decide) rfl rfl) | 109, _ => RgX.val_at (hok 23 109 _ (by decide) rfl rfl) | 110, _ => (hlow 110 (by decide)).trans rfl | n + 111, h => absurd h (by show ¬ n + 111 < 111; omega))
      clear hs hd hlow hok hy89 hy90 hy91 hy92 hy93 hy94 hy95 hy101 hy102 hy103 hy104 hy105 hy106 hy107
      clear f0 f1 f8
      have BV := Lib.hid (show Below U.heap.size U w3 from HV.out.trans ((BU3.out.trans (hS_.mono BU3.out.size)).mono hUr))
      clear hS_
      go_wp2_with fail
      go_roundw
      case rel => exact ⟨k + 1, by omega, by go_num, BV⟩
      case measure => simp [intOf]; omega
    · have d3 : decide ((k : Int) < 3) = false := by simp; omega
      have BW := Lib.hid (BU.out.trans (HV.out.mono hwU))
      go_wp2_with fail
      refine (HL.out _ BW.out).mono ?_
      rintro e w8 ⟨rfl, hb8⟩
      have B8 := Lib.hid (BW.out.trans (hb8.mono BW.out.size))
      clear hb8
      go_wp2_with fail
      go_ret
      exact ⟨rfl, B8.out⟩
end Go.Proofs.YtggallpnbbidfaaGreatDoor.LawNamesParse
