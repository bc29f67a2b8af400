/-
  The program's Without. Conditions: the lengths; the numbers are Go's.
-/
import Derived.Test.YtiokiecnglmbnaaK43
import Derived.Test.YtiokiecnglmbnaaK21
import Derived.Test.YtiokiecnglmbnaaK3
import Derived.Test.YtiokiecnglmbnaaK31
import Derived.Deep.Cut
import Derived.Deep.CutBlock

namespace Go.Proofs.Ytiokiecnglmbnaa
open Go Go.RowKit Go.Proofs
attribute [local go_sem] Oper.semAt_some

theorem take_nextW {l : List Int} {k : Nat} (h : k < l.length) : l.take (k + 1) = l.take k ++ [l[k]?.getD 0] := by
  rw [List.take_add_one, List.getElem?_eq_getElem h]
  simp
theorem withoutE_good {E A : Option Addr} {ce na ca lo : Nat} {es : List NM.Ev} {l : List TP.An} (b m : Nat) (o : List Int) (w : World) (ht : TapeIs lo w E es.length ce A na ca es l) (hs : SetI w b m o) {L : Nat} (hl : L ≤ w.heap.size) (bn : es.length ≤ 1000000) :
    Calls Try.prog 52 #[.slice E es.length ce, .int .i64 0, .map (some b)] w fun e w' => (∃ v, e = .returned v ∧ (RgX.Sp.own L 47 8 (TP.sub o 0 es).length (evsC (TP.sub o 0 es))).p w' v) ∧ Below w.heap.size w w' :=
  (withoutE_any (ce := ce) 0 b m o w (evs_of_own ht.2.1 rfl) hs bn (by omega)).mono fun _ _ ⟨⟨A', n', c', h1, h2, h3⟩, h4⟩ => by
    subst h2
    exact ⟨⟨_, h1, A', c', rfl, own_baseT h3 hl⟩, h4⟩
theorem withoutA_good {E A : Option Addr} {ne ce ca lo : Nat} {es : List NM.Ev} {l : List TP.An} (f b m : Nat) (o : List Int) (w : World) (ht : TapeIs lo w E ne ce A l.length ca es l) (hs : SetI w b m o) {L : Nat} (hl : L ≤ w.heap.size) (bn : l.length ≤ 1000000) (hf : f ≤ 1000000) :
    Calls Try.prog 53 #[.slice A l.length ca, .int .i64 (f : Int), .map (some b)] w fun e w' => (∃ v, e = .returned v ∧ (RgX.Sp.own L 71 6 (TP.sub o f l).length (TP.ansC (TP.sub o f l))).p w' v) ∧ Below w.heap.size w w' :=
  (withoutA_any (ce := ca) f b m o w (ans_of_own ht.2.2 rfl).1 hs bn hf).mono fun _ _ ⟨⟨A', n', c', h1, h2, h3⟩, h4⟩ => by
    subst h2
    exact ⟨⟨_, h1, A', c', rfl, own_baseT h3 hl⟩, h4⟩
set_option maxHeartbeats 8000000 in
set_option maxRecDepth 100000 in
theorem without_any {E A a2 : Option Addr} {ne ce na ca len2 cap2 : Nat} {es : List NM.Ev} {l : List TP.An} {y2 : List Int} (w : World) (h : TIn w E ne ce A na es l) (h2 : Ints .i64 w.heap.size w a2 len2 y2) (hi2 : ∀ x ∈ y2, I64 x) (bl : len2 ≤ 1000) :
    Calls Try.prog 30 #[.agg #[.slice E ne ce, .slice A na ca], .slice a2 len2 cap2] w fun e w' => (∃ v, e = .returned v ∧ TapeN w.heap.size w' v (TP.sub y2 0 es) (TP.sub y2 es.length (TP.normA l))) ∧ Below w.heap.size w w' := by
  obtain ⟨U, hU, hb, k1, k2, hlt⟩ := two_boxes w (.cells #[.slice E ne ce, .slice A na ca] 26) (.cells #[.slice none 0 0, .slice none 0 0] 26)
  have hsU : U.heap.size = w.heap.size + 1 + 1 := by rw [← hU]; simp
  have hel := h.ev.1
  have hbe := h.be
  have hnl : (TP.normA l).length ≤ na := by rw [← h.an.1]; exact TP.norm_len l
  have hba := h.ba0
  have HI := Lib.hid (h.keep hb)
  have HR := Lib.hid k2
  have HB := Lib.hid hb
  have HP := Lib.hid (And.intro h2 hi2)
  obtain ⟨⟨b0, b1⟩, _, _⟩ := row2 k1
  clear k1 k2 hb h h2 hi2
  go_enter Try.func30, Try.ntmps30
  go_upto_region 2 with (go_at_call 17; refine (normal_any _ HI.out).mono ?_; rintro e w1 ⟨⟨v, rfl, E1, ne1, ce1, A1, na1, ca1, rfl, ht⟩, hb1⟩; have HT1 := Lib.hid (show TapeIs U.heap.size w1 E1 ne1 ce1 A1 na1 ca1 es (TP.normA l) from ht); have HB1 := Lib.hid hb1; clear ht hb1)
  clear hU b0 b1
  obtain ⟨g5, hg5⟩ : ∃ g, g = w1.heap.size := ⟨_, rfl⟩
  obtain ⟨U1, hU1⟩ : ∃ U, w1.alloc (.cells #[.slice E1 ne1 ce1, .slice A1 na1 ca1] 26) = U := ⟨_, rfl⟩
  have hb2 : Below w1.heap.size w1 U1 := hU1 ▸ one_box w1 _
  have k5 : U1.heap[g5]? = some (.cells #[.slice E1 ne1 ce1, .slice A1 na1 ca1] 26 (0, 0)) := by rw [hg5, ← hU1]; exact new_at rfl
  have hs1 : U1.heap.size = w1.heap.size + 1 := by rw [← hU1]; simp
  have hBU : Below U.heap.size U U1 := HB1.out.trans (hb2.mono HB1.out.size)
  have HBW := Lib.hid (HB.out.trans (hBU.mono HB.out.size))
  have hUU := hBU.size
  have HT2 := Lib.hid (HT1.out.keep hb2)
  have hres : U1.heap[w.heap.size + 1]? = _ := (hBU.block _ hlt).trans HR.out
  have HR2 := Lib.hid hres
  have HK5 := Lib.hid k5
  try rw [hU1]
  try rw [← hg5]
  have hzU := HBW.out.size
  have hmm := @run_makeMap Try.prog
  clear hb2 k5 hBU hres HT1 HB1 HI HB HR
  go_upto_region 3 with (fail)
  obtain ⟨gm, hgm⟩ : ∃ g, g = w1.heap.size + 1 := ⟨_, rfl⟩
  obtain ⟨U2, hU2⟩ : ∃ U, U1.alloc (.map #[] 0) = U := ⟨_, rfl⟩
  have hb3 : Below U1.heap.size U1 U2 := hU2 ▸ one_box U1 _
  have H0 := Lib.hid (show SetI U2 gm 0 (y2.take 0) ∧ Below U1.heap.size U1 U2 from ⟨by rw [hgm, ← hs1, ← hU2]; exact SetI.made U1, hb3⟩)
  try rw [hU2]
  try rw [← hgm]
  have hgm1 : g5 < gm := by omega
  have hgm2 : U1.heap.size ≤ gm := by omega
  have hgm3 : g5 < U1.heap.size := by omega
  clear hb3 hU2 hmm hU1 hg5 hgm hs1
  go_upto_block 0 with (fail)
  go_cut [] from 14 (fun V => Hid (SetI V gm len2 y2 ∧ Below U1.heap.size U1 V))
  case first =>
    go_wp2_with fail
    go_loopw [8, 14] (fun _ i V => ∃ k : Nat, k ≤ len2 ∧ i = .int .i64 (k : Int) ∧ Hid (SetI V gm k (y2.take k) ∧ Below U1.heap.size U1 V)) (fun _ i _ => len2 - (intOf i).toNat)
    case atStart => exact ⟨0, by omega, rfl, H0.out⟩
    case round =>
      obtain ⟨k, hk, rfl, HV⟩ := hrel
      by_cases hin : k < len2
      · have dk : decide (k < len2) = true := decide_eq_true hin
        have dk2 : decide ((k : Int) < (len2 : Int)) = true := decide_eq_true (by omega)
        obtain ⟨b, off, rfl, hbl, hc⟩ := HP.out.1.at_ (by omega)
        have c0 := (HV.out.2.cell (p := ⟨b, off + k, none⟩) (by show b < U1.heap.size; omega)).trans ((HBW.out.cell (p := ⟨b, off + k, none⟩) hbl).trans (hc k hin))
        have hx64 := HP.out.2 _ (getD_mem (l := y2) (j := k) (by have := HP.out.1.len; omega))
        obtain ⟨x, hx⟩ : ∃ x, y2[k]?.getD 0 = x := ⟨_, rfl⟩
        have HX := Lib.hid (take_nextW (l := y2) (k := k) (by have := HP.out.1.len; omega))
        rw [hx] at c0 hx64 HX
        clear hc hx
        go_wp2_with (first | (at_mapUpdate; refine wpList_update_i rfl _ _ _ rfl rfl HV.out.1 x hx64 (by omega) rfl rfl ?_; intro w4 hm4 hg4; rw [← HX.out] at hm4; have hv4 : Below U1.heap.size U1 w4 := HV.out.2.grown hg4 HV.out.2.size (fun b e => by injection e with e; omega); have HV4 := Lib.hid (And.intro hm4 hv4); clear hm4 hg4 hv4) | fail)
        go_roundw
        case rel => exact ⟨k + 1, by omega, by go_num, HV4⟩
        case measure => simp [intOf]; omega
      · have dk : decide (k < len2) = false := decide_eq_false hin
        have dk2 : decide ((k : Int) < (len2 : Int)) = false := decide_eq_false (by omega)
        obtain rfl : k = len2 := by omega
        have HT := Lib.hid (show y2.take k = y2 from List.take_of_length_le (by rw [HP.out.1.len]; exact Nat.le_refl _))
        rw [HT.out] at HV
        go_wp2_with fail
        go_meet
        case rel => exact HV.out
  case rest =>
  have HV := hcut
  clear hcut H0
  obtain rfl : ne1 = es.length := HT2.out.1.1.symm
  obtain rfl : na1 = (TP.normA l).length := HT2.out.1.2.symm
  have HK := Lib.hid (fun (V : World) (hV : Below wc.heap.size wc V) => And.intro ((row2 ((hV.block g5 (by have := HV.out.2.size; omega)).trans ((HV.out.2.block g5 (by omega)).trans HK5.out))).1) (And.intro ((HT2.out.keep HV.out.2).keep hV) (HV.out.1.keep hV)))
  have hszV := HV.out.2.size
  go_upto_region 8 with (fail)
  refine RgX.tail 12 (fun i => ( 21 + i)) (fun ix_ => match ix_ with | 0 => .v (.pointer (some ⟨g5, 0, none⟩)) | 1 => .v (.slice E1 es.length ce1) | 2 => .v (Value.map (some gm)) | 3 => .own wc.heap.size 47 8 (TP.sub y2 0 es).length (evsC (TP.sub y2 0 es)) | 4 => .v (.pointer (some ⟨g5, 1, none⟩)) | 5 => .v (.slice A1 (TP.normA l).length ca1) | 6 => .v (.pointer (some ⟨g5, 0, none⟩)) | 7 => .v (.slice E1 es.length ce1) | 8 => .v (.int .i64 (es.length : Int)) | 9 => .v (Value.map (some gm)) | 10 => .own wc.heap.size 71 6 (TP.sub y2 es.length (TP.normA l)).length (TP.ansC (TP.sub y2 es.length (TP.normA l))) | 11 => .tape wc.heap.size (TP.sub y2 0 es) (TP.sub y2 es.length (TP.normA l)) (TP.sub y2 0 es).length (TP.sub y2 es.length (TP.normA l)).length | _ => .any) _ (by kernel_rfl) rfl rfl (by kernel_rfl) (by kernel_rfl) (fun i hi => by show ( 21 + i) < 33; (repeat' split) <;> omega) (fun i j hi hj => by show ( 21 + i) = ( 21 + j) → i = j; (repeat' split) <;> omega) ?step ?fin
  case step =>
    intro L_ A_ w3 ix op_ hi hI ho hdep
    have hcase : ix = 0 ∨ ix = 1 ∨ ix = 2 ∨ ix = 3 ∨ ix = 4 ∨ ix = 5 ∨ ix = 6 ∨ ix = 7 ∨ ix = 8 ∨ ix = 9 ∨ ix = 10 ∨ ix = 11 := by omega
    have hh := hI.held
    clear hi
    rcases hcase with rfl | rfl | rfl | rfl | rfl | rfl | rfl | rfl | rfl | rfl | rfl | rfl
    · simp only [List.getElem?_toArray, List.getElem?_cons_zero, Option.some.injEq] at ho
      subst ho
      refine ⟨rfl, ?_⟩
      have e5 : A_.tmps[5]?.getD undef = .pointer (some ⟨g5, 0, none⟩) := by rw [hI.low 5 (by decide)]; rfl
      clear hI hdep
      exact .run rfl (.pointer (some ⟨g5, 0, none⟩)) w3 (by simp [execOp, go_sem, Act.eval, e5]) (Below.refl _ _) rfl
    · simp only [List.getElem?_toArray, List.getElem?_cons_succ, List.getElem?_cons_zero, Option.some.injEq] at ho
      subst ho
      refine ⟨rfl, ?_⟩
      have e21 : A_.tmps[21]?.getD undef = .pointer (some ⟨g5, 0, none⟩) := getD_of (hI.val_ (i := 0) rfl rfl (by decide) (hdep ⟨0, .data⟩ (by simp) rfl))
      clear hI hdep
      obtain ⟨⟨x0, x1⟩, ht, hs⟩ := HK.out w3 hh
      exact .run rfl (.slice E1 es.length ce1) w3 (by simp [execOp, go_sem, Act.eval, *]) (Below.refl _ _) rfl
    · simp only [List.getElem?_toArray, List.getElem?_cons_succ, List.getElem?_cons_zero, Option.some.injEq] at ho
      subst ho
      refine ⟨rfl, ?_⟩
      have e6 : A_.tmps[6]?.getD undef = Value.map (some gm) := by rw [hI.low 6 (by decide)]; rfl
      clear hI hdep
      exact .run rfl (Value.map (some gm)) w3 (by simp [execOp, go_sem, Act.eval, e6]) (Below.refl _ _) rfl
    · simp only [List.getElem?_toArray, List.getElem?_cons_succ, List.getElem?_cons_zero, Option.some.injEq] at ho
      subst ho
      refine ⟨rfl, ?_⟩
      have e22 : A_.tmps[22]?.getD undef = .slice E1 es.length ce1 := getD_of (hI.val_ (i := 1) rfl rfl (by decide) (hdep ⟨1, .data⟩ (by simp) rfl))
      have e23 : A_.tmps[23]?.getD undef = Value.map (some gm) := getD_of (hI.val_ (i := 2) rfl rfl (by decide) (hdep ⟨2, .data⟩ (by simp) rfl))
      clear hI hdep
      exact .call rfl 52 #[.slice E1 es.length ce1, .int .i64 0, Value.map (some gm)] (by simp [go_sem, Act.eval, e22, e23]) (withoutE_good gm len2 y2 w3 (HK.out w3 hh).2.1 (HK.out w3 hh).2.2 hh.size (by omega))
    · simp only [List.getElem?_toArray, List.getElem?_cons_succ, List.getElem?_cons_zero, Option.some.injEq] at ho
      subst ho
      refine ⟨rfl, ?_⟩
      have e5 : A_.tmps[5]?.getD undef = .pointer (some ⟨g5, 0, none⟩) := by rw [hI.low 5 (by decide)]; rfl
      clear hI hdep
      exact .run rfl (.pointer (some ⟨g5, 1, none⟩)) w3 (by simp [execOp, go_sem, Act.eval, e5]) (Below.refl _ _) rfl
    · simp only [List.getElem?_toArray, List.getElem?_cons_succ, List.getElem?_cons_zero, Option.some.injEq] at ho
      subst ho
      refine ⟨rfl, ?_⟩
      have e25 : A_.tmps[25]?.getD undef = .pointer (some ⟨g5, 1, none⟩) := getD_of (hI.val_ (i := 4) rfl rfl (by decide) (hdep ⟨4, .data⟩ (by simp) rfl))
      clear hI hdep
      obtain ⟨⟨x0, x1⟩, ht, hs⟩ := HK.out w3 hh
      exact .run rfl (.slice A1 (TP.normA l).length ca1) w3 (by simp [execOp, go_sem, Act.eval, *]) (Below.refl _ _) rfl
    · simp only [List.getElem?_toArray, List.getElem?_cons_succ, List.getElem?_cons_zero, Option.some.injEq] at ho
      subst ho
      refine ⟨rfl, ?_⟩
      have e5 : A_.tmps[5]?.getD undef = .pointer (some ⟨g5, 0, none⟩) := by rw [hI.low 5 (by decide)]; rfl
      clear hI hdep
      exact .run rfl (.pointer (some ⟨g5, 0, none⟩)) w3 (by simp [execOp, go_sem, Act.eval, e5]) (Below.refl _ _) rfl
    · simp only [List.getElem?_toArray, List.getElem?_cons_succ, List.getElem?_cons_zero, Option.some.injEq] at ho
      subst ho
      refine ⟨rfl, ?_⟩
      have e27 : A_.tmps[27]?.getD undef = .pointer (some ⟨g5, 0, none⟩) := getD_of (hI.val_ (i := 6) rfl rfl (by decide) (hdep ⟨6, .data⟩ (by simp) rfl))
      clear hI hdep
      obtain ⟨⟨x0, x1⟩, ht, hs⟩ := HK.out w3 hh
      exact .run rfl (.slice E1 es.length ce1) w3 (by simp [execOp, go_sem, Act.eval, *]) (Below.refl _ _) rfl
    · simp only [List.getElem?_toArray, List.getElem?_cons_succ, List.getElem?_cons_zero, Option.some.injEq] at ho
      subst ho
      refine ⟨rfl, ?_⟩
      have e28 : A_.tmps[28]?.getD undef = .slice E1 es.length ce1 := getD_of (hI.val_ (i := 7) rfl rfl (by decide) (hdep ⟨7, .data⟩ (by simp) rfl))
      clear hI hdep
      exact .run rfl (.int .i64 (es.length : Int)) w3 (by simp [go_sem, Act.eval, e28]) (Below.refl _ _) rfl
    · simp only [List.getElem?_toArray, List.getElem?_cons_succ, List.getElem?_cons_zero, Option.some.injEq] at ho
      subst ho
      refine ⟨rfl, ?_⟩
      have e6 : A_.tmps[6]?.getD undef = Value.map (some gm) := by rw [hI.low 6 (by decide)]; rfl
      clear hI hdep
      exact .run rfl (Value.map (some gm)) w3 (by simp [execOp, go_sem, Act.eval, e6]) (Below.refl _ _) rfl
    · simp only [List.getElem?_toArray, List.getElem?_cons_succ, List.getElem?_cons_zero, Option.some.injEq] at ho
      subst ho
      refine ⟨rfl, ?_⟩
      have e26 : A_.tmps[26]?.getD undef = .slice A1 (TP.normA l).length ca1 := getD_of (hI.val_ (i := 5) rfl rfl (by decide) (hdep ⟨5, .data⟩ (by simp) rfl))
      have e29 : A_.tmps[29]?.getD undef = .int .i64 (es.length : Int) := getD_of (hI.val_ (i := 8) rfl rfl (by decide) (hdep ⟨8, .data⟩ (by simp) rfl))
      have e30 : A_.tmps[30]?.getD undef = Value.map (some gm) := getD_of (hI.val_ (i := 9) rfl rfl (by decide) (hdep ⟨9, .data⟩ (by simp) rfl))
      clear hI hdep
      exact .call rfl 53 #[.slice A1 (TP.normA l).length ca1, .int .i64 (es.length : Int), Value.map (some gm)] (by simp [go_sem, Act.eval, e26, e29, e30]) (withoutA_good es.length gm len2 y2 w3 (HK.out w3 hh).2.1 (HK.out w3 hh).2.2 hh.size (by omega) (by omega))
    · simp only [List.getElem?_toArray, List.getElem?_cons_succ, List.getElem?_cons_zero, Option.some.injEq] at ho
      subst ho
      refine ⟨rfl, ?_⟩
      obtain ⟨_, e24, B24, c24, rfl, h24⟩ := hI.get_ (i := 3) (j := 24) rfl rfl (by decide) (hdep ⟨3, .data⟩ (by simp) rfl)
      obtain ⟨_, e31, B31, c31, rfl, h31⟩ := hI.get_ (i := 10) (j := 31) rfl rfl (by decide) (hdep ⟨10, .data⟩ (by simp) rfl)
      clear hI hdep
      exact .run rfl (.agg #[.slice B24 (TP.sub y2 0 es).length c24, .slice B31 (TP.sub y2 es.length (TP.normA l)).length c31]) w3 (by simp [execOp, go_sem, Act.eval, e24, e31]) (Below.refl _ _) ⟨_, _, _, _, rfl, ⟨rfl, rfl⟩, h24, h31⟩
  case fin =>
  intro A_ w3 hs hd hlow hS hok
  obtain ⟨_, hy24, B24, c24, rfl, h24⟩ := hok 3 24 _ (by decide) rfl rfl
  obtain ⟨_, hy31, B31, c31, rfl, h31⟩ := hok 10 31 _ (by decide) rfl rfl
  obtain ⟨_, hy32, E32, c32, A32, d32, rfl, h32⟩ := hok 11 32 _ (by decide) rfl rfl
  obtain rfl : A_ = ⟨#[.agg #[.slice E ne ce, .slice A na ca], .slice a2 len2 cap2, .pointer (some ⟨w.heap.size, 0, none⟩), undef, .pointer (some ⟨w.heap.size + 1, 0, none⟩), .pointer (some ⟨g5, 0, none⟩), Value.map (some gm), undef, u8, .agg #[.slice E ne ce, .slice A na ca], .agg #[.slice E1 es.length ce1, .slice A1 (TP.normA l).length ca1], Value.map (some gm), .slice a2 len2 cap2, .int .i64 (len2 : Int), u14, u15, u16, u17, u18, u19, u20, .pointer (some ⟨g5, 0, none⟩), .slice E1 es.length ce1, Value.map (some gm), .slice B24 (TP.sub y2 0 es).length c24, .pointer (some ⟨g5, 1, none⟩), .slice A1 (TP.normA l).length ca1, .pointer (some ⟨g5, 0, none⟩), .slice E1 es.length ce1, .int .i64 (es.length : Int), Value.map (some gm), .slice B31 (TP.sub y2 es.length (TP.normA l)).length c31, .agg #[.slice E32 (TP.sub y2 0 es).length c32, .slice A32 (TP.sub y2 es.length (TP.normA l)).length d32]], []⟩ := act_ext hd hs (fun j hj => match j, hj with | 0, _ => (hlow 0 (by decide)).trans rfl | 1, _ => (hlow 1 (by decide)).trans rfl | 2, _ => (hlow 2 (by decide)).trans rfl | 3, _ => (hlow 3 (by decide)).trans rfl | 4, _ => (hlow 4 (by decide)).trans rfl | 5, _ => (hlow 5 (by decide)).trans rfl | 6, _ => (hlow 6 (by decide)).trans rfl | 7, _ => (hlow 7 (by decide)).trans rfl | 8, _ => (hlow 8 (by decide)).trans rfl | 9, _ => (hlow 9 (by decide)).trans rfl | 10, _ => (hlow 10 (by decide)).trans rfl | 11, _ => (hlow 11 (by decide)).trans rfl | 12, _ => (hlow 12 (by decide)).trans rfl | 13, _ => (hlow 13 (by decide)).trans rfl | 14, _ => (hlow 14 (by decide)).trans rfl | 15, _ => (hlow 15 (by decide)).trans rfl | 16, _ => (hlow 16 (by decide)).trans rfl | 17, _ => (hlow 17 (by decide)).trans rfl | 18, _ => (hlow 18 (by decide)).trans rfl | 19, _ => (hlow 19 (by decide)).trans rfl | 20, _ => (hlow 20 (by decide)).trans rfl | 21, _ => RgX.val_at (hok 0 21 _ (by decide) rfl rfl) | 22, _ => RgX.val_at (hok 1 22 _ (by decide) rfl rfl) | 23, _ => RgX.val_at (hok 2 23 _ (by decide) rfl rfl) | 24, _ => hy24 | 25, _ => RgX.val_at (hok 4 25 _ (by decide) rfl rfl) | 26, _ => RgX.val_at (hok 5 26 _ (by decide) rfl rfl) | 27, _ => RgX.val_at (hok 6 27 _ (by decide) rfl rfl) | 28, _ => RgX.val_at (hok 7 28 _ (by decide) rfl rfl) | 29, _ => RgX.val_at (hok 8 29 _ (by decide) rfl rfl) | 30, _ => RgX.val_at (hok 9 30 _ (by decide) rfl rfl) | 31, _ => hy31 | 32, _ => hy32 | n + 33, h => absurd h (by show ¬ n + 33 < 33; omega))
  clear hs hd hlow hok hy24 hy31 hy32
  have hs3 := hS.size
  have hres : w3.heap[w.heap.size + 1]? = _ := (hS.block _ (by omega)).trans ((HV.out.2.block _ (by omega)).trans HR2.out)
  have HT := Lib.hid h32
  have HS3 := Lib.hid hS
  clear h32 h24 h31 hS
  go_wp2_with (refine RgX.wpList_store_seg rfl 26 _ _ rfl (w.heap.size + 1) 0 (.agg #[.slice E32 (TP.sub y2 0 es).length c32, .slice A32 (TP.sub y2 es.length (TP.normA l)).length d32]) rfl rfl 26 _ hres (by rw [size_tape]; rfl) (by show 0 + 2 ≤ 2; omega) (by simp [Value.cells, Value.oneCell']) #[.slice E32 (TP.sub y2 0 es).length c32, .slice A32 (TP.sub y2 es.length (TP.normA l)).length d32] rfl ?_; intro W4 k4 ho4 hz4 hb4)
  obtain ⟨⟨r0, r1⟩, _, _⟩ := row2 k4
  have hgr : w3.grownBy W4 (some (w.heap.size + 1)) := ⟨hb4.os, hb4.tape, hb4.output, by omega, fun b _ hne => ho4 b (fun e => hne (by rw [e]))⟩
  have hT4 := (TapeIs.grown HT.out hgr hres (by decide) (by decide)).low (show w.heap.size ≤ wc.heap.size by omega)
  refine bodyPost_ret (v := .agg #[.slice E32 (TP.sub y2 0 es).length c32, .slice A32 (TP.sub y2 es.length (TP.normA l)).length d32]) (by simp [results, Try.results30, go_sem, r0, r1]) rfl ?_
  exact ⟨⟨_, rfl, E32, _, c32, A32, _, d32, rfl, hT4⟩, HBW.out.trans ((HV.out.2.mono hzU).trans ((HS3.out.mono (by omega)).trans (hb4.mono (Nat.le_succ _))))⟩
end Go.Proofs.Ytiokiecnglmbnaa
