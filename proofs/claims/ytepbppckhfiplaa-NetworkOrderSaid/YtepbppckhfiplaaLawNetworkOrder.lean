/-
  The walk of the law NetworkOrder.
-/
import Derived.Test.YtepbppckhfiplaaNwLv
import Derived.Test.YtepbppckhfiplaaNwS
import Derived.Test.YtepbppckhfiplaaNwO
import Derived.Test.YtepbppckhfiplaaRgY
import Derived.Test.YtepbppckhfiplaaRgZ
import Derived.Deep.Cut
namespace Go.Proofs.Ytepbppckhfiplaa.LawNetworkOrder
open Go Go.RowKit Go.Proofs Go.Proofs.Ytepbppckhfiplaa
attribute [local go_sem] Oper.semAt_some

/-- The length of a slice's value. -/
def lenOf : Value → Nat
  | .slice _ n _ => n
  | _ => 0
set_option maxHeartbeats 4000000 in
set_option maxRecDepth 100000 in
theorem walk (a0 : Option Addr) (len0 cap0 : Nat) (z0 : List Int) (a1 : Option Addr) (len1 cap1 : Nat) (z1 : List Int) (w : World) (w0 : Row .i64 w a0 len0 cap0 z0) (w1 : Row .i64 w a1 len1 cap1 z1) :
    Calls Try.prog 4 #[.slice a0 len0 cap0, .slice a1 len1 cap1] w fun e w' => e = .returned (.bool true) ∧ Below w.heap.size w w' := by
  have HS := Lib.hid (set_any (c := cap0) w w0.ints.1 (i64_of w0.ints.2.2.2))
  have HO := Lib.hid (NW.setL_srt (z0.take len0))
  have HL := Lib.hid (NW.setL_len (z0.take len0))
  have HTO := Lib.hid (fun x (hx : x ∈ NW.setL (z0.take len0)) => NW.setL_to hx)
  obtain ⟨s, hs⟩ : ∃ s, NW.setL (z0.take len0) = s := ⟨_, rfl⟩
  rw [hs] at HS HO HL HTO
  have hlen := HL.out
  obtain ⟨i0, hi0, hz0, hs0, hb0⟩ := info_split4 info_en
  have HP := Lib.hid w1.ints.1
  have HPZ := Lib.hid (i64_of w1.ints.2.2.2)
  obtain ⟨zs, hzs⟩ : ∃ l, z1.take len1 = l := ⟨_, rfl⟩
  rw [hzs] at HP HPZ
  clear w0 w1 hs HL HTO hzs
  go_enter Try.func4, Try.ntmps4
  go_upto_region 2 with ((go_at_call 9; (with_reducible refine HS.out.mono ?_); rintro e v1 ⟨⟨B, r, rfl, hE⟩, hb⟩; have HE := Lib.hid hE; have HB := Lib.hid hb; clear hE hb))
  have s1 := HB.out.size
  go_upto_region 3 with (at_builtin; refine RgX.wpList_append_any rfl _ _ 29 rfl v1.heap.size 28 i0 _ 9 72 Try.underlying29 hi0 hz0 hs0 hb0 rfl (by decide) (.slice (some ⟨v1.heap.size, 0, none⟩) 0 0) 0 [] rfl (World.ownsRow_made v1 #[] 0 (Nat.le_refl _) (by simp [maxLen]) rfl) B s.length r (RS.flat enE s) rfl (RS.flat_len s) ((HE.out.keep (one_box v1 _)).src) (RS.flat_ones _) (by simp only [maxLen]; omega) (by omega) (by simp) ?_; intro B2 c2 v2 own2 gr2)
  rw [Nat.zero_add, List.nil_append] at own2
  have hb : Below v1.heap.size v1 v2 := ((Below.refl _ v1).alloc (Nat.le_refl _) _).grown gr2 (by simp) (fun b e => by have e2 : some v1.heap.size = some b := e; injection e2 with e2; omega)
  have HF := Lib.hid (RS.Sl.of_own own2 rfl)
  replace HE := Lib.hid (HE.out.keep hb)
  replace HB := Lib.hid (HB.out.trans (hb.mono HB.out.size))
  clear hb own2 gr2 s1
  go_upto_region 5 with (fail)
  go_loopw [6, 7, 8, 9, 10, 11] (fun l g i _ _ _ V => ∃ (lf gt : List NW.En) (k : Nat) (A : Option Addr) (c : Nat) (D : Option Addr) (d : Nat), l = .slice A lf.length c ∧ g = .slice D gt.length d ∧ i = .int .i64 (k : Int) ∧ k + lf.length = s.length ∧ Hid (NW.Inv s lf gt) ∧ Hid (Ens V A lf.length c lf) ∧ Hid (Ens V D gt.length d gt) ∧ Hid (Ens V B s.length r s) ∧ Hid (Below w.heap.size w V)) (fun l _ _ _ _ _ _ => lenOf l)
  case atStart => exact ⟨s, [], 0, B2, c2, none, 0, rfl, rfl, rfl, by omega, NW.Inv.start HO.out, HF, RS.Sl.nil _ _, HE, HB⟩
  case round =>
    clear HE HB HS HF
    obtain ⟨lf, gt, k, A, c, D, d, rfl, rfl, rfl, hkl, HI, HF, HG, HE, HB⟩ := hrel
    by_cases hpos : 0 < lf.length
    · have d1 : decide ((lf.length : Int) > 0) = true := decide_eq_true (by omega)
      obtain ⟨g, hg⟩ : ∃ g, A = some ⟨g, 0, none⟩ := by
        obtain ⟨g, e, _⟩ := HF.out.get (j := 0) (List.getElem?_eq_getElem hpos)
        exact ⟨g, e⟩
      subst hg
      have HLC := Lib.hid HF.out.le
      have hlf : lf.length ≤ 12 := by omega
      obtain ⟨n, hn⟩ : ∃ n, lf.length = n := ⟨_, rfl⟩
      rw [hn] at hpos d1 HF HLC hkl hlf ⊢
      have HN := Lib.hid hn
      clear hn
      go_upto_region 8 with (fail)
      by_cases hip : k < len1
      · have d2 : decide (k < len1) = true := decide_eq_true hip
        obtain ⟨z, hz⟩ : ∃ z, zs[k]? = some z := ⟨_, List.getElem?_eq_getElem (by rw [HP.out.len]; exact hip)⟩
        obtain ⟨b1, off1, hA1, hbl1, hcell1⟩ := HP.out.at_ (by omega)
        subst hA1
        have hc := (HB.out.cell (p := ⟨b1, off1 + k, none⟩) hbl1).trans (hcell1 k hip)
        rw [hz] at hc
        simp only [Option.getD_some] at hc
        have HAR := Lib.hid (fun V => around_any z n (HPZ.out z (List.mem_of_getElem? hz)) (by omega) (by omega) V)
        obtain ⟨q, hq, hqn⟩ : ∃ q : Nat, around z n = (q : Int) ∧ q < n := by
          obtain ⟨h1, h2⟩ := around_in z n (by omega)
          exact ⟨(around z n).toNat, by omega, by omega⟩
        rw [hq] at HAR
        clear hz hcell1 hq
        go_upto_region 10 with (go_at_call 18; (with_reducible refine (HAR.out _).mono ?_); rintro e v_ ⟨rfl, rfl⟩)
        clear hc
        obtain ⟨x, hx⟩ : ∃ x, lf[q]? = some x := ⟨_, List.getElem?_eq_getElem (by rw [HN.out]; omega)⟩
        obtain ⟨hnew, hinv⟩ := HI.out.step hx
        obtain ⟨g_, hg_, hgl, p0, p1, p2, p3, p4, p5, p6, p7, p8⟩ := en_at HF.out hx
        obtain rfl : g = g_ := by injection hg_ with hg_; injection hg_
        have HA := Lib.hid (add_any x wr HG.out HI.out.srt (by have := HI.out.len; omega))
        rw [hnew] at HA
        simp only [Bool.false_eq_true, if_false] at HA
        have HPL := Lib.hid (NW.put_len gt x)
        obtain ⟨gt2, hgt2⟩ : ∃ l, NW.put gt x = l := ⟨_, rfl⟩
        rw [hgt2] at HA hinv HPL
        have HIV := Lib.hid hinv
        clear hx hnew hinv hg_ hgt2 hgl
        go_upto_region 11 with ((go_at_call 11; (with_reducible refine (HA.out).mono ?_); rintro e v5 ⟨⟨DB, qg, dg, rfl, h_, _⟩, hb⟩; have HGN := Lib.hid h_; clear h_; replace HE := Lib.hid (HE.out.keep hb); replace HF := Lib.hid (HF.out.keep hb); replace HB := Lib.hid (HB.out.trans (hb.mono HB.out.size)); clear hb))
        clear p0 p1 p2 p3 p4 p5 p6 p7 p8
        obtain rfl : qg = gt2.length := HGN.out.len.symm
        obtain ⟨A8, hA8⟩ : ∃ A, (if c = q + 1 then (some ⟨g, 0, none⟩ : Option Addr) else some ⟨g, (q + 1) * 9, none⟩) = A := ⟨_, rfl⟩
        have HS8 := Lib.hid (fun (V : World) (hV : Below v5.heap.size v5 V) => show RgX.Src V A8 (n - (q + 1)) (c - (q + 1)) (RS.flat enE (lf.drop (q + 1))) from hA8 ▸ (HF.out.keep hV).back_if (q + 1) (by omega))
        have HS7 := Lib.hid (fun (V : World) (hV : Below v5.heap.size v5 V) => (HF.out.keep hV).front q (by omega))
        have hqc : q + 1 ≤ c := by have := HLC.out; omega
        go_upto_region 14 with (fail)
        refine RgX.tail2 10 9 (fun i => ( 46 + i)) (fun ix_ => match ix_ with | 0 => .zrow v5.heap.size 28 | 1 => .v (.slice (some ⟨g, 0, none⟩) n c) | 2 => .v (.int .i64 (q : Int)) | 3 => .v (.slice (some ⟨g, 0, none⟩) q c) | 4 => .own v5.heap.size 28 9 q (RS.flat enE (lf.take q)) | 5 => .v (.slice (some ⟨g, 0, none⟩) n c) | 6 => .v (.int .i64 (q : Int)) | 7 => .v (.int .i64 ((q : Int) + 1)) | 8 => .v (.slice A8 (n - (q + 1)) (c - (q + 1))) | 9 => .any | _ => .any) [] (fun ix_ => match ix_ with  | _ => undef) _ _ (fun v w' => ∃ (B' : Option Addr) (c' : Nat), v = .slice B' (q + (n - (q + 1))) c' ∧ w'.ownsRow v5.heap.size 28 9 (.slice B' (q + (n - (q + 1))) c') (q + (n - (q + 1))) (RS.flat enE (lf.take q) ++ RS.flat enE (lf.drop (q + 1))) ∧ Below v5.heap.size v5 w') (by kernel_rfl) rfl rfl (by decide) rfl (by kernel_rfl) (by kernel_rfl) (by kernel_rfl) (by decide) (fun i hi => by show ( 46 + i) < 81; (repeat' split) <;> omega) (fun i j hi hj => by show ( 46 + i) = ( 46 + j) → i = j; (repeat' split) <;> omega) ?step ?app ?flo ?hF ?fin
        case step =>
          intro L_ A_ w3 ix op_ hi hnA hI ho hdep
          have hcase : ix = 0 ∨ ix = 1 ∨ ix = 2 ∨ ix = 3 ∨ ix = 4 ∨ ix = 5 ∨ ix = 6 ∨ ix = 7 ∨ ix = 8 := by omega
          have hh := hI.held
          clear hi hnA
          rcases hcase with rfl | rfl | rfl | rfl | rfl | rfl | rfl | rfl | rfl
          · simp only [List.getElem?_toArray, List.getElem?_cons_zero, Option.some.injEq] at ho
            subst ho
            refine ⟨rfl, ?_⟩
            clear hI hdep
            exact .run rfl (.slice (some ⟨w3.heap.size, 0, none⟩) 0 0) (w3.alloc (.cells #[] 28)) (by simp [execOp, go_sem, Act.eval]) ((Below.refl _ _).alloc (Nat.le_refl _) _) ⟨_, rfl, heap_alloc_new _ _, hh.size⟩
          · simp only [List.getElem?_toArray, List.getElem?_cons_succ, List.getElem?_cons_zero, Option.some.injEq] at ho
            subst ho
            refine ⟨rfl, ?_⟩
            have e6 : A_.tmps[6]?.getD undef = .slice (some ⟨g, 0, none⟩) n c := by rw [hI.low 6 (by decide)]; rfl
            clear hI hdep
            exact .run rfl (.slice (some ⟨g, 0, none⟩) n c) w3 (by simp [execOp, go_sem, Act.eval, e6]) (Below.refl _ _) rfl
          · simp only [List.getElem?_toArray, List.getElem?_cons_succ, List.getElem?_cons_zero, Option.some.injEq] at ho
            subst ho
            refine ⟨rfl, ?_⟩
            have e9 : A_.tmps[9]?.getD undef = .int .i64 (q : Int) := by rw [hI.low 9 (by decide)]; rfl
            clear hI hdep
            exact .run rfl (.int .i64 (q : Int)) w3 (by simp [execOp, go_sem, Act.eval, e9]) (Below.refl _ _) rfl
          · simp only [List.getElem?_toArray, List.getElem?_cons_succ, List.getElem?_cons_zero, Option.some.injEq] at ho
            subst ho
            refine ⟨rfl, ?_⟩
            have e47 : A_.tmps[47]?.getD undef = .slice (some ⟨g, 0, none⟩) n c := getD_of (hI.val_ (i := 1) rfl rfl (by decide) (hdep ⟨1, .data⟩ (by simp) rfl))
            have e48 : A_.tmps[48]?.getD undef = .int .i64 (q : Int) := getD_of (hI.val_ (i := 2) rfl rfl (by decide) (hdep ⟨2, .data⟩ (by simp) rfl))
            clear hI hdep
            have h8 : (q : Int) ≤ (c : Int) := by omega
            exact .run rfl (.slice (some ⟨g, 0, none⟩) q c) w3 (by simp [execOp, go_sem, Act.eval, e47, e48, h8]) (Below.refl _ _) rfl
          · simp only [List.getElem?_toArray, List.getElem?_cons_succ, List.getElem?_cons_zero, Option.some.injEq] at ho
            subst ho
            refine ⟨rfl, ?_⟩
            obtain ⟨_, e46, g46, rfl, r46, l46⟩ := hI.get_ (i := 0) (j := 46) rfl rfl (by decide) (hdep ⟨0, .data⟩ (by simp) rfl)
            have e49 : A_.tmps[49]?.getD undef = .slice (some ⟨g, 0, none⟩) q c := getD_of (hI.val_ (i := 3) rfl rfl (by decide) (hdep ⟨3, .data⟩ (by simp) rfl))
            clear hI hdep
            exact RgX.app_empty_own rfl (.tmp 46) (.tmp 49) 29 rfl v5.heap.size 28 i0 _ 9 72 Try.underlying29 hi0 hz0 hs0 hb0 rfl g46 (by simpa [Act.eval] using e46) r46 l46 (some ⟨g, 0, none⟩) q c (RS.flat enE (lf.take q)) (by simpa [Act.eval] using e49) (by rw [RS.flat_len, List.length_take, HN.out]; rw [Nat.min_eq_left (by omega)]; rfl) (HS7.out w3 hh) (RS.flat_ones _) (by simp only [maxLen]; omega) (by omega)
          · simp only [List.getElem?_toArray, List.getElem?_cons_succ, List.getElem?_cons_zero, Option.some.injEq] at ho
            subst ho
            refine ⟨rfl, ?_⟩
            have e6 : A_.tmps[6]?.getD undef = .slice (some ⟨g, 0, none⟩) n c := by rw [hI.low 6 (by decide)]; rfl
            clear hI hdep
            exact .run rfl (.slice (some ⟨g, 0, none⟩) n c) w3 (by simp [execOp, go_sem, Act.eval, e6]) (Below.refl _ _) rfl
          · simp only [List.getElem?_toArray, List.getElem?_cons_succ, List.getElem?_cons_zero, Option.some.injEq] at ho
            subst ho
            refine ⟨rfl, ?_⟩
            have e9 : A_.tmps[9]?.getD undef = .int .i64 (q : Int) := by rw [hI.low 9 (by decide)]; rfl
            clear hI hdep
            exact .run rfl (.int .i64 (q : Int)) w3 (by simp [execOp, go_sem, Act.eval, e9]) (Below.refl _ _) rfl
          · simp only [List.getElem?_toArray, List.getElem?_cons_succ, List.getElem?_cons_zero, Option.some.injEq] at ho
            subst ho
            refine ⟨rfl, ?_⟩
            have e52 : A_.tmps[52]?.getD undef = .int .i64 (q : Int) := getD_of (hI.val_ (i := 6) rfl rfl (by decide) (hdep ⟨6, .data⟩ (by simp) rfl))
            clear hI hdep
            have ew : IntKind.i64.wrap ((q : Int) + 1) = (q : Int) + 1 := by rw [IntKind.wrap_i64]; omega
            exact .run rfl (.int .i64 ((q : Int) + 1)) w3 (by simp [execOp, go_sem, Act.eval, e52, ew]) (Below.refl _ _) rfl
          · simp only [List.getElem?_toArray, List.getElem?_cons_succ, List.getElem?_cons_zero, Option.some.injEq] at ho
            subst ho
            refine ⟨rfl, ?_⟩
            have e51 : A_.tmps[51]?.getD undef = .slice (some ⟨g, 0, none⟩) n c := getD_of (hI.val_ (i := 5) rfl rfl (by decide) (hdep ⟨5, .data⟩ (by simp) rfl))
            have e53 : A_.tmps[53]?.getD undef = .int .i64 ((q : Int) + 1) := getD_of (hI.val_ (i := 7) rfl rfl (by decide) (hdep ⟨7, .data⟩ (by simp) rfl))
            clear hI hdep
            have h8 : (q : Int) + 1 ≤ (n : Int) := by omega
            have h9 : ¬ ((q : Int) + 1 < 0) := by omega
            have hA9 := hA8
            exact .run rfl (.slice A8 (n - (q + 1)) (c - (q + 1))) w3 (by simp [execOp, go_sem, Act.eval, e51, e53, h8, h9, hA9]) (Below.refl _ _) rfl
        case app =>
          intro A_ w3 hs hlow hh hok
          obtain ⟨_, q50, B50, c50, rfl, h50⟩ := hok 4 50 _ (by decide) (by decide) (by decide) rfl rfl
          have e50 : A_.tmps[50]?.getD undef = .slice B50 q c50 := getD_of q50
          have e54 : A_.tmps[54]?.getD undef = .slice A8 (n - (q + 1)) (c - (q + 1)) := getD_of (RgX.val_at (hok 8 54 _ (by decide) (by decide) (by decide) rfl rfl))
          clear hs hlow hok
          refine ⟨rfl, rfl, ?_⟩
          refine RgX.app_src_exec (.tmp 50) (.tmp 54) 29 rfl v5.heap.size 28 i0 _ 9 72 Try.underlying29 hi0 hz0 hs0 hb0 rfl (by decide) (.slice B50 q c50) q (RS.flat enE (lf.take q)) (by simpa [Act.eval] using e50) h50 A8 (n - (q + 1)) (c - (q + 1)) (RS.flat enE (lf.drop (q + 1))) (by simpa [Act.eval] using e54) (by rw [RS.flat_len, List.length_drop, HN.out]; rfl) (HS8.out w3 hh) (RS.flat_ones _) (by simp only [maxLen]; omega) (by omega) hh.size ?_
          intro B' c' w' hown' hgr'
          exact ⟨B', c', rfl, hown', hh.grown hgr' hh.size (fun b e => (h50.lt b e).1)⟩
        case flo => exact fun _ _ _ _ hi => by cases hi
        case hF => exact fun _ hi => by cases hi
        case fin =>
        intro A_ w3 y_ hs hd hlow hy hG hfl hex
        obtain ⟨z46, hz46⟩ := hex 0 46 (by decide) rfl
        obtain ⟨z47, hz47⟩ := hex 1 47 (by decide) rfl
        obtain ⟨z48, hz48⟩ := hex 2 48 (by decide) rfl
        obtain ⟨z49, hz49⟩ := hex 3 49 (by decide) rfl
        obtain ⟨z50, hz50⟩ := hex 4 50 (by decide) rfl
        obtain ⟨z51, hz51⟩ := hex 5 51 (by decide) rfl
        obtain ⟨z52, hz52⟩ := hex 6 52 (by decide) rfl
        obtain ⟨z53, hz53⟩ := hex 7 53 (by decide) rfl
        obtain ⟨z54, hz54⟩ := hex 8 54 (by decide) rfl
        obtain rfl : A_ = ⟨#[.slice a0 len0 cap0, .slice (some { block := b1, off := off1 }) len1 cap1, undef, undef, u4, .slice B s.length r, .slice (some ⟨g, 0, none⟩) n c, .slice DB gt2.length dg, .int .i64 (k : Int), .int .i64 (q : Int), .slice DB gt2.length dg, .int .i64 0, undef, .slice a0 len0 cap0, .slice B s.length r, .slice (some ⟨v1.heap.size, 0, none⟩) 0 0, .slice B s.length r, .slice B2 s.length c2, .slice (some ⟨g, 0, none⟩) n c, .int .i64 (n : Int), .bool true, u21, u22, .int .i64 (k : Int), .slice (some { block := b1, off := off1 }) len1 cap1, .int .i64 (len1 : Int), .bool true, .slice (some { block := b1, off := off1 }) len1 cap1, .int .i64 (k : Int), .pointer (some { block := b1, off := off1 + k }), .int .i64 z, .slice (some ⟨g, 0, none⟩) n c, .int .i64 (n : Int), .int .i64 (q : Int), Value.tuple #[.slice DB gt2.length dg, .int .i64 0], .slice D gt.length d, .slice (some ⟨g, 0, none⟩) n c, .int .i64 (q : Int), .pointer (some { block := g, off := q * 9 }), .agg #[.int .i64 x.m.c, .int .i64 x.m.h, .int .i64 x.m.t, .int .i64 x.m.i, .int .i64 x.m.p, .int .i64 x.o, .int .i64 x.k, .int .i64 x.a, .int .i64 x.b], Value.tuple #[.slice DB gt2.length dg, .int .i64 0], .slice DB gt2.length dg, .int .i64 0, .int .i64 0, .bool false, .slice DB gt2.length dg, z46, z47, z48, z49, z50, z51, z52, z53, z54, y_, undef, undef, undef, undef, undef, undef, undef, undef, undef, undef, undef, undef, undef, undef, undef, undef, undef, undef, undef, undef, undef, undef, undef, undef, undef], []⟩ := act_ext hd hs (fun j hj => match j, hj with | 0, _ => (hlow 0 (by decide)).trans rfl | 1, _ => (hlow 1 (by decide)).trans rfl | 2, _ => (hlow 2 (by decide)).trans rfl | 3, _ => (hlow 3 (by decide)).trans rfl | 4, _ => (hlow 4 (by decide)).trans rfl | 5, _ => (hlow 5 (by decide)).trans rfl | 6, _ => (hlow 6 (by decide)).trans rfl | 7, _ => (hlow 7 (by decide)).trans rfl | 8, _ => (hlow 8 (by decide)).trans rfl | 9, _ => (hlow 9 (by decide)).trans rfl | 10, _ => (hlow 10 (by decide)).trans rfl | 11, _ => (hlow 11 (by decide)).trans rfl | 12, _ => (hlow 12 (by decide)).trans rfl | 13, _ => (hlow 13 (by decide)).trans rfl | 14, _ => (hlow 14 (by decide)).trans rfl | 15, _ => (hlow 15 (by decide)).trans rfl | 16, _ => (hlow 16 (by decide)).trans rfl | 17, _ => (hlow 17 (by decide)).trans rfl | 18, _ => (hlow 18 (by decide)).trans rfl | 19, _ => (hlow 19 (by decide)).trans rfl | 20, _ => (hlow 20 (by decide)).trans rfl | 21, _ => (hlow 21 (by decide)).trans rfl | 22, _ => (hlow 22 (by decide)).trans rfl | 23, _ => (hlow 23 (by decide)).trans rfl | 24, _ => (hlow 24 (by decide)).trans rfl | 25, _ => (hlow 25 (by decide)).trans rfl | 26, _ => (hlow 26 (by decide)).trans rfl | 27, _ => (hlow 27 (by decide)).trans rfl | 28, _ => (hlow 28 (by decide)).trans rfl | 29, _ => (hlow 29 (by decide)).trans rfl | 30, _ => (hlow 30 (by decide)).trans rfl | 31, _ => (hlow 31 (by decide)).trans rfl | 32, _ => (hlow 32 (by decide)).trans rfl | 33, _ => (hlow 33 (by decide)).trans rfl | 34, _ => (hlow 34 (by decide)).trans rfl | 35, _ => (hlow 35 (by decide)).trans rfl | 36, _ => (hlow 36 (by decide)).trans rfl | 37, _ => (hlow 37 (by decide)).trans rfl | 38, _ => (hlow 38 (by decide)).trans rfl | 39, _ => (hlow 39 (by decide)).trans rfl | 40, _ => (hlow 40 (by decide)).trans rfl | 41, _ => (hlow 41 (by decide)).trans rfl | 42, _ => (hlow 42 (by decide)).trans rfl | 43, _ => (hlow 43 (by decide)).trans rfl | 44, _ => (hlow 44 (by decide)).trans rfl | 45, _ => (hlow 45 (by decide)).trans rfl | 46, _ => hz46 | 47, _ => hz47 | 48, _ => hz48 | 49, _ => hz49 | 50, _ => hz50 | 51, _ => hz51 | 52, _ => hz52 | 53, _ => hz53 | 54, _ => hz54 | 55, _ => hy | 56, _ => (hlow 56 (by decide)).trans rfl | 57, _ => (hlow 57 (by decide)).trans rfl | 58, _ => (hlow 58 (by decide)).trans rfl | 59, _ => (hlow 59 (by decide)).trans rfl | 60, _ => (hlow 60 (by decide)).trans rfl | 61, _ => (hlow 61 (by decide)).trans rfl | 62, _ => (hlow 62 (by decide)).trans rfl | 63, _ => (hlow 63 (by decide)).trans rfl | 64, _ => (hlow 64 (by decide)).trans rfl | 65, _ => (hlow 65 (by decide)).trans rfl | 66, _ => (hlow 66 (by decide)).trans rfl | 67, _ => (hlow 67 (by decide)).trans rfl | 68, _ => (hlow 68 (by decide)).trans rfl | 69, _ => (hlow 69 (by decide)).trans rfl | 70, _ => (hlow 70 (by decide)).trans rfl | 71, _ => (hlow 71 (by decide)).trans rfl | 72, _ => (hlow 72 (by decide)).trans rfl | 73, _ => (hlow 73 (by decide)).trans rfl | 74, _ => (hlow 74 (by decide)).trans rfl | 75, _ => (hlow 75 (by decide)).trans rfl | 76, _ => (hlow 76 (by decide)).trans rfl | 77, _ => (hlow 77 (by decide)).trans rfl | 78, _ => (hlow 78 (by decide)).trans rfl | 79, _ => (hlow 79 (by decide)).trans rfl | 80, _ => (hlow 80 (by decide)).trans rfl | n + 81, h => absurd h (by show ¬ n + 81 < 81; omega))
        clear hs hd hlow hy hfl hex hz46 hz47 hz48 hz49 hz50 hz51 hz52 hz53 hz54
        obtain ⟨B', c', rfl, hown', hb⟩ := hG
        obtain ⟨v6, h6⟩ : ∃ V, V = w3 := ⟨_, rfl⟩
        rw [← h6] at hown' hb ⊢
        clear h6
        have hpart := NW.Inv.part (lf := lf) (k := q) (by rw [HN.out]; omega)
        rw [HN.out] at hpart
        have HF2 : Hid (Ens v6 B' (q + (n - (q + 1))) c' (lf.take q ++ lf.drop (q + 1))) := Lib.hid (RS.Sl.of_own (by rw [RS.flat_append]; exact hown') hpart)
        have HPT := Lib.hid hpart
        replace HE := Lib.hid (HE.out.keep hb)
        replace HGN := Lib.hid (HGN.out.keep hb)
        replace HB := Lib.hid (HB.out.trans (hb.mono HB.out.size))
        clear hown' hb hpart HF HS7 HS8
        go_wp2_with fail
        go_roundw
        case rel => exact ⟨_, gt2, k + 1, B', c', DB, dg, by rw [HPT.out]; try simp, rfl, by go_num, by rw [HPT.out]; omega, HIV, by rw [HPT.out]; exact HF2.out, HGN, HE, HB⟩
        case measure => simp [lenOf]; omega
      · have d2 : decide (k < len1) = false := decide_eq_false hip
        go_upto_region 10 with (fail)
        obtain ⟨x, hx⟩ : ∃ x, lf[0]? = some x := ⟨_, List.getElem?_eq_getElem (by rw [HN.out]; omega)⟩
        obtain ⟨hnew, hinv⟩ := HI.out.step hx
        obtain ⟨g_, hg_, hgl, p0, p1, p2, p3, p4, p5, p6, p7, p8⟩ := en_at HF.out hx
        obtain rfl : g = g_ := by injection hg_ with hg_; injection hg_
        have HA := Lib.hid (add_any x wr HG.out HI.out.srt (by have := HI.out.len; omega))
        rw [hnew] at HA
        simp only [Bool.false_eq_true, if_false] at HA
        have HPL := Lib.hid (NW.put_len gt x)
        obtain ⟨gt2, hgt2⟩ : ∃ l, NW.put gt x = l := ⟨_, rfl⟩
        rw [hgt2] at HA hinv HPL
        have HIV := Lib.hid hinv
        clear hx hnew hinv hg_ hgt2 hgl
        go_upto_region 11 with ((go_at_call 11; (with_reducible refine (HA.out).mono ?_); rintro e v5 ⟨⟨DB, qg, dg, rfl, h_, _⟩, hb⟩; have HGN := Lib.hid h_; clear h_; replace HE := Lib.hid (HE.out.keep hb); replace HF := Lib.hid (HF.out.keep hb); replace HB := Lib.hid (HB.out.trans (hb.mono HB.out.size)); clear hb))
        clear p0 p1 p2 p3 p4 p5 p6 p7 p8
        obtain rfl : qg = gt2.length := HGN.out.len.symm
        obtain ⟨A8, hA8⟩ : ∃ A, (if c = 0 + 1 then (some ⟨g, 0, none⟩ : Option Addr) else some ⟨g, (0 + 1) * 9, none⟩) = A := ⟨_, rfl⟩
        have HS8 := Lib.hid (fun (V : World) (hV : Below v5.heap.size v5 V) => show RgX.Src V A8 (n - (0 + 1)) (c - (0 + 1)) (RS.flat enE (lf.drop (0 + 1))) from hA8 ▸ (HF.out.keep hV).back_if (0 + 1) (by omega))
        have HS7 := Lib.hid (fun (V : World) (hV : Below v5.heap.size v5 V) => (HF.out.keep hV).front 0 (by omega))
        have hqc : 0 + 1 ≤ c := by have := HLC.out; omega
        go_upto_region 14 with (fail)
        refine RgX.tail2 10 9 (fun i => ( 46 + i)) (fun ix_ => match ix_ with | 0 => .zrow v5.heap.size 28 | 1 => .v (.slice (some ⟨g, 0, none⟩) n c) | 2 => .v (.int .i64 0) | 3 => .v (.slice (some ⟨g, 0, none⟩) 0 c) | 4 => .own v5.heap.size 28 9 0 (RS.flat enE (lf.take 0)) | 5 => .v (.slice (some ⟨g, 0, none⟩) n c) | 6 => .v (.int .i64 0) | 7 => .v (.int .i64 1) | 8 => .v (.slice A8 (n - (0 + 1)) (c - (0 + 1))) | 9 => .any | _ => .any) [] (fun ix_ => match ix_ with  | _ => undef) _ _ (fun v w' => ∃ (B' : Option Addr) (c' : Nat), v = .slice B' (0 + (n - (0 + 1))) c' ∧ w'.ownsRow v5.heap.size 28 9 (.slice B' (0 + (n - (0 + 1))) c') (0 + (n - (0 + 1))) (RS.flat enE (lf.take 0) ++ RS.flat enE (lf.drop (0 + 1))) ∧ Below v5.heap.size v5 w') (by kernel_rfl) rfl rfl (by decide) rfl (by kernel_rfl) (by kernel_rfl) (by kernel_rfl) (by decide) (fun i hi => by show ( 46 + i) < 81; (repeat' split) <;> omega) (fun i j hi hj => by show ( 46 + i) = ( 46 + j) → i = j; (repeat' split) <;> omega) ?step ?app ?flo ?hF ?fin
        case step =>
          intro L_ A_ w3 ix op_ hi hnA hI ho hdep
          have hcase : ix = 0 ∨ ix = 1 ∨ ix = 2 ∨ ix = 3 ∨ ix = 4 ∨ ix = 5 ∨ ix = 6 ∨ ix = 7 ∨ ix = 8 := by omega
          have hh := hI.held
          clear hi hnA
          rcases hcase with rfl | rfl | rfl | rfl | rfl | rfl | rfl | rfl | rfl
          · simp only [List.getElem?_toArray, List.getElem?_cons_zero, Option.some.injEq] at ho
            subst ho
            refine ⟨rfl, ?_⟩
            clear hI hdep
            exact .run rfl (.slice (some ⟨w3.heap.size, 0, none⟩) 0 0) (w3.alloc (.cells #[] 28)) (by simp [execOp, go_sem, Act.eval]) ((Below.refl _ _).alloc (Nat.le_refl _) _) ⟨_, rfl, heap_alloc_new _ _, hh.size⟩
          · simp only [List.getElem?_toArray, List.getElem?_cons_succ, List.getElem?_cons_zero, Option.some.injEq] at ho
            subst ho
            refine ⟨rfl, ?_⟩
            have e6 : A_.tmps[6]?.getD undef = .slice (some ⟨g, 0, none⟩) n c := by rw [hI.low 6 (by decide)]; rfl
            clear hI hdep
            exact .run rfl (.slice (some ⟨g, 0, none⟩) n c) w3 (by simp [execOp, go_sem, Act.eval, e6]) (Below.refl _ _) rfl
          · simp only [List.getElem?_toArray, List.getElem?_cons_succ, List.getElem?_cons_zero, Option.some.injEq] at ho
            subst ho
            refine ⟨rfl, ?_⟩
            have e9 : A_.tmps[9]?.getD undef = .int .i64 0 := by rw [hI.low 9 (by decide)]; rfl
            clear hI hdep
            exact .run rfl (.int .i64 0) w3 (by simp [execOp, go_sem, Act.eval, e9]) (Below.refl _ _) rfl
          · simp only [List.getElem?_toArray, List.getElem?_cons_succ, List.getElem?_cons_zero, Option.some.injEq] at ho
            subst ho
            refine ⟨rfl, ?_⟩
            have e47 : A_.tmps[47]?.getD undef = .slice (some ⟨g, 0, none⟩) n c := getD_of (hI.val_ (i := 1) rfl rfl (by decide) (hdep ⟨1, .data⟩ (by simp) rfl))
            have e48 : A_.tmps[48]?.getD undef = .int .i64 0 := getD_of (hI.val_ (i := 2) rfl rfl (by decide) (hdep ⟨2, .data⟩ (by simp) rfl))
            clear hI hdep
            exact .run rfl (.slice (some ⟨g, 0, none⟩) 0 c) w3 (by simp [execOp, go_sem, Act.eval, e47, e48]) (Below.refl _ _) rfl
          · simp only [List.getElem?_toArray, List.getElem?_cons_succ, List.getElem?_cons_zero, Option.some.injEq] at ho
            subst ho
            refine ⟨rfl, ?_⟩
            obtain ⟨_, e46, g46, rfl, r46, l46⟩ := hI.get_ (i := 0) (j := 46) rfl rfl (by decide) (hdep ⟨0, .data⟩ (by simp) rfl)
            have e49 : A_.tmps[49]?.getD undef = .slice (some ⟨g, 0, none⟩) 0 c := getD_of (hI.val_ (i := 3) rfl rfl (by decide) (hdep ⟨3, .data⟩ (by simp) rfl))
            clear hI hdep
            exact RgX.app_empty_own rfl (.tmp 46) (.tmp 49) 29 rfl v5.heap.size 28 i0 _ 9 72 Try.underlying29 hi0 hz0 hs0 hb0 rfl g46 (by simpa [Act.eval] using e46) r46 l46 (some ⟨g, 0, none⟩) 0 c (RS.flat enE (lf.take 0)) (by simpa [Act.eval] using e49) (by rw [RS.flat_len, List.length_take, HN.out]; rw [Nat.min_eq_left (by omega)]; rfl) (HS7.out w3 hh) (RS.flat_ones _) (by simp only [maxLen]; omega) (by omega)
          · simp only [List.getElem?_toArray, List.getElem?_cons_succ, List.getElem?_cons_zero, Option.some.injEq] at ho
            subst ho
            refine ⟨rfl, ?_⟩
            have e6 : A_.tmps[6]?.getD undef = .slice (some ⟨g, 0, none⟩) n c := by rw [hI.low 6 (by decide)]; rfl
            clear hI hdep
            exact .run rfl (.slice (some ⟨g, 0, none⟩) n c) w3 (by simp [execOp, go_sem, Act.eval, e6]) (Below.refl _ _) rfl
          · simp only [List.getElem?_toArray, List.getElem?_cons_succ, List.getElem?_cons_zero, Option.some.injEq] at ho
            subst ho
            refine ⟨rfl, ?_⟩
            have e9 : A_.tmps[9]?.getD undef = .int .i64 0 := by rw [hI.low 9 (by decide)]; rfl
            clear hI hdep
            exact .run rfl (.int .i64 0) w3 (by simp [execOp, go_sem, Act.eval, e9]) (Below.refl _ _) rfl
          · simp only [List.getElem?_toArray, List.getElem?_cons_succ, List.getElem?_cons_zero, Option.some.injEq] at ho
            subst ho
            refine ⟨rfl, ?_⟩
            have e52 : A_.tmps[52]?.getD undef = .int .i64 0 := getD_of (hI.val_ (i := 6) rfl rfl (by decide) (hdep ⟨6, .data⟩ (by simp) rfl))
            clear hI hdep
            exact .run rfl (.int .i64 1) w3 (by simp [execOp, go_sem, Act.eval, e52, show IntKind.i64.wrap 1 = 1 by decide]) (Below.refl _ _) rfl
          · simp only [List.getElem?_toArray, List.getElem?_cons_succ, List.getElem?_cons_zero, Option.some.injEq] at ho
            subst ho
            refine ⟨rfl, ?_⟩
            have e51 : A_.tmps[51]?.getD undef = .slice (some ⟨g, 0, none⟩) n c := getD_of (hI.val_ (i := 5) rfl rfl (by decide) (hdep ⟨5, .data⟩ (by simp) rfl))
            have e53 : A_.tmps[53]?.getD undef = .int .i64 1 := getD_of (hI.val_ (i := 7) rfl rfl (by decide) (hdep ⟨7, .data⟩ (by simp) rfl))
            clear hI hdep
            have h8 : (1 : Int) ≤ (n : Int) := by omega
            have hA9 := hA8
            exact .run rfl (.slice A8 (n - (0 + 1)) (c - (0 + 1))) w3 (by simp [execOp, go_sem, Act.eval, e51, e53, h8, hA9]) (Below.refl _ _) rfl
        case app =>
          intro A_ w3 hs hlow hh hok
          obtain ⟨_, q50, B50, c50, rfl, h50⟩ := hok 4 50 _ (by decide) (by decide) (by decide) rfl rfl
          have e50 : A_.tmps[50]?.getD undef = .slice B50 0 c50 := getD_of q50
          have e54 : A_.tmps[54]?.getD undef = .slice A8 (n - (0 + 1)) (c - (0 + 1)) := getD_of (RgX.val_at (hok 8 54 _ (by decide) (by decide) (by decide) rfl rfl))
          clear hs hlow hok
          refine ⟨rfl, rfl, ?_⟩
          refine RgX.app_src_exec (.tmp 50) (.tmp 54) 29 rfl v5.heap.size 28 i0 _ 9 72 Try.underlying29 hi0 hz0 hs0 hb0 rfl (by decide) (.slice B50 0 c50) 0 (RS.flat enE (lf.take 0)) (by simpa [Act.eval] using e50) h50 A8 (n - (0 + 1)) (c - (0 + 1)) (RS.flat enE (lf.drop (0 + 1))) (by simpa [Act.eval] using e54) (by rw [RS.flat_len, List.length_drop, HN.out]; rfl) (HS8.out w3 hh) (RS.flat_ones _) (by simp only [maxLen]; omega) (by omega) hh.size ?_
          intro B' c' w' hown' hgr'
          exact ⟨B', c', rfl, hown', hh.grown hgr' hh.size (fun b e => (h50.lt b e).1)⟩
        case flo => exact fun _ _ _ _ hi => by cases hi
        case hF => exact fun _ hi => by cases hi
        case fin =>
        intro A_ w3 y_ hs hd hlow hy hG hfl hex
        obtain ⟨z46, hz46⟩ := hex 0 46 (by decide) rfl
        obtain ⟨z47, hz47⟩ := hex 1 47 (by decide) rfl
        obtain ⟨z48, hz48⟩ := hex 2 48 (by decide) rfl
        obtain ⟨z49, hz49⟩ := hex 3 49 (by decide) rfl
        obtain ⟨z50, hz50⟩ := hex 4 50 (by decide) rfl
        obtain ⟨z51, hz51⟩ := hex 5 51 (by decide) rfl
        obtain ⟨z52, hz52⟩ := hex 6 52 (by decide) rfl
        obtain ⟨z53, hz53⟩ := hex 7 53 (by decide) rfl
        obtain ⟨z54, hz54⟩ := hex 8 54 (by decide) rfl
        obtain rfl : A_ = ⟨#[.slice a0 len0 cap0, .slice a1 len1 cap1, undef, undef, u4, .slice B s.length r, .slice (some ⟨g, 0, none⟩) n c, .slice DB gt2.length dg, .int .i64 (k : Int), .int .i64 0, .slice DB gt2.length dg, .int .i64 0, undef, .slice a0 len0 cap0, .slice B s.length r, .slice (some ⟨v1.heap.size, 0, none⟩) 0 0, .slice B s.length r, .slice B2 s.length c2, .slice (some ⟨g, 0, none⟩) n c, .int .i64 (n : Int), .bool true, u21, u22, .int .i64 (k : Int), .slice a1 len1 cap1, .int .i64 (len1 : Int), .bool false, u27, u28, u29, u30, u31, u32, u33, Value.tuple #[.slice DB gt2.length dg, .int .i64 0], .slice D gt.length d, .slice (some ⟨g, 0, none⟩) n c, .int .i64 0, .pointer (some ⟨g, 0, none⟩), .agg #[.int .i64 x.m.c, .int .i64 x.m.h, .int .i64 x.m.t, .int .i64 x.m.i, .int .i64 x.m.p, .int .i64 x.o, .int .i64 x.k, .int .i64 x.a, .int .i64 x.b], Value.tuple #[.slice DB gt2.length dg, .int .i64 0], .slice DB gt2.length dg, .int .i64 0, .int .i64 0, .bool false, .slice DB gt2.length dg, z46, z47, z48, z49, z50, z51, z52, z53, z54, y_, undef, undef, undef, undef, undef, undef, undef, undef, undef, undef, undef, undef, undef, undef, undef, undef, undef, undef, undef, undef, undef, undef, undef, undef, undef], []⟩ := act_ext hd hs (fun j hj => match j, hj with | 0, _ => (hlow 0 (by decide)).trans rfl | 1, _ => (hlow 1 (by decide)).trans rfl | 2, _ => (hlow 2 (by decide)).trans rfl | 3, _ => (hlow 3 (by decide)).trans rfl | 4, _ => (hlow 4 (by decide)).trans rfl | 5, _ => (hlow 5 (by decide)).trans rfl | 6, _ => (hlow 6 (by decide)).trans rfl | 7, _ => (hlow 7 (by decide)).trans rfl | 8, _ => (hlow 8 (by decide)).trans rfl | 9, _ => (hlow 9 (by decide)).trans rfl | 10, _ => (hlow 10 (by decide)).trans rfl | 11, _ => (hlow 11 (by decide)).trans rfl | 12, _ => (hlow 12 (by decide)).trans rfl | 13, _ => (hlow 13 (by decide)).trans rfl | 14, _ => (hlow 14 (by decide)).trans rfl | 15, _ => (hlow 15 (by decide)).trans rfl | 16, _ => (hlow 16 (by decide)).trans rfl | 17, _ => (hlow 17 (by decide)).trans rfl | 18, _ => (hlow 18 (by decide)).trans rfl | 19, _ => (hlow 19 (by decide)).trans rfl | 20, _ => (hlow 20 (by decide)).trans rfl | 21, _ => (hlow 21 (by decide)).trans rfl | 22, _ => (hlow 22 (by decide)).trans rfl | 23, _ => (hlow 23 (by decide)).trans rfl | 24, _ => (hlow 24 (by decide)).trans rfl | 25, _ => (hlow 25 (by decide)).trans rfl | 26, _ => (hlow 26 (by decide)).trans rfl | 27, _ => (hlow 27 (by decide)).trans rfl | 28, _ => (hlow 28 (by decide)).trans rfl | 29, _ => (hlow 29 (by decide)).trans rfl | 30, _ => (hlow 30 (by decide)).trans rfl | 31, _ => (hlow 31 (by decide)).trans rfl | 32, _ => (hlow 32 (by decide)).trans rfl | 33, _ => (hlow 33 (by decide)).trans rfl | 34, _ => (hlow 34 (by decide)).trans rfl | 35, _ => (hlow 35 (by decide)).trans rfl | 36, _ => (hlow 36 (by decide)).trans rfl | 37, _ => (hlow 37 (by decide)).trans rfl | 38, _ => (hlow 38 (by decide)).trans rfl | 39, _ => (hlow 39 (by decide)).trans rfl | 40, _ => (hlow 40 (by decide)).trans rfl | 41, _ => (hlow 41 (by decide)).trans rfl | 42, _ => (hlow 42 (by decide)).trans rfl | 43, _ => (hlow 43 (by decide)).trans rfl | 44, _ => (hlow 44 (by decide)).trans rfl | 45, _ => (hlow 45 (by decide)).trans rfl | 46, _ => hz46 | 47, _ => hz47 | 48, _ => hz48 | 49, _ => hz49 | 50, _ => hz50 | 51, _ => hz51 | 52, _ => hz52 | 53, _ => hz53 | 54, _ => hz54 | 55, _ => hy | 56, _ => (hlow 56 (by decide)).trans rfl | 57, _ => (hlow 57 (by decide)).trans rfl | 58, _ => (hlow 58 (by decide)).trans rfl | 59, _ => (hlow 59 (by decide)).trans rfl | 60, _ => (hlow 60 (by decide)).trans rfl | 61, _ => (hlow 61 (by decide)).trans rfl | 62, _ => (hlow 62 (by decide)).trans rfl | 63, _ => (hlow 63 (by decide)).trans rfl | 64, _ => (hlow 64 (by decide)).trans rfl | 65, _ => (hlow 65 (by decide)).trans rfl | 66, _ => (hlow 66 (by decide)).trans rfl | 67, _ => (hlow 67 (by decide)).trans rfl | 68, _ => (hlow 68 (by decide)).trans rfl | 69, _ => (hlow 69 (by decide)).trans rfl | 70, _ => (hlow 70 (by decide)).trans rfl | 71, _ => (hlow 71 (by decide)).trans rfl | 72, _ => (hlow 72 (by decide)).trans rfl | 73, _ => (hlow 73 (by decide)).trans rfl | 74, _ => (hlow 74 (by decide)).trans rfl | 75, _ => (hlow 75 (by decide)).trans rfl | 76, _ => (hlow 76 (by decide)).trans rfl | 77, _ => (hlow 77 (by decide)).trans rfl | 78, _ => (hlow 78 (by decide)).trans rfl | 79, _ => (hlow 79 (by decide)).trans rfl | 80, _ => (hlow 80 (by decide)).trans rfl | n + 81, h => absurd h (by show ¬ n + 81 < 81; omega))
        clear hs hd hlow hy hfl hex hz46 hz47 hz48 hz49 hz50 hz51 hz52 hz53 hz54
        obtain ⟨B', c', rfl, hown', hb⟩ := hG
        obtain ⟨v6, h6⟩ : ∃ V, V = w3 := ⟨_, rfl⟩
        rw [← h6] at hown' hb ⊢
        clear h6
        have hpart := NW.Inv.part (lf := lf) (k := 0) (by rw [HN.out]; omega)
        rw [HN.out] at hpart
        have HF2 : Hid (Ens v6 B' (0 + (n - (0 + 1))) c' (lf.take 0 ++ lf.drop (0 + 1))) := Lib.hid (RS.Sl.of_own (by rw [RS.flat_append]; exact hown') hpart)
        have HPT := Lib.hid hpart
        replace HE := Lib.hid (HE.out.keep hb)
        replace HGN := Lib.hid (HGN.out.keep hb)
        replace HB := Lib.hid (HB.out.trans (hb.mono HB.out.size))
        clear hown' hb hpart HF HS7 HS8
        go_wp2_with fail
        go_roundw
        case rel => exact ⟨_, gt2, k + 1, B', c', DB, dg, by rw [HPT.out]; try simp, rfl, by go_num, by rw [HPT.out]; omega, HIV, by rw [HPT.out]; exact HF2.out, HGN, HE, HB⟩
        case measure => simp [lenOf]; omega
    · have d1 : decide ((lf.length : Int) > 0) = false := decide_eq_false (by omega)
      have hl0 : lf = [] := List.eq_nil_of_length_eq_zero (by omega)
      subst hl0
      simp only [List.length_nil] at HF ⊢
      have hgs := HI.out.done HO.out
      subst hgs
      go_upto_region 16 with (fail)
      clear d1
      obtain ⟨wo, hwo⟩ : ∃ W, W = wr := ⟨_, rfl⟩
      subst hwo
      go_loopw [12] (fun i V => ∃ j : Nat, 1 ≤ j ∧ j ≤ gt.length + 1 ∧ i = .int .i64 (j : Int) ∧ Hid (Ens V D gt.length d gt) ∧ Hid (Ens V B gt.length r gt) ∧ Hid (Below w.heap.size w V)) (fun i _ => gt.length + 1 - (intOf i).toNat)
      case atStart => exact ⟨1, by omega, by omega, rfl, HG, HE, HB⟩
      case round =>
        clear HG HE HB HF
        obtain ⟨j, hj1, hj2, rfl, HG, HE, HB⟩ := hrel
        by_cases hjn : j < gt.length
        · have d3 : decide (j < gt.length) = true := decide_eq_true hjn
          obtain ⟨i, rfl⟩ : ∃ i, j = i + 1 := ⟨j - 1, by omega⟩
          obtain ⟨x, hx⟩ : ∃ x, gt[i]? = some x := ⟨_, List.getElem?_eq_getElem (by omega)⟩
          obtain ⟨y, hy⟩ : ∃ y, gt[i + 1]? = some y := ⟨_, List.getElem?_eq_getElem hjn⟩
          have hlt : NM.lexL (NM.msL x.m) (NM.msL y.m) < 0 := by
            obtain ⟨q1, e1⟩ := List.getElem?_eq_some_iff.1 hx
            obtain ⟨q2, e2⟩ := List.getElem?_eq_some_iff.1 hy
            have := List.pairwise_iff_getElem.1 HO.out i (i + 1) q1 q2 (by omega)
            rw [e1, e2] at this
            exact this
          have HCP := Lib.hid (fun V => cmpMsg_any x.m y.m V)
          obtain ⟨q, hq⟩ : ∃ q, NM.lexL (NM.msL x.m) (NM.msL y.m) = q := ⟨_, rfl⟩
          rw [hq] at HCP hlt
          obtain ⟨g, hg, _⟩ := en_at HG.out hx
          subst hg
          have HXM := Lib.hid (fun (V : World) (hV : Below wr.heap.size wr V) => And.intro (en_at (HG.out.keep hV) hx) (en_at (HG.out.keep hV) hy))
          clear hq hx hy
          go_upto_region 18 with (fail)
          simp only [Int.natCast_add, Int.cast_ofNat_Int] at *
          refine RgX.regionB 13 (fun i => ( 62 + i)) (fun ix_ => match ix_ with | 0 => .v (.slice (some ⟨g, 0, none⟩) gt.length d) | 1 => .v (.int .i64 ((i : Int) + 1)) | 2 => .v (.int .i64 (i : Int)) | 3 => .v (.pointer (some ⟨g, i * 9, none⟩)) | 4 => .v (.pointer (some ⟨g, i * 9, none⟩)) | 5 => .v (.agg #[.int .i64 x.m.c, .int .i64 x.m.h, .int .i64 x.m.t, .int .i64 x.m.i, .int .i64 x.m.p]) | 6 => .v (.slice (some ⟨g, 0, none⟩) gt.length d) | 7 => .v (.int .i64 ((i : Int) + 1)) | 8 => .v (.pointer (some ⟨g, (i + 1) * 9, none⟩)) | 9 => .v (.pointer (some ⟨g, (i + 1) * 9, none⟩)) | 10 => .v (.agg #[.int .i64 y.m.c, .int .i64 y.m.h, .int .i64 y.m.t, .int .i64 y.m.i, .int .i64 y.m.p]) | 11 => .v (.int .i64 q) | 12 => .v (.bool false) | _ => .any) (by kernel_rfl) rfl (by kernel_rfl)  (fun i hi => by show ( 62 + i) < 81; (repeat' split) <;> omega) (fun i j hi hj => by show ( 62 + i) = ( 62 + j) → i = j; (repeat' split) <;> omega) ?step ?fin
          case step =>
            intro L_ A_ w3 ix op_ hI ho hdep
            have hi : ix < 13 := (Array.getElem?_eq_some_iff.1 ho).1
            have hcase : ix = 0 ∨ ix = 1 ∨ ix = 2 ∨ ix = 3 ∨ ix = 4 ∨ ix = 5 ∨ ix = 6 ∨ ix = 7 ∨ ix = 8 ∨ ix = 9 ∨ ix = 10 ∨ ix = 11 ∨ ix = 12 := by omega
            have hh := hI.held
            clear hi
            rcases hcase with rfl | rfl | rfl | rfl | rfl | rfl | rfl | rfl | rfl | rfl | rfl | rfl | rfl
            · simp only [List.getElem?_toArray, List.getElem?_cons_zero, Option.some.injEq] at ho
              subst ho
              refine ⟨rfl, ?_⟩
              have e7 : A_.tmps[7]?.getD undef = .slice (some ⟨g, 0, none⟩) gt.length d := by rw [hI.low 7 (by decide)]; rfl
              clear hI hdep
              exact .run rfl (.slice (some ⟨g, 0, none⟩) gt.length d) w3 (by simp [execOp, go_sem, Act.eval, e7]) (Below.refl _ _) rfl
            · simp only [List.getElem?_toArray, List.getElem?_cons_succ, List.getElem?_cons_zero, Option.some.injEq] at ho
              subst ho
              refine ⟨rfl, ?_⟩
              have e12 : A_.tmps[12]?.getD undef = .int .i64 ((i : Int) + 1) := by rw [hI.low 12 (by decide)]; rfl
              clear hI hdep
              exact .run rfl (.int .i64 ((i : Int) + 1)) w3 (by simp [execOp, go_sem, Act.eval, e12]) (Below.refl _ _) rfl
            · simp only [List.getElem?_toArray, List.getElem?_cons_succ, List.getElem?_cons_zero, Option.some.injEq] at ho
              subst ho
              refine ⟨rfl, ?_⟩
              have e63 : A_.tmps[63]?.getD undef = .int .i64 ((i : Int) + 1) := getD_of (hI.val_ (i := 1) rfl rfl (by decide) (hdep ⟨1, .data⟩ (by simp) rfl))
              clear hI hdep
              have ew : IntKind.i64.wrap (i : Int) = (i : Int) := by rw [IntKind.wrap_i64]; omega
              exact .run rfl (.int .i64 (i : Int)) w3 (by simp [execOp, go_sem, Act.eval, e63, show (i : Int) + 1 - 1 = (i : Int) by omega, ew]) (Below.refl _ _) rfl
            · simp only [List.getElem?_toArray, List.getElem?_cons_succ, List.getElem?_cons_zero, Option.some.injEq] at ho
              subst ho
              refine ⟨rfl, ?_⟩
              have e62 : A_.tmps[62]?.getD undef = .slice (some ⟨g, 0, none⟩) gt.length d := getD_of (hI.val_ (i := 0) rfl rfl (by decide) (hdep ⟨0, .data⟩ (by simp) rfl))
              have e64 : A_.tmps[64]?.getD undef = .int .i64 (i : Int) := getD_of (hI.val_ (i := 2) rfl rfl (by decide) (hdep ⟨2, .data⟩ (by simp) rfl))
              clear hI hdep
              have h8 : (i : Int) < (gt.length : Int) := by omega
              exact .run rfl (.pointer (some ⟨g, i * 9, none⟩)) w3 (by simp [execOp, go_sem, Act.eval, e62, e64, h8]) (Below.refl _ _) rfl
            · simp only [List.getElem?_toArray, List.getElem?_cons_succ, List.getElem?_cons_zero, Option.some.injEq] at ho
              subst ho
              refine ⟨rfl, ?_⟩
              have e65 : A_.tmps[65]?.getD undef = .pointer (some ⟨g, i * 9, none⟩) := getD_of (hI.val_ (i := 3) rfl rfl (by decide) (hdep ⟨3, .data⟩ (by simp) rfl))
              clear hI hdep
              exact .run rfl (.pointer (some ⟨g, i * 9, none⟩)) w3 (by simp [execOp, go_sem, Act.eval, e65]) (Below.refl _ _) rfl
            · simp only [List.getElem?_toArray, List.getElem?_cons_succ, List.getElem?_cons_zero, Option.some.injEq] at ho
              subst ho
              refine ⟨rfl, ?_⟩
              have e66 : A_.tmps[66]?.getD undef = .pointer (some ⟨g, i * 9, none⟩) := getD_of (hI.val_ (i := 4) rfl rfl (by decide) (hdep ⟨4, .data⟩ (by simp) rfl))
              clear hI hdep
              obtain ⟨⟨g1, hg1, _, x0, x1, x2, x3, x4, x5, x6, x7, x8⟩, g2, hg2, _, y0, y1, y2, y3, y4, y5, y6, y7, y8⟩ := HXM.out w3 hh
              obtain rfl : g = g1 := by injection hg1 with hg1; injection hg1
              obtain rfl : g = g2 := by injection hg2 with hg2; injection hg2
              exact .run rfl (.agg #[.int .i64 x.m.c, .int .i64 x.m.h, .int .i64 x.m.t, .int .i64 x.m.i, .int .i64 x.m.p]) w3 (by simp [execOp, go_sem, Act.eval, *]) (Below.refl _ _) rfl
            · simp only [List.getElem?_toArray, List.getElem?_cons_succ, List.getElem?_cons_zero, Option.some.injEq] at ho
              subst ho
              refine ⟨rfl, ?_⟩
              have e7 : A_.tmps[7]?.getD undef = .slice (some ⟨g, 0, none⟩) gt.length d := by rw [hI.low 7 (by decide)]; rfl
              clear hI hdep
              exact .run rfl (.slice (some ⟨g, 0, none⟩) gt.length d) w3 (by simp [execOp, go_sem, Act.eval, e7]) (Below.refl _ _) rfl
            · simp only [List.getElem?_toArray, List.getElem?_cons_succ, List.getElem?_cons_zero, Option.some.injEq] at ho
              subst ho
              refine ⟨rfl, ?_⟩
              have e12 : A_.tmps[12]?.getD undef = .int .i64 ((i : Int) + 1) := by rw [hI.low 12 (by decide)]; rfl
              clear hI hdep
              exact .run rfl (.int .i64 ((i : Int) + 1)) w3 (by simp [execOp, go_sem, Act.eval, e12]) (Below.refl _ _) rfl
            · simp only [List.getElem?_toArray, List.getElem?_cons_succ, List.getElem?_cons_zero, Option.some.injEq] at ho
              subst ho
              refine ⟨rfl, ?_⟩
              have e68 : A_.tmps[68]?.getD undef = .slice (some ⟨g, 0, none⟩) gt.length d := getD_of (hI.val_ (i := 6) rfl rfl (by decide) (hdep ⟨6, .data⟩ (by simp) rfl))
              have e69 : A_.tmps[69]?.getD undef = .int .i64 ((i : Int) + 1) := getD_of (hI.val_ (i := 7) rfl rfl (by decide) (hdep ⟨7, .data⟩ (by simp) rfl))
              clear hI hdep
              have h8 : (i : Int) + 1 < (gt.length : Int) := by omega
              exact .run rfl (.pointer (some ⟨g, (i + 1) * 9, none⟩)) w3 (by simp [execOp, go_sem, Act.eval, e68, e69, h8]; omega) (Below.refl _ _) rfl
            · simp only [List.getElem?_toArray, List.getElem?_cons_succ, List.getElem?_cons_zero, Option.some.injEq] at ho
              subst ho
              refine ⟨rfl, ?_⟩
              have e70 : A_.tmps[70]?.getD undef = .pointer (some ⟨g, (i + 1) * 9, none⟩) := getD_of (hI.val_ (i := 8) rfl rfl (by decide) (hdep ⟨8, .data⟩ (by simp) rfl))
              clear hI hdep
              exact .run rfl (.pointer (some ⟨g, (i + 1) * 9, none⟩)) w3 (by simp [execOp, go_sem, Act.eval, e70]) (Below.refl _ _) rfl
            · simp only [List.getElem?_toArray, List.getElem?_cons_succ, List.getElem?_cons_zero, Option.some.injEq] at ho
              subst ho
              refine ⟨rfl, ?_⟩
              have e71 : A_.tmps[71]?.getD undef = .pointer (some ⟨g, (i + 1) * 9, none⟩) := getD_of (hI.val_ (i := 9) rfl rfl (by decide) (hdep ⟨9, .data⟩ (by simp) rfl))
              clear hI hdep
              obtain ⟨⟨g1, hg1, _, x0, x1, x2, x3, x4, x5, x6, x7, x8⟩, g2, hg2, _, y0, y1, y2, y3, y4, y5, y6, y7, y8⟩ := HXM.out w3 hh
              obtain rfl : g = g1 := by injection hg1 with hg1; injection hg1
              obtain rfl : g = g2 := by injection hg2 with hg2; injection hg2
              exact .run rfl (.agg #[.int .i64 y.m.c, .int .i64 y.m.h, .int .i64 y.m.t, .int .i64 y.m.i, .int .i64 y.m.p]) w3 (by simp [execOp, go_sem, Act.eval, *]) (Below.refl _ _) rfl
            · simp only [List.getElem?_toArray, List.getElem?_cons_succ, List.getElem?_cons_zero, Option.some.injEq] at ho
              subst ho
              refine ⟨rfl, ?_⟩
              have e67 : A_.tmps[67]?.getD undef = .agg #[.int .i64 x.m.c, .int .i64 x.m.h, .int .i64 x.m.t, .int .i64 x.m.i, .int .i64 x.m.p] := getD_of (hI.val_ (i := 5) rfl rfl (by decide) (hdep ⟨5, .data⟩ (by simp) rfl))
              have e72 : A_.tmps[72]?.getD undef = .agg #[.int .i64 y.m.c, .int .i64 y.m.h, .int .i64 y.m.t, .int .i64 y.m.i, .int .i64 y.m.p] := getD_of (hI.val_ (i := 10) rfl rfl (by decide) (hdep ⟨10, .data⟩ (by simp) rfl))
              clear hI hdep
              exact .call rfl 25 #[.agg #[.int .i64 x.m.c, .int .i64 x.m.h, .int .i64 x.m.t, .int .i64 x.m.i, .int .i64 x.m.p], .agg #[.int .i64 y.m.c, .int .i64 y.m.h, .int .i64 y.m.t, .int .i64 y.m.i, .int .i64 y.m.p]] (by simp [go_sem, Act.eval, e67, e72]) ((HCP.out w3).mono fun _ _ ⟨h1_, h2_⟩ => ⟨⟨_, h1_, rfl⟩, h2_⟩)
            · simp only [List.getElem?_toArray, List.getElem?_cons_succ, List.getElem?_cons_zero, Option.some.injEq] at ho
              subst ho
              refine ⟨rfl, ?_⟩
              have e73 : A_.tmps[73]?.getD undef = .int .i64 q := getD_of (hI.val_ (i := 11) rfl rfl (by decide) (hdep ⟨11, .data⟩ (by simp) rfl))
              clear hI hdep
              exact .run rfl (.bool false) w3 (by simp [execOp, go_sem, Act.eval, *]) (Below.refl _ _) rfl
          case fin =>
          intro A_ w3 hs hd hlow hS hok
          obtain rfl : A_ = ⟨#[.slice a0 len0 cap0, .slice a1 len1 cap1, undef, undef, u4, .slice B gt.length r, .slice A 0 c, .slice (some ⟨g, 0, none⟩) gt.length d, .int .i64 (k : Int), u9, u10, u11, .int .i64 ((i : Int) + 1), .slice a0 len0 cap0, .slice B gt.length r, .slice (some ⟨v1.heap.size, 0, none⟩) 0 0, .slice B gt.length r, .slice B2 gt.length c2, .slice A 0 c, .int .i64 0, .bool false, u21, u22, u23, u24, u25, u26, u27, u28, u29, u30, u31, u32, u33, u34, u35, u36, u37, u38, u39, u40, u41, u42, u43, u44, u45, u46, u47, u48, u49, u50, u51, u52, u53, u54, u55, .int .i64 ((i : Int) + 1), .slice (some ⟨g, 0, none⟩) gt.length d, .int .i64 (gt.length : Int), .bool (decide ((i : Int) + 1 < (gt.length : Int))), u60, u61, .slice (some ⟨g, 0, none⟩) gt.length d, .int .i64 ((i : Int) + 1), .int .i64 (i : Int), .pointer (some ⟨g, i * 9, none⟩), .pointer (some ⟨g, i * 9, none⟩), .agg #[.int .i64 x.m.c, .int .i64 x.m.h, .int .i64 x.m.t, .int .i64 x.m.i, .int .i64 x.m.p], .slice (some ⟨g, 0, none⟩) gt.length d, .int .i64 ((i : Int) + 1), .pointer (some ⟨g, (i + 1) * 9, none⟩), .pointer (some ⟨g, (i + 1) * 9, none⟩), .agg #[.int .i64 y.m.c, .int .i64 y.m.h, .int .i64 y.m.t, .int .i64 y.m.i, .int .i64 y.m.p], .int .i64 q, .bool false, undef, undef, undef, undef, undef, undef], []⟩ := act_ext hd hs (fun j hj => match j, hj with | 0, _ => (hlow 0 (by decide)).trans rfl | 1, _ => (hlow 1 (by decide)).trans rfl | 2, _ => (hlow 2 (by decide)).trans rfl | 3, _ => (hlow 3 (by decide)).trans rfl | 4, _ => (hlow 4 (by decide)).trans rfl | 5, _ => (hlow 5 (by decide)).trans rfl | 6, _ => (hlow 6 (by decide)).trans rfl | 7, _ => (hlow 7 (by decide)).trans rfl | 8, _ => (hlow 8 (by decide)).trans rfl | 9, _ => (hlow 9 (by decide)).trans rfl | 10, _ => (hlow 10 (by decide)).trans rfl | 11, _ => (hlow 11 (by decide)).trans rfl | 12, _ => (hlow 12 (by decide)).trans rfl | 13, _ => (hlow 13 (by decide)).trans rfl | 14, _ => (hlow 14 (by decide)).trans rfl | 15, _ => (hlow 15 (by decide)).trans rfl | 16, _ => (hlow 16 (by decide)).trans rfl | 17, _ => (hlow 17 (by decide)).trans rfl | 18, _ => (hlow 18 (by decide)).trans rfl | 19, _ => (hlow 19 (by decide)).trans rfl | 20, _ => (hlow 20 (by decide)).trans rfl | 21, _ => (hlow 21 (by decide)).trans rfl | 22, _ => (hlow 22 (by decide)).trans rfl | 23, _ => (hlow 23 (by decide)).trans rfl | 24, _ => (hlow 24 (by decide)).trans rfl | 25, _ => (hlow 25 (by decide)).trans rfl | 26, _ => (hlow 26 (by decide)).trans rfl | 27, _ => (hlow 27 (by decide)).trans rfl | 28, _ => (hlow 28 (by decide)).trans rfl | 29, _ => (hlow 29 (by decide)).trans rfl | 30, _ => (hlow 30 (by decide)).trans rfl | 31, _ => (hlow 31 (by decide)).trans rfl | 32, _ => (hlow 32 (by decide)).trans rfl | 33, _ => (hlow 33 (by decide)).trans rfl | 34, _ => (hlow 34 (by decide)).trans rfl | 35, _ => (hlow 35 (by decide)).trans rfl | 36, _ => (hlow 36 (by decide)).trans rfl | 37, _ => (hlow 37 (by decide)).trans rfl | 38, _ => (hlow 38 (by decide)).trans rfl | 39, _ => (hlow 39 (by decide)).trans rfl | 40, _ => (hlow 40 (by decide)).trans rfl | 41, _ => (hlow 41 (by decide)).trans rfl | 42, _ => (hlow 42 (by decide)).trans rfl | 43, _ => (hlow 43 (by decide)).trans rfl | 44, _ => (hlow 44 (by decide)).trans rfl | 45, _ => (hlow 45 (by decide)).trans rfl | 46, _ => (hlow 46 (by decide)).trans rfl | 47, _ => (hlow 47 (by decide)).trans rfl | 48, _ => (hlow 48 (by decide)).trans rfl | 49, _ => (hlow 49 (by decide)).trans rfl | 50, _ => (hlow 50 (by decide)).trans rfl | 51, _ => (hlow 51 (by decide)).trans rfl | 52, _ => (hlow 52 (by decide)).trans rfl | 53, _ => (hlow 53 (by decide)).trans rfl | 54, _ => (hlow 54 (by decide)).trans rfl | 55, _ => (hlow 55 (by decide)).trans rfl | 56, _ => (hlow 56 (by decide)).trans rfl | 57, _ => (hlow 57 (by decide)).trans rfl | 58, _ => (hlow 58 (by decide)).trans rfl | 59, _ => (hlow 59 (by decide)).trans rfl | 60, _ => (hlow 60 (by decide)).trans rfl | 61, _ => (hlow 61 (by decide)).trans rfl | 62, _ => RgX.val_at (hok 0 62 _ (by decide) rfl rfl) | 63, _ => RgX.val_at (hok 1 63 _ (by decide) rfl rfl) | 64, _ => RgX.val_at (hok 2 64 _ (by decide) rfl rfl) | 65, _ => RgX.val_at (hok 3 65 _ (by decide) rfl rfl) | 66, _ => RgX.val_at (hok 4 66 _ (by decide) rfl rfl) | 67, _ => RgX.val_at (hok 5 67 _ (by decide) rfl rfl) | 68, _ => RgX.val_at (hok 6 68 _ (by decide) rfl rfl) | 69, _ => RgX.val_at (hok 7 69 _ (by decide) rfl rfl) | 70, _ => RgX.val_at (hok 8 70 _ (by decide) rfl rfl) | 71, _ => RgX.val_at (hok 9 71 _ (by decide) rfl rfl) | 72, _ => RgX.val_at (hok 10 72 _ (by decide) rfl rfl) | 73, _ => RgX.val_at (hok 11 73 _ (by decide) rfl rfl) | 74, _ => RgX.val_at (hok 12 74 _ (by decide) rfl rfl) | 75, _ => (hlow 75 (by decide)).trans rfl | 76, _ => (hlow 76 (by decide)).trans rfl | 77, _ => (hlow 77 (by decide)).trans rfl | 78, _ => (hlow 78 (by decide)).trans rfl | 79, _ => (hlow 79 (by decide)).trans rfl | 80, _ => (hlow 80 (by decide)).trans rfl | n + 81, h => absurd h (by show ¬ n + 81 < 81; omega))
          clear hs hd hlow hok 
          obtain ⟨vv, hvv⟩ : ∃ V, V = w3 := ⟨_, rfl⟩
          rw [← hvv] at hS ⊢
          have hb := hS
          replace HE := Lib.hid (HE.out.keep hb)
          replace HG := Lib.hid (HG.out.keep hb)
          replace HB := Lib.hid (HB.out.trans (hb.mono HB.out.size))
          clear hb hS hvv
          go_wp2_with fail
          go_roundw
          case rel => exact ⟨i + 1 + 1, by omega, by omega, by go_num, HG, HE, HB⟩
          case measure => simp [intOf]; omega
        · have d3 : decide (j < gt.length) = false := decide_eq_false hjn
          go_wp2_with (first
            | (go_at_call 15; (with_reducible refine (sameEn_true _ HG.out HE.out (by omega)).mono ?_); rintro e v8 ⟨rfl, hb⟩; replace HB := Lib.hid (HB.out.trans (hb.mono HB.out.size)); clear hb)
            | (go_at_call 24; (with_reducible refine (lives_any _).mono ?_); rintro e v9 ⟨rfl, hb⟩; replace HB := Lib.hid (HB.out.trans (hb.mono HB.out.size)); clear hb))
          go_ret
          exact ⟨rfl, HB.out⟩
end Go.Proofs.Ytepbppckhfiplaa.LawNetworkOrder
