/-
  The walk of DiskCrash. No condition.
-/
import Derived.Test.YtgdefhlcgmibcaaDkQ
import Derived.Test.YtgdefhlcgmibcaaRgE
import Derived.BigQuiet
namespace Go.Proofs.Ytgdefhlcgmibcaa.LawDiskCrash
open Go Go.RowKit Go.Proofs Go.Proofs.Ytgdefhlcgmibcaa
attribute [local go_sem] Oper.semAt_some
attribute [local go_sem] dk_field0

theorem crash_all {d : DK.Dk} (hd : DK.Ok d) : (DK.crash d [true, true, true, true, true]).cells = DK.view d := by
  show DK.app _ _ = DK.app _ _
  rw [show [true, true, true, true, true] = List.replicate 5 true from rfl, DK.kept_all 5 d.pend (by have := hd.pend; omega)]
theorem crash_nil (d : DK.Dk) : (DK.crash d []).cells = d.cells := by
  show DK.app _ _ = _
  rw [DK.kept_none]
  rfl
theorem bls_of_lies {w : World} {B : Option Addr} {m c : Nat} {bs : List Bool} (hl : bs.length = m) (h : RgX.Lies 4 w B m c (DK.blsC bs)) : Bls 0 w B m c bs := by
  obtain ⟨h1, h2, h3⟩ := h
  refine ⟨by rw [DK.blsC_len]; omega, h1, h2, ?_⟩
  rcases h3 with ⟨e, _, hc, _⟩ | ⟨g, C, e, hg, hc⟩
  · exact .inl ⟨e, hc⟩
  · exact .inr ⟨g, 0, C, e, Nat.zero_le _, hg, fun j u hu => by rw [Nat.zero_add]; exact hc j u hu⟩
/-- Whether cell i is explained by what it held, or by one of the first k writes. -/
def expl (pend : List DK.Wr) (i cc dc : Int) (k : Nat) : Bool := (cc == dc) || (pend.take k).any fun x => x.1 == i && x.2 == cc
theorem expl_step {pend : List DK.Wr} {i cc dc a v : Int} {k : Nat} (h : pend[k]? = some (a, v)) : expl pend i cc dc (k + 1) = (expl pend i cc dc k || (a == i && v == cc)) := by
  unfold expl
  rw [List.take_add_one, h, List.any_append, Bool.or_assoc]
  simp
theorem expl_all {d : DK.Dk} {bs : List Bool} {i : Nat} {cc dc : Int} (hc : (DK.crash d bs).cells[i]? = some cc) (hd : d.cells[i]? = some dc) : expl d.pend (i : Int) cc dc d.pend.length = true := by
  unfold expl
  rw [List.take_of_length_le (Nat.le_refl _), Bool.or_eq_true]
  rcases DK.app_why (DK.kept bs d.pend) d.cells i with h | ⟨x, hx, h1, h2⟩
  · left
    have h3 : (DK.crash d bs).cells[i]? = d.cells[i]? := h
    rw [hc, hd] at h3
    injection h3 with h3
    simp [h3]
  · right
    have h3 : (DK.crash d bs).cells[i]? = some x.2 := h2
    rw [hc] at h3
    injection h3 with h3
    rw [List.any_eq_true]
    exact ⟨x, DK.kept_sub _ _ x hx, by simp [h1, h3]⟩
set_option maxHeartbeats 8000000 in
set_option maxRecDepth 100000 in
theorem walk (a0 : Int) (a1 : Option Addr) (len1 cap1 : Nat) (z1 : List Int) (a2 : Option Addr) (len2 cap2 : Nat) (B2 : Nat → Bool) (w : World) (w0 : (Lit.int .i64 a0).wf = true) (w1 : Row .i64 w a1 len1 cap1 z1) (w2 : BRow w a2 len2 cap2 B2) :
    Calls Try.prog 6 #[.int .i64 a0, .slice a1 len1 cap1, .slice a2 len2 cap2] w fun e w' => e = .returned (.bool true) ∧ Below w.heap.size w w' := by
  obtain ⟨d, HBU, hok⟩ := built_got cap1 w w0 w1
  obtain ⟨hlc, hcm⟩ := w2.le
  have HBR := Lib.hid w2
  clear w0 w1 w2
  have HD := Lib.hid hok
  have hn16 : d.cells.length ≤ 16 := hok.size
  have hm4 : d.pend.length ≤ 4 := hok.pend
  clear hok
  obtain ⟨i1, hi1, hy0, hy1, hy2⟩ := dk_info dk_bool
  have HJ1 := Lib.hid (And.intro hi1 (And.intro hy0 (And.intro hy1 hy2)))
  clear hi1 hy0 hy1 hy2
  obtain ⟨m, hm⟩ : ∃ m, min len2 8 = m := ⟨_, rfl⟩
  have hm1 : m ≤ len2 := by omega
  have hm8 : m ≤ 8 := by omega
  have hmn : (if 8 < (len2 : Int) then (8 : Int) else (len2 : Int)) = (m : Int) := by split <;> omega
  have hmc : m ≤ cap2 := by omega
  clear hm
  go_enter Try.func6, Try.ntmps6
  go_upto_region 2 with (first | (go_at_call 22; refine HBU.out.mono ?_; rintro e w2 ⟨⟨y, rfl, A2, n2, c2, P2, m2, q2, rfl, j1, j2⟩, hb2⟩; have HJ := Lib.hid (And.intro (show DkAt 0 w2 (.agg #[.slice A2 n2 c2, .slice P2 m2 q2]) d from ⟨A2, n2, c2, P2, m2, q2, rfl, j1.more (Nat.zero_le _), j2.more (Nat.zero_le _)⟩) (And.intro hb2 (And.intro j1.len j2.len))); clear j1 j2 hb2) | (refine dk_store rfl _ _ rfl w2.heap.size A2 n2 c2 P2 m2 q2 _ _ rfl rfl (dk_new_at rfl) ?_; intro v3 k3 ho3 hz3 hb3))
  obtain ⟨rfl, rfl⟩ := HJ.out.2.2
  have H3 := Lib.hid (And.intro k3 (And.intro (HJ.out.1.keep ((dk_box w2 _).trans hb3)) (HJ.out.2.1.trans (((dk_box w2 _).trans hb3).mono HJ.out.2.1.size))))
  have HK3 := Lib.hid (fun (V : World) (hV : Below v3.heap.size v3 V) => dk_two ((hV.block _ (blk_lt H3.out.1)).trans H3.out.1))
  clear k3 ho3 hz3 hb3 HBU
  obtain ⟨U, hU⟩ : ∃ U, v3.alloc (.cells #[.bool true, .bool true, .bool true, .bool true, .bool true] 4) = U := ⟨_, rfl⟩
  have H5 := Lib.hid (show Below v3.heap.size v3 U from hU ▸ dk_box v3 _)
  have HAL := Lib.hid (show Bls 0 U (some ⟨v3.heap.size, 0, none⟩) 5 5 [true, true, true, true, true] by rw [← hU]; exact Rw.more (new_bools (n := 5) v3 [true, true, true, true, true] rfl (by omega)) (Nat.zero_le _))
  go_upto_region 3 with fail
  clear hU
  refine RgX.region 17 (fun i => ( 17 + i)) (fun ix_ => match ix_ with | 0 => .v (.agg #[.slice A2 d.cells.length c2, .slice P2 d.pend.length q2]) | 1 => .v (.slice (some ⟨v3.heap.size, 0, none⟩) 5 5) | 2 => .dk 0 (DK.crash d [true, true, true, true, true]) d.cells.length 0 | 3 => .ints 0 (DK.crash d [true, true, true, true, true]).cells d.cells.length | 4 => .v (.agg #[.slice A2 d.cells.length c2, .slice P2 d.pend.length q2]) | 5 => .ints 0 (DK.view d) (DK.view d).length | 6 => .v (.bool true) | 7 => .v (.bool false) | 8 => .v (.bool false) | 9 => .v (.agg #[.slice A2 d.cells.length c2, .slice P2 d.pend.length q2]) | 10 => .dk 0 (DK.crash d []) d.cells.length 0 | 11 => .ints 0 (DK.crash d []).cells d.cells.length | 12 => .v (.pointer (some ⟨w2.heap.size, 0, none⟩)) | 13 => .v (.slice A2 d.cells.length c2) | 14 => .v (.bool true) | 15 => .v (.bool false) | 16 => .v (.bool false) | _ => .any) (by kernel_rfl) rfl (by kernel_rfl)  (fun i hi => by show ( 17 + i) < 109; (repeat' split) <;> omega) (fun i j hi hj => by show ( 17 + i) = ( 17 + j) → i = j; (repeat' split) <;> omega) ?step ?fin
  case step =>
    intro L_ A_ w3 ix op_ hI ho hdep
    have hi : ix < 17 := (Array.getElem?_eq_some_iff.1 ho).1
    have hcase : ix = 0 ∨ ix = 1 ∨ ix = 2 ∨ ix = 3 ∨ ix = 4 ∨ ix = 5 ∨ ix = 6 ∨ ix = 7 ∨ ix = 8 ∨ ix = 9 ∨ ix = 10 ∨ ix = 11 ∨ ix = 12 ∨ ix = 13 ∨ ix = 14 ∨ ix = 15 ∨ ix = 16 := by omega
    have hh := hI.held
    clear hi
    rcases hcase with rfl | rfl | rfl | rfl | rfl | rfl | rfl | rfl | rfl | rfl | rfl | rfl | rfl | rfl | rfl | rfl | rfl
    · simp only [List.getElem?_toArray, List.getElem?_cons_zero, Option.some.injEq] at ho
      subst ho
      refine ⟨rfl, ?_⟩
      have e7 : A_.tmps[7]?.getD undef = .pointer (some ⟨w2.heap.size, 0, none⟩) := by rw [hI.low 7 (by decide)]; rfl
      clear hI hdep
      obtain ⟨d0, d1⟩ := HK3.out w3 (H5.out.trans (hh.mono H5.out.size))
      exact .run rfl (.agg #[.slice A2 d.cells.length c2, .slice P2 d.pend.length q2]) w3 (by simp [execOp, go_sem, Act.eval, *]) (Below.refl _ _) rfl
    · simp only [List.getElem?_toArray, List.getElem?_cons_succ, List.getElem?_cons_zero, Option.some.injEq] at ho
      subst ho
      refine ⟨rfl, ?_⟩
      have e8 : A_.tmps[8]?.getD undef = .slice (some ⟨v3.heap.size, 0, none⟩) 5 5 := by rw [hI.low 8 (by decide)]; rfl
      clear hI hdep
      exact .run rfl (.slice (some ⟨v3.heap.size, 0, none⟩) 5 5) w3 (by simp [execOp, go_sem, Act.eval, e8]) (Below.refl _ _) rfl
    · simp only [List.getElem?_toArray, List.getElem?_cons_succ, List.getElem?_cons_zero, Option.some.injEq] at ho
      subst ho
      refine ⟨rfl, ?_⟩
      have e17 : A_.tmps[17]?.getD undef = .agg #[.slice A2 d.cells.length c2, .slice P2 d.pend.length q2] := getD_of (hI.val_ (i := 0) rfl rfl (by decide) (hdep ⟨0, .data⟩ (by simp) rfl))
      have e18 : A_.tmps[18]?.getD undef = .slice (some ⟨v3.heap.size, 0, none⟩) 5 5 := getD_of (hI.val_ (i := 1) rfl rfl (by decide) (hdep ⟨1, .data⟩ (by simp) rfl))
      clear hI hdep
      exact .call rfl 25 #[.agg #[.slice A2 d.cells.length c2, .slice P2 d.pend.length q2], .slice (some ⟨v3.heap.size, 0, none⟩) 5 5] (by simp [go_sem, Act.eval, e17, e18]) (RgX.dk_calls_lo (Nat.zero_le _) (DK.app_len _ _) rfl (crash_any w3 (H3.out.2.1.keep (H5.out.trans (hh.mono H5.out.size))) (HAL.out.keep hh) (by omega) (by omega) (by omega)))
    · simp only [List.getElem?_toArray, List.getElem?_cons_succ, List.getElem?_cons_zero, Option.some.injEq] at ho
      subst ho
      refine ⟨rfl, ?_⟩
      obtain ⟨_, e19, A19, c19, P19, q19, rfl, h19, k19⟩ := hI.get_ (i := 2) (j := 19) rfl rfl (by decide) (hdep ⟨2, .data⟩ (by simp) rfl)
      clear hI hdep
      exact .run rfl (.slice A19 d.cells.length c19) w3 (by simp [execOp, go_sem, Act.eval, e19]) (Below.refl _ _) ⟨_, _, rfl, h19⟩
    · simp only [List.getElem?_toArray, List.getElem?_cons_succ, List.getElem?_cons_zero, Option.some.injEq] at ho
      subst ho
      refine ⟨rfl, ?_⟩
      have e7 : A_.tmps[7]?.getD undef = .pointer (some ⟨w2.heap.size, 0, none⟩) := by rw [hI.low 7 (by decide)]; rfl
      clear hI hdep
      obtain ⟨d0, d1⟩ := HK3.out w3 (H5.out.trans (hh.mono H5.out.size))
      exact .run rfl (.agg #[.slice A2 d.cells.length c2, .slice P2 d.pend.length q2]) w3 (by simp [execOp, go_sem, Act.eval, *]) (Below.refl _ _) rfl
    · simp only [List.getElem?_toArray, List.getElem?_cons_succ, List.getElem?_cons_zero, Option.some.injEq] at ho
      subst ho
      refine ⟨rfl, ?_⟩
      have e21 : A_.tmps[21]?.getD undef = .agg #[.slice A2 d.cells.length c2, .slice P2 d.pend.length q2] := getD_of (hI.val_ (i := 4) rfl rfl (by decide) (hdep ⟨4, .data⟩ (by simp) rfl))
      clear hI hdep
      exact .call rfl 19 #[.agg #[.slice A2 d.cells.length c2, .slice P2 d.pend.length q2]] (by simp [go_sem, Act.eval, e21]) (view_sp w3 (H3.out.2.1.keep (H5.out.trans (hh.mono H5.out.size))) HD.out)
    · simp only [List.getElem?_toArray, List.getElem?_cons_succ, List.getElem?_cons_zero, Option.some.injEq] at ho
      subst ho
      refine ⟨rfl, ?_⟩
      obtain ⟨_, e20, B20, r20, rfl, h20⟩ := hI.get_ (i := 3) (j := 20) rfl rfl (by decide) (hdep ⟨3, .data⟩ (by simp) rfl)
      obtain ⟨_, e22, B22, r22, rfl, h22⟩ := hI.get_ (i := 5) (j := 22) rfl rfl (by decide) (hdep ⟨5, .data⟩ (by simp) rfl)
      clear hI hdep
      exact .call rfl 18 #[.slice B20 d.cells.length r20, .slice B22 (DK.view d).length r22] (by simp [go_sem, Act.eval, e20, e22]) ((sameInts_eq (b := true) w3 h20 h22 (by omega) (by simpa using crash_all HD.out)).mono fun _ _ ⟨h1_, h2_⟩ => ⟨⟨_, h1_, rfl⟩, h2_⟩)
    · simp only [List.getElem?_toArray, List.getElem?_cons_succ, List.getElem?_cons_zero, Option.some.injEq] at ho
      subst ho
      refine ⟨rfl, ?_⟩
      have e23 : A_.tmps[23]?.getD undef = .bool true := getD_of (hI.val_ (i := 6) rfl rfl (by decide) (hdep ⟨6, .data⟩ (by simp) rfl))
      clear hI hdep
      exact .run rfl (.bool false) w3 (by simp [execOp, go_sem, Act.eval, e23]) (Below.refl _ _) rfl
    · simp only [List.getElem?_toArray, List.getElem?_cons_succ, List.getElem?_cons_zero, Option.some.injEq] at ho
      subst ho
      refine ⟨rfl, ?_⟩
      have e24 : A_.tmps[24]?.getD undef = .bool false := getD_of (hI.val_ (i := 7) rfl rfl (by decide) (hdep ⟨7, .data⟩ (by simp) rfl))
      clear hI hdep
      exact .run rfl (.bool false) w3 (by simp [execOp, go_sem, Act.eval, e24]) (Below.refl _ _) rfl
    · simp only [List.getElem?_toArray, List.getElem?_cons_succ, List.getElem?_cons_zero, Option.some.injEq] at ho
      subst ho
      refine ⟨rfl, ?_⟩
      have q25 : A_.tmps[25]? = some (.bool false) := hI.val_ (i := 8) rfl rfl (by decide) (hdep ⟨8, .guard⟩ (by simp) rfl)
      have e7 : A_.tmps[7]?.getD undef = .pointer (some ⟨w2.heap.size, 0, none⟩) := by rw [hI.low 7 (by decide)]; rfl
      clear hI hdep
      obtain ⟨d0, d1⟩ := HK3.out w3 (H5.out.trans (hh.mono H5.out.size))
      exact .run ((wanted_some rfl rfl q25).trans rfl) (.agg #[.slice A2 d.cells.length c2, .slice P2 d.pend.length q2]) w3 (by simp [execOp, go_sem, Act.eval, *]) (Below.refl _ _) rfl
    · simp only [List.getElem?_toArray, List.getElem?_cons_succ, List.getElem?_cons_zero, Option.some.injEq] at ho
      subst ho
      refine ⟨rfl, ?_⟩
      have q25 : A_.tmps[25]? = some (.bool false) := hI.val_ (i := 8) rfl rfl (by decide) (hdep ⟨8, .guard⟩ (by simp) rfl)
      have e26 : A_.tmps[26]?.getD undef = .agg #[.slice A2 d.cells.length c2, .slice P2 d.pend.length q2] := getD_of (hI.val_ (i := 9) rfl rfl (by decide) (hdep ⟨9, .data⟩ (by simp) rfl))
      clear hI hdep
      exact .call ((wanted_some rfl rfl q25).trans rfl) 25 #[.agg #[.slice A2 d.cells.length c2, .slice P2 d.pend.length q2], .slice none 0 0] (by simp [go_sem, Act.eval, e26]) (RgX.dk_calls_lo (Nat.zero_le _) (DK.app_len _ _) rfl (crash_any w3 (H3.out.2.1.keep (H5.out.trans (hh.mono H5.out.size))) (Rw.nil 4 1 0 w3 : Bls 0 w3 none 0 0 []) (by omega) (by omega) (by omega)))
    · simp only [List.getElem?_toArray, List.getElem?_cons_succ, List.getElem?_cons_zero, Option.some.injEq] at ho
      subst ho
      refine ⟨rfl, ?_⟩
      have q25 : A_.tmps[25]? = some (.bool false) := hI.val_ (i := 8) rfl rfl (by decide) (hdep ⟨8, .guard⟩ (by simp) rfl)
      obtain ⟨_, e27, A27, c27, P27, q27, rfl, h27, k27⟩ := hI.get_ (i := 10) (j := 27) rfl rfl (by decide) (hdep ⟨10, .data⟩ (by simp) rfl)
      clear hI hdep
      exact .run ((wanted_some rfl rfl q25).trans rfl) (.slice A27 d.cells.length c27) w3 (by simp [execOp, go_sem, Act.eval, e27]) (Below.refl _ _) ⟨_, _, rfl, h27⟩
    · simp only [List.getElem?_toArray, List.getElem?_cons_succ, List.getElem?_cons_zero, Option.some.injEq] at ho
      subst ho
      refine ⟨rfl, ?_⟩
      have q25 : A_.tmps[25]? = some (.bool false) := hI.val_ (i := 8) rfl rfl (by decide) (hdep ⟨8, .guard⟩ (by simp) rfl)
      have e7 : A_.tmps[7]?.getD undef = .pointer (some ⟨w2.heap.size, 0, none⟩) := by rw [hI.low 7 (by decide)]; rfl
      clear hI hdep
      exact .run ((wanted_some rfl rfl q25).trans rfl) (.pointer (some ⟨w2.heap.size, 0, none⟩)) w3 (by simp [execOp, go_sem, Act.eval, e7]) (Below.refl _ _) rfl
    · simp only [List.getElem?_toArray, List.getElem?_cons_succ, List.getElem?_cons_zero, Option.some.injEq] at ho
      subst ho
      refine ⟨rfl, ?_⟩
      have q25 : A_.tmps[25]? = some (.bool false) := hI.val_ (i := 8) rfl rfl (by decide) (hdep ⟨8, .guard⟩ (by simp) rfl)
      have e29 : A_.tmps[29]?.getD undef = .pointer (some ⟨w2.heap.size, 0, none⟩) := getD_of (hI.val_ (i := 12) rfl rfl (by decide) (hdep ⟨12, .data⟩ (by simp) rfl))
      clear hI hdep
      obtain ⟨d0, d1⟩ := HK3.out w3 (H5.out.trans (hh.mono H5.out.size))
      exact .run ((wanted_some rfl rfl q25).trans rfl) (.slice A2 d.cells.length c2) w3 (by simp [execOp, go_sem, Act.eval, *]) (Below.refl _ _) rfl
    · simp only [List.getElem?_toArray, List.getElem?_cons_succ, List.getElem?_cons_zero, Option.some.injEq] at ho
      subst ho
      refine ⟨rfl, ?_⟩
      have q25 : A_.tmps[25]? = some (.bool false) := hI.val_ (i := 8) rfl rfl (by decide) (hdep ⟨8, .guard⟩ (by simp) rfl)
      obtain ⟨_, e28, B28, r28, rfl, h28⟩ := hI.get_ (i := 11) (j := 28) rfl rfl (by decide) (hdep ⟨11, .data⟩ (by simp) rfl)
      have e30 : A_.tmps[30]?.getD undef = .slice A2 d.cells.length c2 := getD_of (hI.val_ (i := 13) rfl rfl (by decide) (hdep ⟨13, .data⟩ (by simp) rfl))
      clear hI hdep
      exact .call ((wanted_some rfl rfl q25).trans rfl) 18 #[.slice B28 d.cells.length r28, .slice A2 d.cells.length c2] (by simp [go_sem, Act.eval, e28, e30]) ((sameInts_eq (b := true) w3 h28 (dk_cells (H3.out.2.1.keep (H5.out.trans (hh.mono H5.out.size)))) (by omega) (by simpa using crash_nil d)).mono fun _ _ ⟨h1_, h2_⟩ => ⟨⟨_, h1_, rfl⟩, h2_⟩)
    · simp only [List.getElem?_toArray, List.getElem?_cons_succ, List.getElem?_cons_zero, Option.some.injEq] at ho
      subst ho
      refine ⟨rfl, ?_⟩
      have q25 : A_.tmps[25]? = some (.bool false) := hI.val_ (i := 8) rfl rfl (by decide) (hdep ⟨8, .guard⟩ (by simp) rfl)
      have e31 : A_.tmps[31]?.getD undef = .bool true := getD_of (hI.val_ (i := 14) rfl rfl (by decide) (hdep ⟨14, .data⟩ (by simp) rfl))
      clear hI hdep
      exact .run ((wanted_some rfl rfl q25).trans rfl) (.bool false) w3 (by simp [execOp, go_sem, Act.eval, e31]) (Below.refl _ _) rfl
    · simp only [List.getElem?_toArray, List.getElem?_cons_succ, List.getElem?_cons_zero, Option.some.injEq] at ho
      subst ho
      refine ⟨rfl, ?_⟩
      have e25 : A_.tmps[25]?.getD undef = .bool false := getD_of (hI.val_ (i := 8) rfl rfl (by decide) (hdep ⟨8, .data⟩ (by simp) rfl))
      have e32 : A_.tmps[32]?.getD undef = .bool false := getD_of (hI.val_ (i := 15) rfl rfl (by decide) (hdep ⟨15, .data⟩ (by simp) rfl))
      clear hI hdep
      exact .run rfl (.bool false) w3 (by simp [execOp, go_sem, Act.eval, e25, e32]) (Below.refl _ _) rfl
  case fin =>
  intro A_ w3 hs hd hlow hS hok
  obtain ⟨_, hy19, A19, c19, P19, q19, rfl, h19, k19⟩ := hok 2 19 _ (by decide) rfl rfl
  obtain ⟨_, hy20, B20, r20, rfl, h20⟩ := hok 3 20 _ (by decide) rfl rfl
  obtain ⟨_, hy22, B22, r22, rfl, h22⟩ := hok 5 22 _ (by decide) rfl rfl
  obtain ⟨_, hy27, A27, c27, P27, q27, rfl, h27, k27⟩ := hok 10 27 _ (by decide) rfl rfl
  obtain ⟨_, hy28, B28, r28, rfl, h28⟩ := hok 11 28 _ (by decide) rfl rfl
  obtain rfl : A_ = ⟨#[.int .i64 a0, .slice a1 len1 cap1, .slice a2 len2 cap2, undef, undef, undef, .bool false, .pointer (some ⟨w2.heap.size, 0, none⟩), .slice (some ⟨v3.heap.size, 0, none⟩) 5 5, undef, undef, undef, undef, .int .i64 a0, .slice a1 len1 cap1, .agg #[.slice A2 d.cells.length c2, .slice P2 d.pend.length q2], .slice (some ⟨v3.heap.size, 0, none⟩) 5 5, .agg #[.slice A2 d.cells.length c2, .slice P2 d.pend.length q2], .slice (some ⟨v3.heap.size, 0, none⟩) 5 5, .agg #[.slice A19 d.cells.length c19, .slice P19 0 q19], .slice B20 d.cells.length r20, .agg #[.slice A2 d.cells.length c2, .slice P2 d.pend.length q2], .slice B22 (DK.view d).length r22, .bool true, .bool false, .bool false, .agg #[.slice A2 d.cells.length c2, .slice P2 d.pend.length q2], .agg #[.slice A27 d.cells.length c27, .slice P27 0 q27], .slice B28 d.cells.length r28, .pointer (some ⟨w2.heap.size, 0, none⟩), .slice A2 d.cells.length c2, .bool true, .bool false, .bool false, undef, undef, undef, undef, undef, undef, undef, undef, undef, undef, undef, undef, undef, undef, undef, undef, undef, undef, undef, undef, undef, undef, undef, undef, undef, undef, undef, undef, undef, undef, undef, undef, undef, undef, undef, undef, undef, undef, undef, undef, undef, undef, undef, undef, undef, undef, undef, undef, undef, undef, undef, undef, undef, undef, undef, undef, undef, undef, undef, undef, undef, undef, undef, undef, undef, undef, undef, undef, undef, undef, undef, undef, undef, undef, undef], []⟩ := act_ext hd hs (fun j hj => match j, hj with | 0, _ => (hlow 0 (by decide)).trans rfl | 1, _ => (hlow 1 (by decide)).trans rfl | 2, _ => (hlow 2 (by decide)).trans rfl | 3, _ => (hlow 3 (by decide)).trans rfl | 4, _ => (hlow 4 (by decide)).trans rfl | 5, _ => (hlow 5 (by decide)).trans rfl | 6, _ => (hlow 6 (by decide)).trans rfl | 7, _ => (hlow 7 (by decide)).trans rfl | 8, _ => (hlow 8 (by decide)).trans rfl | 9, _ => (hlow 9 (by decide)).trans rfl | 10, _ => (hlow 10 (by decide)).trans rfl | 11, _ => (hlow 11 (by decide)).trans rfl | 12, _ => (hlow 12 (by decide)).trans rfl | 13, _ => (hlow 13 (by decide)).trans rfl | 14, _ => (hlow 14 (by decide)).trans rfl | 15, _ => (hlow 15 (by decide)).trans rfl | 16, _ => (hlow 16 (by decide)).trans rfl | 17, _ => RgX.val_at (hok 0 17 _ (by decide) rfl rfl) | 18, _ => RgX.val_at (hok 1 18 _ (by decide) rfl rfl) | 19, _ => hy19 | 20, _ => hy20 | 21, _ => RgX.val_at (hok 4 21 _ (by decide) rfl rfl) | 22, _ => hy22 | 23, _ => RgX.val_at (hok 6 23 _ (by decide) rfl rfl) | 24, _ => RgX.val_at (hok 7 24 _ (by decide) rfl rfl) | 25, _ => RgX.val_at (hok 8 25 _ (by decide) rfl rfl) | 26, _ => RgX.val_at (hok 9 26 _ (by decide) rfl rfl) | 27, _ => hy27 | 28, _ => hy28 | 29, _ => RgX.val_at (hok 12 29 _ (by decide) rfl rfl) | 30, _ => RgX.val_at (hok 13 30 _ (by decide) rfl rfl) | 31, _ => RgX.val_at (hok 14 31 _ (by decide) rfl rfl) | 32, _ => RgX.val_at (hok 15 32 _ (by decide) rfl rfl) | 33, _ => RgX.val_at (hok 16 33 _ (by decide) rfl rfl) | 34, _ => (hlow 34 (by decide)).trans rfl | 35, _ => (hlow 35 (by decide)).trans rfl | 36, _ => (hlow 36 (by decide)).trans rfl | 37, _ => (hlow 37 (by decide)).trans rfl | 38, _ => (hlow 38 (by decide)).trans rfl | 39, _ => (hlow 39 (by decide)).trans rfl | 40, _ => (hlow 40 (by decide)).trans rfl | 41, _ => (hlow 41 (by decide)).trans rfl | 42, _ => (hlow 42 (by decide)).trans rfl | 43, _ => (hlow 43 (by decide)).trans rfl | 44, _ => (hlow 44 (by decide)).trans rfl | 45, _ => (hlow 45 (by decide)).trans rfl | 46, _ => (hlow 46 (by decide)).trans rfl | 47, _ => (hlow 47 (by decide)).trans rfl | 48, _ => (hlow 48 (by decide)).trans rfl | 49, _ => (hlow 49 (by decide)).trans rfl | 50, _ => (hlow 50 (by decide)).trans rfl | 51, _ => (hlow 51 (by decide)).trans rfl | 52, _ => (hlow 52 (by decide)).trans rfl | 53, _ => (hlow 53 (by decide)).trans rfl | 54, _ => (hlow 54 (by decide)).trans rfl | 55, _ => (hlow 55 (by decide)).trans rfl | 56, _ => (hlow 56 (by decide)).trans rfl | 57, _ => (hlow 57 (by decide)).trans rfl | 58, _ => (hlow 58 (by decide)).trans rfl | 59, _ => (hlow 59 (by decide)).trans rfl | 60, _ => (hlow 60 (by decide)).trans rfl | 61, _ => (hlow 61 (by decide)).trans rfl | 62, _ => (hlow 62 (by decide)).trans rfl | 63, _ => (hlow 63 (by decide)).trans rfl | 64, _ => (hlow 64 (by decide)).trans rfl | 65, _ => (hlow 65 (by decide)).trans rfl | 66, _ => (hlow 66 (by decide)).trans rfl | 67, _ => (hlow 67 (by decide)).trans rfl | 68, _ => (hlow 68 (by decide)).trans rfl | 69, _ => (hlow 69 (by decide)).trans rfl | 70, _ => (hlow 70 (by decide)).trans rfl | 71, _ => (hlow 71 (by decide)).trans rfl | 72, _ => (hlow 72 (by decide)).trans rfl | 73, _ => (hlow 73 (by decide)).trans rfl | 74, _ => (hlow 74 (by decide)).trans rfl | 75, _ => (hlow 75 (by decide)).trans rfl | 76, _ => (hlow 76 (by decide)).trans rfl | 77, _ => (hlow 77 (by decide)).trans rfl | 78, _ => (hlow 78 (by decide)).trans rfl | 79, _ => (hlow 79 (by decide)).trans rfl | 80, _ => (hlow 80 (by decide)).trans rfl | 81, _ => (hlow 81 (by decide)).trans rfl | 82, _ => (hlow 82 (by decide)).trans rfl | 83, _ => (hlow 83 (by decide)).trans rfl | 84, _ => (hlow 84 (by decide)).trans rfl | 85, _ => (hlow 85 (by decide)).trans rfl | 86, _ => (hlow 86 (by decide)).trans rfl | 87, _ => (hlow 87 (by decide)).trans rfl | 88, _ => (hlow 88 (by decide)).trans rfl | 89, _ => (hlow 89 (by decide)).trans rfl | 90, _ => (hlow 90 (by decide)).trans rfl | 91, _ => (hlow 91 (by decide)).trans rfl | 92, _ => (hlow 92 (by decide)).trans rfl | 93, _ => (hlow 93 (by decide)).trans rfl | 94, _ => (hlow 94 (by decide)).trans rfl | 95, _ => (hlow 95 (by decide)).trans rfl | 96, _ => (hlow 96 (by decide)).trans rfl | 97, _ => (hlow 97 (by decide)).trans rfl | 98, _ => (hlow 98 (by decide)).trans rfl | 99, _ => (hlow 99 (by decide)).trans rfl | 100, _ => (hlow 100 (by decide)).trans rfl | 101, _ => (hlow 101 (by decide)).trans rfl | 102, _ => (hlow 102 (by decide)).trans rfl | 103, _ => (hlow 103 (by decide)).trans rfl | 104, _ => (hlow 104 (by decide)).trans rfl | 105, _ => (hlow 105 (by decide)).trans rfl | 106, _ => (hlow 106 (by decide)).trans rfl | 107, _ => (hlow 107 (by decide)).trans rfl | 108, _ => (hlow 108 (by decide)).trans rfl | n + 109, h => absurd h (by show ¬ n + 109 < 109; omega))
  clear hs hd hlow hok hy19 hy20 hy22 hy27 hy28
  have H6 := Lib.hid (H5.out.trans (hS.mono H5.out.size))
  clear hS H5 HAL
  go_upto_region 5 with fail
  clear h19 k19 h20 h22 h27 k27 h28
  obtain ⟨v6, hv6⟩ : ∃ W, W = w3 := ⟨_, rfl⟩
  subst hv6
  have hm2 : (0 : Int) ≤ (m : Int) := by omega
  have hm3 : (m : Int) ≤ (cap2 : Int) := by omega
  have H36 := Lib.hid (H3.out.2.2.trans (H6.out.mono H3.out.2.2.size))
  refine RgX.tail 10 (fun i => (if i = 9 then 9 else 34 + i)) (fun ix_ => match ix_ with | 0 => .v (.agg #[.slice A2 d.cells.length c2, .slice P2 d.pend.length q2]) | 1 => .row #[] 4 0 | 2 => .v (.slice a2 len2 cap2) | 3 => .v (.slice a2 len2 cap2) | 4 => .v (.int .i64 (len2 : Int)) | 5 => .v (.int .i64 (m : Int)) | 6 => .v (.slice a2 m cap2) | 7 => .bls 0 ((List.range m).map B2) m | 8 => .dk 0 (DK.crash d ((List.range m).map B2)) d.cells.length 0 | 9 => .boxn (v6.heap.size) #[.slice none 0 0, .slice none 0 0] 26 | _ => .any) _ (by kernel_rfl) rfl rfl (by kernel_rfl) (by kernel_rfl) (fun i hi => by show (if i = 9 then 9 else 34 + i) < 109; (repeat' split) <;> omega) (fun i j hi hj => by show (if i = 9 then 9 else 34 + i) = (if j = 9 then 9 else 34 + j) → i = j; (repeat' split) <;> omega) ?step ?fin
  case step =>
    intro L_ A_ w3 ix op_ hi hI ho hdep
    have hcase : ix = 0 ∨ ix = 1 ∨ ix = 2 ∨ ix = 3 ∨ ix = 4 ∨ ix = 5 ∨ ix = 6 ∨ ix = 7 ∨ ix = 8 ∨ ix = 9 := by omega
    have hh := hI.held
    clear hi
    rcases hcase with rfl | rfl | rfl | rfl | rfl | rfl | rfl | rfl | rfl | rfl
    · simp only [List.getElem?_toArray, List.getElem?_cons_zero, Option.some.injEq] at ho
      subst ho
      refine ⟨rfl, ?_⟩
      have e7 : A_.tmps[7]?.getD undef = .pointer (some ⟨w2.heap.size, 0, none⟩) := by rw [hI.low 7 (by decide)]; rfl
      clear hI hdep
      obtain ⟨d0, d1⟩ := HK3.out w3 (H6.out.trans (hh.mono H6.out.size))
      exact .run rfl (.agg #[.slice A2 d.cells.length c2, .slice P2 d.pend.length q2]) w3 (by simp [execOp, go_sem, Act.eval, *]) (Below.refl _ _) rfl
    · simp only [List.getElem?_toArray, List.getElem?_cons_succ, List.getElem?_cons_zero, Option.some.injEq] at ho
      subst ho
      refine ⟨rfl, ?_⟩
      clear hI hdep
      exact .run rfl (.slice (some ⟨w3.heap.size, 0, none⟩) 0 0) (w3.alloc (.cells #[] 4)) (by simp [execOp, go_sem, Act.eval]) ((Below.refl _ _).alloc (Nat.le_refl _) _) (RgX.row_new _ _ _ _)
    · simp only [List.getElem?_toArray, List.getElem?_cons_succ, List.getElem?_cons_zero, Option.some.injEq] at ho
      subst ho
      refine ⟨rfl, ?_⟩
      have e2 : A_.tmps[2]?.getD undef = .slice a2 len2 cap2 := by rw [hI.low 2 (by decide)]; rfl
      clear hI hdep
      exact .run rfl (.slice a2 len2 cap2) w3 (by simp [execOp, go_sem, Act.eval, e2]) (Below.refl _ _) rfl
    · simp only [List.getElem?_toArray, List.getElem?_cons_succ, List.getElem?_cons_zero, Option.some.injEq] at ho
      subst ho
      refine ⟨rfl, ?_⟩
      have e2 : A_.tmps[2]?.getD undef = .slice a2 len2 cap2 := by rw [hI.low 2 (by decide)]; rfl
      clear hI hdep
      exact .run rfl (.slice a2 len2 cap2) w3 (by simp [execOp, go_sem, Act.eval, e2]) (Below.refl _ _) rfl
    · simp only [List.getElem?_toArray, List.getElem?_cons_succ, List.getElem?_cons_zero, Option.some.injEq] at ho
      subst ho
      refine ⟨rfl, ?_⟩
      have e37 : A_.tmps[37]?.getD undef = .slice a2 len2 cap2 := getD_of (hI.val_ (i := 3) rfl rfl (by decide) (hdep ⟨3, .data⟩ (by simp) rfl))
      clear hI hdep
      exact .run rfl (.int .i64 (len2 : Int)) w3 (by simp [go_sem, Act.eval, e37]) (Below.refl _ _) rfl
    · simp only [List.getElem?_toArray, List.getElem?_cons_succ, List.getElem?_cons_zero, Option.some.injEq] at ho
      subst ho
      refine ⟨rfl, ?_⟩
      have e38 : A_.tmps[38]?.getD undef = .int .i64 (len2 : Int) := getD_of (hI.val_ (i := 4) rfl rfl (by decide) (hdep ⟨4, .data⟩ (by simp) rfl))
      clear hI hdep
      exact .run rfl (.int .i64 (m : Int)) w3 (by simp [go_sem, Act.eval, e38, hmn]) (Below.refl _ _) rfl
    · simp only [List.getElem?_toArray, List.getElem?_cons_succ, List.getElem?_cons_zero, Option.some.injEq] at ho
      subst ho
      refine ⟨rfl, ?_⟩
      have e36 : A_.tmps[36]?.getD undef = .slice a2 len2 cap2 := getD_of (hI.val_ (i := 2) rfl rfl (by decide) (hdep ⟨2, .data⟩ (by simp) rfl))
      have e39 : A_.tmps[39]?.getD undef = .int .i64 (m : Int) := getD_of (hI.val_ (i := 5) rfl rfl (by decide) (hdep ⟨5, .data⟩ (by simp) rfl))
      clear hI hdep
      exact .run rfl (.slice a2 m cap2) w3 (by simp [execOp, go_sem, Act.eval, e36, e39, hm3]) (Below.refl _ _) rfl
    · simp only [List.getElem?_toArray, List.getElem?_cons_succ, List.getElem?_cons_zero, Option.some.injEq] at ho
      subst ho
      refine ⟨rfl, ?_⟩
      obtain ⟨_, e35, g35, rfl, r35⟩ := hI.get_ (i := 1) (j := 35) rfl rfl (by decide) (hdep ⟨1, .data⟩ (by simp) rfl)
      have e40 : A_.tmps[40]?.getD undef = .slice a2 m cap2 := getD_of (hI.val_ (i := 6) rfl rfl (by decide) (hdep ⟨6, .data⟩ (by simp) rfl))
      clear hI hdep
      exact RgX.app_empty_does rfl (.tmp 35) (.tmp 40) 31 rfl 4 i1 _ Try.underlying31 HJ1.out.1 HJ1.out.2.1 g35 (by simpa [Act.eval] using e35) r35 a2 m cap2 (DK.blsC ((List.range m).map B2)) (by simpa [Act.eval] using e40) (by rw [HJ1.out.2.2.1, DK.blsC_len]; simp) (HBR.out.src hm1 (H36.out.trans (hh.mono H36.out.size))) (DK.blsC_one _) (by simp only [maxLen]; omega) (by rw [HJ1.out.2.2.2]; omega) fun B r W4 hl => ⟨B, r, rfl, bls_of_lies (by simp) hl⟩
    · simp only [List.getElem?_toArray, List.getElem?_cons_succ, List.getElem?_cons_zero, Option.some.injEq] at ho
      subst ho
      refine ⟨rfl, ?_⟩
      have e34 : A_.tmps[34]?.getD undef = .agg #[.slice A2 d.cells.length c2, .slice P2 d.pend.length q2] := getD_of (hI.val_ (i := 0) rfl rfl (by decide) (hdep ⟨0, .data⟩ (by simp) rfl))
      obtain ⟨_, e41, B41, r41, rfl, h41⟩ := hI.get_ (i := 7) (j := 41) rfl rfl (by decide) (hdep ⟨7, .data⟩ (by simp) rfl)
      clear hI hdep
      exact .call rfl 25 #[.agg #[.slice A2 d.cells.length c2, .slice P2 d.pend.length q2], .slice B41 m r41] (by simp [go_sem, Act.eval, e34, e41]) (RgX.dk_calls_lo (Nat.zero_le _) (DK.app_len _ _) rfl (crash_any w3 (H3.out.2.1.keep (H6.out.trans (hh.mono H6.out.size))) h41 (by omega) (by omega) (by omega)))
    · simp only [List.getElem?_toArray, List.getElem?_cons_succ, List.getElem?_cons_zero, Option.some.injEq] at ho
      subst ho
      refine ⟨rfl, ?_⟩
      clear hI hdep
      exact .run rfl (.pointer (some ⟨w3.heap.size, 0, none⟩)) (w3.alloc (.cells #[.slice none 0 0, .slice none 0 0] 26)) (by simp [execOp, go_sem]) ((Below.refl _ _).alloc (Nat.le_refl _) _) ⟨_, rfl, heap_alloc_new _ _, hh.size⟩
  case fin =>
  intro A_ w3 hs hd hlow hS hok
  obtain ⟨_, hy9, g9, rfl, r9, l9⟩ := hok 9 9 _ (by decide) rfl rfl
  obtain ⟨_, hy35, g35, rfl, r35⟩ := hok 1 35 _ (by decide) rfl rfl
  obtain ⟨_, hy41, B41, r41, rfl, h41⟩ := hok 7 41 _ (by decide) rfl rfl
  obtain ⟨_, hy42, A42, c42, P42, q42, rfl, h42, k42⟩ := hok 8 42 _ (by decide) rfl rfl
  obtain rfl : A_ = ⟨#[.int .i64 a0, .slice a1 len1 cap1, .slice a2 len2 cap2, undef, undef, undef, .bool false, .pointer (some ⟨w2.heap.size, 0, none⟩), .slice (some ⟨v3.heap.size, 0, none⟩) 5 5, .pointer (some ⟨g9, 0, none⟩), undef, undef, undef, .int .i64 a0, .slice a1 len1 cap1, .agg #[.slice A2 d.cells.length c2, .slice P2 d.pend.length q2], .slice (some ⟨v3.heap.size, 0, none⟩) 5 5, .agg #[.slice A2 d.cells.length c2, .slice P2 d.pend.length q2], .slice (some ⟨v3.heap.size, 0, none⟩) 5 5, .agg #[.slice A19 d.cells.length c19, .slice P19 0 q19], .slice B20 d.cells.length r20, .agg #[.slice A2 d.cells.length c2, .slice P2 d.pend.length q2], .slice B22 (DK.view d).length r22, .bool true, .bool false, .bool false, .agg #[.slice A2 d.cells.length c2, .slice P2 d.pend.length q2], .agg #[.slice A27 d.cells.length c27, .slice P27 0 q27], .slice B28 d.cells.length r28, .pointer (some ⟨w2.heap.size, 0, none⟩), .slice A2 d.cells.length c2, .bool true, .bool false, .bool false, .agg #[.slice A2 d.cells.length c2, .slice P2 d.pend.length q2], .slice (some ⟨g35, 0, none⟩) 0 0, .slice a2 len2 cap2, .slice a2 len2 cap2, .int .i64 (len2 : Int), .int .i64 (m : Int), .slice a2 m cap2, .slice B41 m r41, .agg #[.slice A42 d.cells.length c42, .slice P42 0 q42], undef, undef, undef, undef, undef, undef, undef, undef, undef, undef, undef, undef, undef, undef, undef, undef, undef, undef, undef, undef, undef, undef, undef, undef, undef, undef, undef, undef, undef, undef, undef, undef, undef, undef, undef, undef, undef, undef, undef, undef, undef, undef, undef, undef, undef, undef, undef, undef, undef, undef, undef, undef, undef, undef, undef, undef, undef, undef, undef, undef, undef, undef, undef, undef, undef, undef], []⟩ := act_ext hd hs (fun j hj => match j, hj with | 0, _ => (hlow 0 (by decide)).trans rfl | 1, _ => (hlow 1 (by decide)).trans rfl | 2, _ => (hlow 2 (by decide)).trans rfl | 3, _ => (hlow 3 (by decide)).trans rfl | 4, _ => (hlow 4 (by decide)).trans rfl | 5, _ => (hlow 5 (by decide)).trans rfl | 6, _ => (hlow 6 (by decide)).trans rfl | 7, _ => (hlow 7 (by decide)).trans rfl | 8, _ => (hlow 8 (by decide)).trans rfl | 9, _ => hy9 | 10, _ => (hlow 10 (by decide)).trans rfl | 11, _ => (hlow 11 (by decide)).trans rfl | 12, _ => (hlow 12 (by decide)).trans rfl | 13, _ => (hlow 13 (by decide)).trans rfl | 14, _ => (hlow 14 (by decide)).trans rfl | 15, _ => (hlow 15 (by decide)).trans rfl | 16, _ => (hlow 16 (by decide)).trans rfl | 17, _ => (hlow 17 (by decide)).trans rfl | 18, _ => (hlow 18 (by decide)).trans rfl | 19, _ => (hlow 19 (by decide)).trans rfl | 20, _ => (hlow 20 (by decide)).trans rfl | 21, _ => (hlow 21 (by decide)).trans rfl | 22, _ => (hlow 22 (by decide)).trans rfl | 23, _ => (hlow 23 (by decide)).trans rfl | 24, _ => (hlow 24 (by decide)).trans rfl | 25, _ => (hlow 25 (by decide)).trans rfl | 26, _ => (hlow 26 (by decide)).trans rfl | 27, _ => (hlow 27 (by decide)).trans rfl | 28, _ => (hlow 28 (by decide)).trans rfl | 29, _ => (hlow 29 (by decide)).trans rfl | 30, _ => (hlow 30 (by decide)).trans rfl | 31, _ => (hlow 31 (by decide)).trans rfl | 32, _ => (hlow 32 (by decide)).trans rfl | 33, _ => (hlow 33 (by decide)).trans rfl | 34, _ => RgX.val_at (hok 0 34 _ (by decide) rfl rfl) | 35, _ => hy35 | 36, _ => RgX.val_at (hok 2 36 _ (by decide) rfl rfl) | 37, _ => RgX.val_at (hok 3 37 _ (by decide) rfl rfl) | 38, _ => RgX.val_at (hok 4 38 _ (by decide) rfl rfl) | 39, _ => RgX.val_at (hok 5 39 _ (by decide) rfl rfl) | 40, _ => RgX.val_at (hok 6 40 _ (by decide) rfl rfl) | 41, _ => hy41 | 42, _ => hy42 | 43, _ => (hlow 43 (by decide)).trans rfl | 44, _ => (hlow 44 (by decide)).trans rfl | 45, _ => (hlow 45 (by decide)).trans rfl | 46, _ => (hlow 46 (by decide)).trans rfl | 47, _ => (hlow 47 (by decide)).trans rfl | 48, _ => (hlow 48 (by decide)).trans rfl | 49, _ => (hlow 49 (by decide)).trans rfl | 50, _ => (hlow 50 (by decide)).trans rfl | 51, _ => (hlow 51 (by decide)).trans rfl | 52, _ => (hlow 52 (by decide)).trans rfl | 53, _ => (hlow 53 (by decide)).trans rfl | 54, _ => (hlow 54 (by decide)).trans rfl | 55, _ => (hlow 55 (by decide)).trans rfl | 56, _ => (hlow 56 (by decide)).trans rfl | 57, _ => (hlow 57 (by decide)).trans rfl | 58, _ => (hlow 58 (by decide)).trans rfl | 59, _ => (hlow 59 (by decide)).trans rfl | 60, _ => (hlow 60 (by decide)).trans rfl | 61, _ => (hlow 61 (by decide)).trans rfl | 62, _ => (hlow 62 (by decide)).trans rfl | 63, _ => (hlow 63 (by decide)).trans rfl | 64, _ => (hlow 64 (by decide)).trans rfl | 65, _ => (hlow 65 (by decide)).trans rfl | 66, _ => (hlow 66 (by decide)).trans rfl | 67, _ => (hlow 67 (by decide)).trans rfl | 68, _ => (hlow 68 (by decide)).trans rfl | 69, _ => (hlow 69 (by decide)).trans rfl | 70, _ => (hlow 70 (by decide)).trans rfl | 71, _ => (hlow 71 (by decide)).trans rfl | 72, _ => (hlow 72 (by decide)).trans rfl | 73, _ => (hlow 73 (by decide)).trans rfl | 74, _ => (hlow 74 (by decide)).trans rfl | 75, _ => (hlow 75 (by decide)).trans rfl | 76, _ => (hlow 76 (by decide)).trans rfl | 77, _ => (hlow 77 (by decide)).trans rfl | 78, _ => (hlow 78 (by decide)).trans rfl | 79, _ => (hlow 79 (by decide)).trans rfl | 80, _ => (hlow 80 (by decide)).trans rfl | 81, _ => (hlow 81 (by decide)).trans rfl | 82, _ => (hlow 82 (by decide)).trans rfl | 83, _ => (hlow 83 (by decide)).trans rfl | 84, _ => (hlow 84 (by decide)).trans rfl | 85, _ => (hlow 85 (by decide)).trans rfl | 86, _ => (hlow 86 (by decide)).trans rfl | 87, _ => (hlow 87 (by decide)).trans rfl | 88, _ => (hlow 88 (by decide)).trans rfl | 89, _ => (hlow 89 (by decide)).trans rfl | 90, _ => (hlow 90 (by decide)).trans rfl | 91, _ => (hlow 91 (by decide)).trans rfl | 92, _ => (hlow 92 (by decide)).trans rfl | 93, _ => (hlow 93 (by decide)).trans rfl | 94, _ => (hlow 94 (by decide)).trans rfl | 95, _ => (hlow 95 (by decide)).trans rfl | 96, _ => (hlow 96 (by decide)).trans rfl | 97, _ => (hlow 97 (by decide)).trans rfl | 98, _ => (hlow 98 (by decide)).trans rfl | 99, _ => (hlow 99 (by decide)).trans rfl | 100, _ => (hlow 100 (by decide)).trans rfl | 101, _ => (hlow 101 (by decide)).trans rfl | 102, _ => (hlow 102 (by decide)).trans rfl | 103, _ => (hlow 103 (by decide)).trans rfl | 104, _ => (hlow 104 (by decide)).trans rfl | 105, _ => (hlow 105 (by decide)).trans rfl | 106, _ => (hlow 106 (by decide)).trans rfl | 107, _ => (hlow 107 (by decide)).trans rfl | 108, _ => (hlow 108 (by decide)).trans rfl | n + 109, h => absurd h (by show ¬ n + 109 < 109; omega))
  clear hs hd hlow hok hy9 hy35 hy41 hy42
  refine dk_store rfl _ _ rfl g9 A42 d.cells.length c42 P42 0 q42 _ _ rfl rfl r9 ?_
  intro v7 k7 ho7 hz7 hb7
  obtain ⟨bs, hbs⟩ : ∃ bs, (List.range m).map B2 = bs := ⟨_, rfl⟩
  rw [hbs] at h42 k42
  have hl9 : v6.heap.size ≤ g9 := l9
  have H7 := Lib.hid (And.intro k7 (And.intro (dk_cells (DkAt.keepD (lo := 0) (d := DK.crash d bs) ⟨A42, _, c42, P42, _, q42, rfl, h42, k42⟩ (KeepD.of_store r9 ho7))) (show Below v6.heap.size v6 v7 from hS.trans (hb7.mono hl9))))
  have H37 := Lib.hid (H6.out.trans (H7.out.2.2.mono H6.out.size))
  have HB7 := Lib.hid (H3.out.2.2.trans (H37.out.mono H3.out.2.2.size))
  have HKC := Lib.hid (fun (V : World) (hV : Below v7.heap.size v7 V) => And.intro (dk_two ((hV.block _ (blk_lt H7.out.1)).trans H7.out.1)) (HK3.out V (H37.out.trans (hV.mono H37.out.size))))
  clear k7 ho7 hz7 hb7 h42 k42 r9 hS h41 r35 hbs l9 hl9
  obtain ⟨⟨e0, e1⟩, d0, d1⟩ := HKC.out v7 (Below.refl _ _)
  have hne : ((d.cells.length : Int) != (d.cells.length : Int)) = false := by simp
  go_wp2_with fail
  clear e0 e1 d0 d1 hne
  go_loopw [10] (fun i V => ∃ j : Nat, j ≤ d.cells.length ∧ i = .int .i64 (j : Int) ∧ Hid (Below v7.heap.size v7 V)) (fun i _ => d.cells.length - (intOf i).toNat)
  case atStart => exact ⟨0, by omega, rfl, Below.refl _ _⟩
  case round =>
    obtain ⟨j, hj, rfl, HV⟩ := hrel
    obtain ⟨⟨e0, e1⟩, d0, d1⟩ := HKC.out wr HV.out
    by_cases hin : j < d.cells.length
    · have dj : decide (j < d.cells.length) = true := decide_eq_true hin
      obtain ⟨gc, oc, cc, rfl, _, hgc, hcc, pc⟩ := (H7.out.2.1.keep HV.out).at_ hin
      obtain ⟨gd, od, dc, rfl, _, hgd, hdc, pd⟩ := ((dk_cells H3.out.2.1).keep (H37.out.trans (HV.out.mono H37.out.size))).at_ hin
      have HEX := Lib.hid (expl_all (d := d) (bs := bs) hcc hdc)
      obtain ⟨E0, hE0⟩ : ∃ E0, (cc == dc) = E0 := ⟨_, rfl⟩
      have HE0 := Lib.hid (show expl d.pend (j : Int) cc dc 0 = E0 by unfold expl; rw [hE0]; simp)
      have HPC := Lib.hid (And.intro hgc pc)
      clear hcc hdc hgc hgd
      go_wp2_with (go_quiet (fail))
      obtain ⟨wo, hwo⟩ : ∃ W, W = wr.drewN nq := ⟨_, rfl⟩
      have HBo := Lib.hid (show Below wr.heap.size wr wo from hwo ▸ dk_drewN wr nq)
      rw [← hwo]
      have HVo := Lib.hid (HV.out.trans (HBo.out.mono HV.out.size))
      have HPo := Lib.hid (And.intro (Nat.lt_of_lt_of_le HPC.out.1 HBo.out.size) ((HBo.out.cell (p := ⟨gc, oc + j, none⟩) HPC.out.1).trans HPC.out.2))
      clear hwo hE0 pc pd e0 e1 d0 d1 HPC HBo
      obtain ⟨wz, hwz⟩ : ∃ W, W = wr := ⟨_, rfl⟩
      subst hwz
      go_loopw [11, 12] (fun x i V => ∃ q : Nat, q ≤ d.pend.length ∧ i = .int .i64 (q : Int) ∧ x = .bool (expl d.pend (j : Int) cc dc q) ∧ Hid (Below wo.heap.size wo V)) (fun _ i _ => d.pend.length - (intOf i).toNat)
      case atStart => exact ⟨0, by omega, rfl, by rw [HE0.out], Below.refl _ _⟩
      case round =>
        obtain ⟨q, hq, rfl, rfl, HVi⟩ := hrel
        have HV8 := Lib.hid (HVo.out.trans (HVi.out.mono HVo.out.size))
        obtain ⟨⟨e0, e1⟩, d0, d1⟩ := HKC.out wr HV8.out
        by_cases hqn : q < d.pend.length
        · have dq : decide (q < d.pend.length) = true := decide_eq_true hqn
          obtain ⟨gp, op, a, v, rfl, _, hgp, hp, p0, p1⟩ := ((dk_pend H3.out.2.1).keep (H37.out.trans (HV8.out.mono H37.out.size))).at_ hqn
          have pcc := (HVi.out.cell (p := ⟨gc, oc + j, none⟩) HPo.out.1).trans HPo.out.2
          have HST := Lib.hid (expl_step (i := (j : Int)) (cc := cc) (dc := dc) hp)
          clear hp hgp
          obtain ⟨E1, hE1⟩ : ∃ E1, expl d.pend (j : Int) cc dc q = E1 := ⟨_, rfl⟩
          rw [hE1] at HST ⊢
          clear hE1
          cases E1 with
          | true =>
            have HT := Lib.hid (show expl d.pend (j : Int) cc dc (q + 1) = true by rw [HST.out]; rfl)
            go_wp2_with (go_quiet (fail))
            go_roundw
            case rel => exact ⟨q + 1, by omega, by go_num, by rw [HT.out], HVi.out.trans ((dk_drewN wr _).mono HVi.out.size)⟩
            case measure => simp [intOf]; omega
          | false =>
            obtain ⟨b1, hb1⟩ : ∃ b1, (a == (j : Int)) = b1 := ⟨_, rfl⟩
            obtain ⟨b2, hb2⟩ : ∃ b2, (v == cc) = b2 := ⟨_, rfl⟩
            have HT := Lib.hid (show expl d.pend (j : Int) cc dc (q + 1) = (b1 && b2) by rw [HST.out, hb1, hb2]; rfl)
            cases b1 with
            | true =>
              go_wp2_with (go_quiet (fail))
              go_roundw
              case rel => exact ⟨q + 1, by omega, by go_num, by rw [HT.out]; rfl, HVi.out.trans ((dk_drewN wr _).mono HVi.out.size)⟩
              case measure => simp [intOf]; omega
            | false =>
              go_wp2_with (go_quiet (fail))
              go_roundw
              case rel => exact ⟨q + 1, by omega, by go_num, by rw [HT.out]; rfl, HVi.out.trans ((dk_drewN wr _).mono HVi.out.size)⟩
              case measure => simp [intOf]; omega
        · have dq : decide (q < d.pend.length) = false := decide_eq_false hqn
          have HT := Lib.hid (show expl d.pend (j : Int) cc dc q = true by rw [show q = d.pend.length by omega]; exact HEX.out)
          rw [HT.out]
          go_wp2_with fail
          go_roundw
          case rel => exact ⟨j + 1, by omega, by go_num, HV8.out⟩
          case measure => simp [intOf]; omega
    · have dj : decide (j < d.cells.length) = false := decide_eq_false hin
      go_wp2_with (go_at_call 21; refine (lives_any _).mono ?_; rintro e w9 ⟨rfl, hb9⟩)
      go_ret
      have h8 := HB7.out.trans (HV.out.mono HB7.out.size)
      exact ⟨rfl, h8.trans (hb9.mono h8.size)⟩
end Go.Proofs.Ytgdefhlcgmibcaa.LawDiskCrash
