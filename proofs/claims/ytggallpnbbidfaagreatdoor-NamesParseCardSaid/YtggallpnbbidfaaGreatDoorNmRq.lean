/-
  The reference's text of a question that fits.
-/
import Derived.Test.YtggallpnbbidfaaGreatDoorNmRe
namespace Go.Proofs.YtggallpnbbidfaaGreatDoor
open Go Go.RowKit Go.Proofs
attribute [local go_sem] Oper.semAt_some

set_option maxHeartbeats 2000000 in
theorem wellQ (k c h t i : Int) (w : World) (hk : 1 ≤ k ∧ k ≤ 3) (hc : NM.okC c h t 40 = true) (hi : NM.Nn i) :
    Calls Tryz.prog 42 #[.agg #[.int .i64 c, .int .i64 h, .int .i64 t, .int .i64 k, .int .i64 i]] w fun e w' => e = .returned (.bool true) ∧ Below w.heap.size w w' := by
  have HC := Lib.hid (fun V => refCause_any c h t 41 V hc)
  have HI := Lib.hid (fun V => number_any i V)
  rw [show NM.upTo i NM.big = true from NM.upTo_iff.2 hi] at HI
  have d0 : decide (k ≥ 1) = true := decide_eq_true (by omega)
  have d1 : decide (k ≤ 3) = true := decide_eq_true (by omega)
  clear hk hc hi
  obtain ⟨U, hU⟩ : ∃ U, w.alloc (.cells #[.int .i64 c, .int .i64 h, .int .i64 t, .int .i64 k, .int .i64 i] 36) = U := ⟨_, rfl⟩
  have hb : Below w.heap.size w U := hU ▸ one_box w _
  have hlt : w.heap.size < U.heap.size := by rw [← hU]; simp
  have k1 : U.heap[w.heap.size]? = some (.cells #[.int .i64 c, .int .i64 h, .int .i64 t, .int .i64 k, .int .i64 i] 36 (0, 0)) := by rw [← hU]; exact new_at rfl
  have HK := Lib.hid (fun (V : World) (hV : Below U.heap.size U V) => row5 ((hV.block _ hlt).trans k1))
  obtain ⟨a0, a1, a2, a3, a4⟩ := row5 k1
  have HB := Lib.hid hb
  clear k1 hb
  go_enter Tryz.func42, Tryz.ntmps42
  go_wp2_with (first
    | (go_at_call 59; (with_reducible refine (HC.out _).mono ?_); rintro e w2 ⟨rfl, hb2⟩; obtain ⟨c0, c1, c2, c3, c4⟩ := HK.out w2 hb2; have HB2 := Lib.hid hb2; clear hb2)
    | (go_at_call 58; (with_reducible refine (HI.out _).mono ?_); rintro e w3 ⟨rfl, rfl⟩))
  go_ret
  exact ⟨rfl, HB.out.trans (HB2.out.mono HB.out.size)⟩
set_option maxHeartbeats 4000000 in
set_option maxRecDepth 100000 in
theorem refQu_1 (c h t i : Int) (s1 s2 : ByteArray) (w : World)
    (HW : Hid (∀ V, Calls Tryz.prog 42 #[.agg #[.int .i64 c, .int .i64 h, .int .i64 t, .int .i64 1, .int .i64 i]] V fun e w' => e = .returned (.bool true) ∧ Below V.heap.size V w'))
    (HS : Hid (∀ V (g : Nat), V.heap[g]? = some (.cells #[.int .i64 c, .int .i64 h, .int .i64 t] 3 (0, 0)) → Calls Tryz.prog 36 #[.slice (some ⟨g, 0, none⟩) 3 3] V fun e w' => e = .returned (.string s1) ∧ w' = V)) (hs1 : s1.size ≤ 100)
    (HD : Hid (∀ V, Calls Tryz.prog 35 #[.int .i64 i] V fun e w' => e = .returned (.string s2) ∧ w' = V)) (hs2 : s2.size ≤ 100) :
    Calls Tryz.prog 16 #[.agg #[.int .i64 c, .int .i64 h, .int .i64 t, .int .i64 1, .int .i64 i]] w fun e w' => e = .returned (.string (((((⟨#[100, 114, 97, 119]⟩ : ByteArray) ++ (⟨#[32]⟩ : ByteArray)) ++ s1) ++ (⟨#[32]⟩ : ByteArray)) ++ s2)) ∧ Below w.heap.size w w' := by
  obtain ⟨U, hU⟩ : ∃ U, w.alloc (.cells #[.int .i64 c, .int .i64 h, .int .i64 t, .int .i64 1, .int .i64 i] 36) = U := ⟨_, rfl⟩
  have hb : Below w.heap.size w U := hU ▸ one_box w _
  have hlt : w.heap.size < U.heap.size := by rw [← hU]; simp
  have k1 : U.heap[w.heap.size]? = some (.cells #[.int .i64 c, .int .i64 h, .int .i64 t, .int .i64 1, .int .i64 i] 36 (0, 0)) := by rw [← hU]; exact new_at rfl
  have HK := Lib.hid (fun (V : World) (hV : Below U.heap.size U V) => row5 ((hV.block _ hlt).trans k1))
  obtain ⟨a0, a1, a2, a3, a4⟩ := row5 k1
  have HB := Lib.hid hb
  clear k1 hb
  go_enter Tryz.func16, Tryz.ntmps16
  go_wp2_with (first
    | (go_at_call 42; refine (HW.out _).mono ?_; rintro e w2 ⟨rfl, hb2⟩; have HB2 := Lib.hid hb2; clear hU a0 a1 a2 a3 a4; obtain ⟨a0, a1, a2, a3, a4⟩ := HK.out w2 hb2; clear hb2; have HQ := Lib.hid (fun (g_ : Nat) hg_ => HS.out (w2.alloc (.cells #[.int .i64 c, .int .i64 h, .int .i64 t] 3)) g_ hg_))
    | (go_at_call 36; refine (HQ.out w2.heap.size (new_at rfl)).mono ?_; rintro e w5 ⟨rfl, rfl⟩))
  have hz1 : (((⟨#[100, 114, 97, 119]⟩ : ByteArray) ++ (⟨#[32]⟩ : ByteArray)) ++ s1).size ≤ 105 := by
    rw [ByteArray.size_append]
    show 5 + s1.size ≤ 105
    omega
  have hz2 : ((((⟨#[100, 114, 97, 119]⟩ : ByteArray) ++ (⟨#[32]⟩ : ByteArray)) ++ s1) ++ (⟨#[32]⟩ : ByteArray)).size ≤ 106 := by
    rw [ByteArray.size_append]
    show (((⟨#[100, 114, 97, 119]⟩ : ByteArray) ++ (⟨#[32]⟩ : ByteArray)) ++ s1).size + 1 ≤ 106
    omega
  have HV := Lib.hid (HB2.out.trans ((one_box w2 (.cells #[.int .i64 c, .int .i64 h, .int .i64 t] 3)).mono HB2.out.size))
  clear a0 a1 a2 a3 a4
  refine RgP.region_specs 14 (fun i => (if i = 13 then 2 else 20 + i)) (fun ix_ => match ix_ with | 0 => .row #[.string (⟨#[]⟩ : ByteArray), .string (⟨#[100, 114, 97, 119]⟩ : ByteArray), .string (⟨#[116, 105, 99, 107]⟩ : ByteArray), .string (⟨#[107, 101, 101, 112]⟩ : ByteArray)] 9 4 | 1 => .val (.pointer (some ⟨w.heap.size, 3, none⟩)) | 2 => .val (.int .i64 1) | 3 => .cel (.string (⟨#[100, 114, 97, 119]⟩ : ByteArray)) | 4 => .val (.string (⟨#[100, 114, 97, 119]⟩ : ByteArray)) | 5 => .val (.string ((⟨#[100, 114, 97, 119]⟩ : ByteArray) ++ (⟨#[32]⟩ : ByteArray))) | 6 => .val (.string s1) | 7 => .val (.string (((⟨#[100, 114, 97, 119]⟩ : ByteArray) ++ (⟨#[32]⟩ : ByteArray)) ++ s1)) | 8 => .val (.string ((((⟨#[100, 114, 97, 119]⟩ : ByteArray) ++ (⟨#[32]⟩ : ByteArray)) ++ s1) ++ (⟨#[32]⟩ : ByteArray))) | 9 => .val (.pointer (some ⟨w.heap.size, 4, none⟩)) | 10 => .val (.int .i64 i) | 11 => .val (.string s2) | 12 => .val (.string (((((⟨#[100, 114, 97, 119]⟩ : ByteArray) ++ (⟨#[32]⟩ : ByteArray)) ++ s1) ++ (⟨#[32]⟩ : ByteArray)) ++ s2)) | 13 => .val (.string (((((⟨#[100, 114, 97, 119]⟩ : ByteArray) ++ (⟨#[32]⟩ : ByteArray)) ++ s1) ++ (⟨#[32]⟩ : ByteArray)) ++ s2)) | _ => .val undef) (by kernel_rfl) rfl (by kernel_rfl) (fun i hi => by show (if i = 13 then 2 else 20 + i) < 33; (repeat' split) <;> omega) (fun i j hi hj => by show (if i = 13 then 2 else 20 + i) = (if j = 13 then 2 else 20 + j) → i = j; (repeat' split) <;> omega) ?step ?fin
  case step =>
    intro listed A_ w3 ix op_ hI ho hdep
    have hi : ix < 14 := (Array.getElem?_eq_some_iff.1 ho).1
    have hcase : ix = 0 ∨ ix = 1 ∨ ix = 2 ∨ ix = 3 ∨ ix = 4 ∨ ix = 5 ∨ ix = 6 ∨ ix = 7 ∨ ix = 8 ∨ ix = 9 ∨ ix = 10 ∨ ix = 11 ∨ ix = 12 ∨ ix = 13 := by omega
    have hh := hI.held
    clear hi
    rcases hcase with rfl | rfl | rfl | rfl | rfl | rfl | rfl | rfl | rfl | rfl | rfl | rfl | rfl | rfl
    · simp only [List.getElem?_toArray, List.getElem?_cons_zero, Option.some.injEq] at ho
      subst ho
      refine ⟨rfl, ?_⟩
      clear hI hdep
      exact .run rfl (.slice (some ⟨w3.heap.size, 0, none⟩) 4 4) (w3.alloc (.cells #[.string (⟨#[]⟩ : ByteArray), .string (⟨#[100, 114, 97, 119]⟩ : ByteArray), .string (⟨#[116, 105, 99, 107]⟩ : ByteArray), .string (⟨#[107, 101, 101, 112]⟩ : ByteArray)] 9)) (by simp [execOp, go_sem, Act.eval]) ((Below.refl _ _).alloc (Nat.le_refl _) _) (RgP.new_row _ _ _ _)
    · simp only [List.getElem?_toArray, List.getElem?_cons_succ, List.getElem?_cons_zero, Option.some.injEq] at ho
      subst ho
      refine ⟨rfl, ?_⟩
      have e1 : A_.tmps[1]?.getD undef = .pointer (some ⟨w.heap.size, 0, none⟩) := by rw [hI.low 1 (by decide)]; rfl
      clear hI hdep
      exact .run rfl (.pointer (some ⟨w.heap.size, 3, none⟩)) w3 (by simp [execOp, go_sem, Act.eval, e1]) (Below.refl _ _) rfl
    · simp only [List.getElem?_toArray, List.getElem?_cons_succ, List.getElem?_cons_zero, Option.some.injEq] at ho
      subst ho
      refine ⟨rfl, ?_⟩
      have e21 : A_.tmps[21]?.getD undef = .pointer (some ⟨w.heap.size, 3, none⟩) := getD_of (hI.val_ (i := 1) rfl rfl (by decide) (hdep ⟨1, .data⟩ (by simp) rfl))
      clear hI hdep
      obtain ⟨d0, d1, d2, d3, d4⟩ := HK.out w3 (HV.out.trans (hh.mono HV.out.size))
      exact .run rfl (.int .i64 1) w3 (by simp [execOp, go_sem, Act.eval, *]) (Below.refl _ _) rfl
    · simp only [List.getElem?_toArray, List.getElem?_cons_succ, List.getElem?_cons_zero, Option.some.injEq] at ho
      subst ho
      refine ⟨rfl, ?_⟩
      obtain ⟨g20, e20, r20⟩ := hI.row_ (i := 0) (j := 20) rfl rfl (by decide) (hdep ⟨0, .data⟩ (by simp) rfl)
      have e22 : A_.tmps[22]?.getD undef = .int .i64 1 := getD_of (hI.val_ (i := 2) rfl rfl (by decide) (hdep ⟨2, .data⟩ (by simp) rfl))
      clear hI hdep
      exact .run rfl (.pointer (some ⟨g20, 1, none⟩)) w3 (by simp [execOp, go_sem, Act.eval, e20, e22]) (Below.refl _ _) (RgP.cel_row r20 rfl)
    · simp only [List.getElem?_toArray, List.getElem?_cons_succ, List.getElem?_cons_zero, Option.some.injEq] at ho
      subst ho
      refine ⟨rfl, ?_⟩
      obtain ⟨p23, e23, r23⟩ := hI.cel_ (i := 3) (j := 23) rfl rfl (by decide) (hdep ⟨3, .data⟩ (by simp) rfl)
      clear hI hdep
      obtain ⟨d0, d1, d2, d3, d4⟩ := HK.out w3 (HV.out.trans (hh.mono HV.out.size))
      exact .run rfl (.string (⟨#[100, 114, 97, 119]⟩ : ByteArray)) w3 (by simp [execOp, go_sem, Act.eval, *]) (Below.refl _ _) rfl
    · simp only [List.getElem?_toArray, List.getElem?_cons_succ, List.getElem?_cons_zero, Option.some.injEq] at ho
      subst ho
      refine ⟨rfl, ?_⟩
      have e24 : A_.tmps[24]?.getD undef = .string (⟨#[100, 114, 97, 119]⟩ : ByteArray) := getD_of (hI.val_ (i := 4) rfl rfl (by decide) (hdep ⟨4, .data⟩ (by simp) rfl))
      clear hI hdep
      exact .run rfl (.string ((⟨#[100, 114, 97, 119]⟩ : ByteArray) ++ (⟨#[32]⟩ : ByteArray))) w3 (by simp [execOp, go_sem, Act.eval, *] <;> omega) (Below.refl _ _) rfl
    · simp only [List.getElem?_toArray, List.getElem?_cons_succ, List.getElem?_cons_zero, Option.some.injEq] at ho
      subst ho
      refine ⟨rfl, ?_⟩
      have e4 : A_.tmps[4]?.getD undef = .string s1 := by rw [hI.low 4 (by decide)]; rfl
      clear hI hdep
      exact .run rfl (.string s1) w3 (by simp [execOp, go_sem, Act.eval, e4]) (Below.refl _ _) rfl
    · simp only [List.getElem?_toArray, List.getElem?_cons_succ, List.getElem?_cons_zero, Option.some.injEq] at ho
      subst ho
      refine ⟨rfl, ?_⟩
      have e25 : A_.tmps[25]?.getD undef = .string ((⟨#[100, 114, 97, 119]⟩ : ByteArray) ++ (⟨#[32]⟩ : ByteArray)) := getD_of (hI.val_ (i := 5) rfl rfl (by decide) (hdep ⟨5, .data⟩ (by simp) rfl))
      have e26 : A_.tmps[26]?.getD undef = .string s1 := getD_of (hI.val_ (i := 6) rfl rfl (by decide) (hdep ⟨6, .data⟩ (by simp) rfl))
      clear hI hdep
      exact .run rfl (.string (((⟨#[100, 114, 97, 119]⟩ : ByteArray) ++ (⟨#[32]⟩ : ByteArray)) ++ s1)) w3 (by simp [execOp, go_sem, Act.eval, *] <;> omega) (Below.refl _ _) rfl
    · simp only [List.getElem?_toArray, List.getElem?_cons_succ, List.getElem?_cons_zero, Option.some.injEq] at ho
      subst ho
      refine ⟨rfl, ?_⟩
      have e27 : A_.tmps[27]?.getD undef = .string (((⟨#[100, 114, 97, 119]⟩ : ByteArray) ++ (⟨#[32]⟩ : ByteArray)) ++ s1) := getD_of (hI.val_ (i := 7) rfl rfl (by decide) (hdep ⟨7, .data⟩ (by simp) rfl))
      clear hI hdep
      exact .run rfl (.string ((((⟨#[100, 114, 97, 119]⟩ : ByteArray) ++ (⟨#[32]⟩ : ByteArray)) ++ s1) ++ (⟨#[32]⟩ : ByteArray))) w3 (by simp [execOp, go_sem, Act.eval, *] <;> omega) (Below.refl _ _) rfl
    · simp only [List.getElem?_toArray, List.getElem?_cons_succ, List.getElem?_cons_zero, Option.some.injEq] at ho
      subst ho
      refine ⟨rfl, ?_⟩
      have e1 : A_.tmps[1]?.getD undef = .pointer (some ⟨w.heap.size, 0, none⟩) := by rw [hI.low 1 (by decide)]; rfl
      clear hI hdep
      exact .run rfl (.pointer (some ⟨w.heap.size, 4, none⟩)) w3 (by simp [execOp, go_sem, Act.eval, e1]) (Below.refl _ _) rfl
    · simp only [List.getElem?_toArray, List.getElem?_cons_succ, List.getElem?_cons_zero, Option.some.injEq] at ho
      subst ho
      refine ⟨rfl, ?_⟩
      have e29 : A_.tmps[29]?.getD undef = .pointer (some ⟨w.heap.size, 4, none⟩) := getD_of (hI.val_ (i := 9) rfl rfl (by decide) (hdep ⟨9, .data⟩ (by simp) rfl))
      clear hI hdep
      obtain ⟨d0, d1, d2, d3, d4⟩ := HK.out w3 (HV.out.trans (hh.mono HV.out.size))
      exact .run rfl (.int .i64 i) w3 (by simp [execOp, go_sem, Act.eval, *]) (Below.refl _ _) rfl
    · simp only [List.getElem?_toArray, List.getElem?_cons_succ, List.getElem?_cons_zero, Option.some.injEq] at ho
      subst ho
      refine ⟨rfl, ?_⟩
      have e30 : A_.tmps[30]?.getD undef = .int .i64 i := getD_of (hI.val_ (i := 10) rfl rfl (by decide) (hdep ⟨10, .data⟩ (by simp) rfl))
      clear hI hdep
      exact .call rfl 35 #[.int .i64 i] (.string s2) (by simp [go_sem, Act.eval, e30]) rfl ((HD.out w3).mono fun _ _ h => ⟨h.1, h.2 ▸ Below.refl _ _⟩)
    · simp only [List.getElem?_toArray, List.getElem?_cons_succ, List.getElem?_cons_zero, Option.some.injEq] at ho
      subst ho
      refine ⟨rfl, ?_⟩
      have e28 : A_.tmps[28]?.getD undef = .string ((((⟨#[100, 114, 97, 119]⟩ : ByteArray) ++ (⟨#[32]⟩ : ByteArray)) ++ s1) ++ (⟨#[32]⟩ : ByteArray)) := getD_of (hI.val_ (i := 8) rfl rfl (by decide) (hdep ⟨8, .data⟩ (by simp) rfl))
      have e31 : A_.tmps[31]?.getD undef = .string s2 := getD_of (hI.val_ (i := 11) rfl rfl (by decide) (hdep ⟨11, .data⟩ (by simp) rfl))
      clear hI hdep
      exact .run rfl (.string (((((⟨#[100, 114, 97, 119]⟩ : ByteArray) ++ (⟨#[32]⟩ : ByteArray)) ++ s1) ++ (⟨#[32]⟩ : ByteArray)) ++ s2)) w3 (by simp [execOp, go_sem, Act.eval, *] <;> omega) (Below.refl _ _) rfl
    · simp only [List.getElem?_toArray, List.getElem?_cons_succ, List.getElem?_cons_zero, Option.some.injEq] at ho
      subst ho
      refine ⟨rfl, ?_⟩
      have e32 : A_.tmps[32]?.getD undef = .string (((((⟨#[100, 114, 97, 119]⟩ : ByteArray) ++ (⟨#[32]⟩ : ByteArray)) ++ s1) ++ (⟨#[32]⟩ : ByteArray)) ++ s2) := getD_of (hI.val_ (i := 12) rfl rfl (by decide) (hdep ⟨12, .data⟩ (by simp) rfl))
      clear hI hdep
      exact .run rfl (.string (((((⟨#[100, 114, 97, 119]⟩ : ByteArray) ++ (⟨#[32]⟩ : ByteArray)) ++ s1) ++ (⟨#[32]⟩ : ByteArray)) ++ s2)) w3 (by simp [execOp, go_sem, Act.eval, e32]) (Below.refl _ _) rfl
  case fin =>
  intro A_ w3 hs hd hlow hS hok
  obtain ⟨y20, hy20⟩ := RgP.row_at (hok 0 20 _ (by decide) rfl rfl)
  obtain ⟨y23, hy23⟩ := RgP.cel_at (hok 3 23 _ (by decide) rfl rfl)
  obtain rfl : A_ = ⟨#[.agg #[.int .i64 c, .int .i64 h, .int .i64 t, .int .i64 1, .int .i64 i], .pointer (some ⟨w.heap.size, 0, none⟩), .string (((((⟨#[100, 114, 97, 119]⟩ : ByteArray) ++ (⟨#[32]⟩ : ByteArray)) ++ s1) ++ (⟨#[32]⟩ : ByteArray)) ++ s2), .bool true, .string s1, .agg #[.int .i64 c, .int .i64 h, .int .i64 t, .int .i64 1, .int .i64 i], .bool true, .bool true, .bool false, .pointer (some ⟨w.heap.size, 0, none⟩), .pointer (some ⟨w.heap.size, 0, none⟩), .int .i64 c, .pointer (some ⟨w.heap.size, 0, none⟩), .pointer (some ⟨w.heap.size, 1, none⟩), .int .i64 h, .pointer (some ⟨w.heap.size, 0, none⟩), .pointer (some ⟨w.heap.size, 2, none⟩), .int .i64 t, .slice (some ⟨w2.heap.size, 0, none⟩) 3 3, .string s1, y20, .pointer (some ⟨w.heap.size, 3, none⟩), .int .i64 1, y23, .string (⟨#[100, 114, 97, 119]⟩ : ByteArray), .string ((⟨#[100, 114, 97, 119]⟩ : ByteArray) ++ (⟨#[32]⟩ : ByteArray)), .string s1, .string (((⟨#[100, 114, 97, 119]⟩ : ByteArray) ++ (⟨#[32]⟩ : ByteArray)) ++ s1), .string ((((⟨#[100, 114, 97, 119]⟩ : ByteArray) ++ (⟨#[32]⟩ : ByteArray)) ++ s1) ++ (⟨#[32]⟩ : ByteArray)), .pointer (some ⟨w.heap.size, 4, none⟩), .int .i64 i, .string s2, .string (((((⟨#[100, 114, 97, 119]⟩ : ByteArray) ++ (⟨#[32]⟩ : ByteArray)) ++ s1) ++ (⟨#[32]⟩ : ByteArray)) ++ s2)], []⟩ := act_ext hd hs (fun j hj => match j, hj with | 0, _ => (hlow 0 (by decide)).trans rfl | 1, _ => (hlow 1 (by decide)).trans rfl | 2, _ => RgP.val_at (hok 13 2 _ (by decide) rfl rfl) | 3, _ => (hlow 3 (by decide)).trans rfl | 4, _ => (hlow 4 (by decide)).trans rfl | 5, _ => (hlow 5 (by decide)).trans rfl | 6, _ => (hlow 6 (by decide)).trans rfl | 7, _ => (hlow 7 (by decide)).trans rfl | 8, _ => (hlow 8 (by decide)).trans rfl | 9, _ => (hlow 9 (by decide)).trans rfl | 10, _ => (hlow 10 (by decide)).trans rfl | 11, _ => (hlow 11 (by decide)).trans rfl | 12, _ => (hlow 12 (by decide)).trans rfl | 13, _ => (hlow 13 (by decide)).trans rfl | 14, _ => (hlow 14 (by decide)).trans rfl | 15, _ => (hlow 15 (by decide)).trans rfl | 16, _ => (hlow 16 (by decide)).trans rfl | 17, _ => (hlow 17 (by decide)).trans rfl | 18, _ => (hlow 18 (by decide)).trans rfl | 19, _ => (hlow 19 (by decide)).trans rfl | 20, _ => hy20 | 21, _ => RgP.val_at (hok 1 21 _ (by decide) rfl rfl) | 22, _ => RgP.val_at (hok 2 22 _ (by decide) rfl rfl) | 23, _ => hy23 | 24, _ => RgP.val_at (hok 4 24 _ (by decide) rfl rfl) | 25, _ => RgP.val_at (hok 5 25 _ (by decide) rfl rfl) | 26, _ => RgP.val_at (hok 6 26 _ (by decide) rfl rfl) | 27, _ => RgP.val_at (hok 7 27 _ (by decide) rfl rfl) | 28, _ => RgP.val_at (hok 8 28 _ (by decide) rfl rfl) | 29, _ => RgP.val_at (hok 9 29 _ (by decide) rfl rfl) | 30, _ => RgP.val_at (hok 10 30 _ (by decide) rfl rfl) | 31, _ => RgP.val_at (hok 11 31 _ (by decide) rfl rfl) | 32, _ => RgP.val_at (hok 12 32 _ (by decide) rfl rfl) | n + 33, h => absurd h (by show ¬ n + 33 < 33; omega))
  clear hs hd hlow hok hy20 hy23
  go_wp2_with fail
  go_ret
  exact ⟨rfl, HB.out.trans ((HV.out.trans (hS.mono HV.out.size)).mono HB.out.size)⟩
set_option maxHeartbeats 4000000 in
set_option maxRecDepth 100000 in
theorem refQu_2 (c h t i : Int) (s1 s2 : ByteArray) (w : World)
    (HW : Hid (∀ V, Calls Tryz.prog 42 #[.agg #[.int .i64 c, .int .i64 h, .int .i64 t, .int .i64 2, .int .i64 i]] V fun e w' => e = .returned (.bool true) ∧ Below V.heap.size V w'))
    (HS : Hid (∀ V (g : Nat), V.heap[g]? = some (.cells #[.int .i64 c, .int .i64 h, .int .i64 t] 3 (0, 0)) → Calls Tryz.prog 36 #[.slice (some ⟨g, 0, none⟩) 3 3] V fun e w' => e = .returned (.string s1) ∧ w' = V)) (hs1 : s1.size ≤ 100)
    (HD : Hid (∀ V, Calls Tryz.prog 35 #[.int .i64 i] V fun e w' => e = .returned (.string s2) ∧ w' = V)) (hs2 : s2.size ≤ 100) :
    Calls Tryz.prog 16 #[.agg #[.int .i64 c, .int .i64 h, .int .i64 t, .int .i64 2, .int .i64 i]] w fun e w' => e = .returned (.string (((((⟨#[116, 105, 99, 107]⟩ : ByteArray) ++ (⟨#[32]⟩ : ByteArray)) ++ s1) ++ (⟨#[32]⟩ : ByteArray)) ++ s2)) ∧ Below w.heap.size w w' := by
  obtain ⟨U, hU⟩ : ∃ U, w.alloc (.cells #[.int .i64 c, .int .i64 h, .int .i64 t, .int .i64 2, .int .i64 i] 36) = U := ⟨_, rfl⟩
  have hb : Below w.heap.size w U := hU ▸ one_box w _
  have hlt : w.heap.size < U.heap.size := by rw [← hU]; simp
  have k1 : U.heap[w.heap.size]? = some (.cells #[.int .i64 c, .int .i64 h, .int .i64 t, .int .i64 2, .int .i64 i] 36 (0, 0)) := by rw [← hU]; exact new_at rfl
  have HK := Lib.hid (fun (V : World) (hV : Below U.heap.size U V) => row5 ((hV.block _ hlt).trans k1))
  obtain ⟨a0, a1, a2, a3, a4⟩ := row5 k1
  have HB := Lib.hid hb
  clear k1 hb
  go_enter Tryz.func16, Tryz.ntmps16
  go_wp2_with (first
    | (go_at_call 42; refine (HW.out _).mono ?_; rintro e w2 ⟨rfl, hb2⟩; have HB2 := Lib.hid hb2; clear hU a0 a1 a2 a3 a4; obtain ⟨a0, a1, a2, a3, a4⟩ := HK.out w2 hb2; clear hb2; have HQ := Lib.hid (fun (g_ : Nat) hg_ => HS.out (w2.alloc (.cells #[.int .i64 c, .int .i64 h, .int .i64 t] 3)) g_ hg_))
    | (go_at_call 36; refine (HQ.out w2.heap.size (new_at rfl)).mono ?_; rintro e w5 ⟨rfl, rfl⟩))
  have hz1 : (((⟨#[116, 105, 99, 107]⟩ : ByteArray) ++ (⟨#[32]⟩ : ByteArray)) ++ s1).size ≤ 105 := by
    rw [ByteArray.size_append]
    show 5 + s1.size ≤ 105
    omega
  have hz2 : ((((⟨#[116, 105, 99, 107]⟩ : ByteArray) ++ (⟨#[32]⟩ : ByteArray)) ++ s1) ++ (⟨#[32]⟩ : ByteArray)).size ≤ 106 := by
    rw [ByteArray.size_append]
    show (((⟨#[116, 105, 99, 107]⟩ : ByteArray) ++ (⟨#[32]⟩ : ByteArray)) ++ s1).size + 1 ≤ 106
    omega
  have HV := Lib.hid (HB2.out.trans ((one_box w2 (.cells #[.int .i64 c, .int .i64 h, .int .i64 t] 3)).mono HB2.out.size))
  clear a0 a1 a2 a3 a4
  refine RgP.region_specs 14 (fun i => (if i = 13 then 2 else 20 + i)) (fun ix_ => match ix_ with | 0 => .row #[.string (⟨#[]⟩ : ByteArray), .string (⟨#[100, 114, 97, 119]⟩ : ByteArray), .string (⟨#[116, 105, 99, 107]⟩ : ByteArray), .string (⟨#[107, 101, 101, 112]⟩ : ByteArray)] 9 4 | 1 => .val (.pointer (some ⟨w.heap.size, 3, none⟩)) | 2 => .val (.int .i64 2) | 3 => .cel (.string (⟨#[116, 105, 99, 107]⟩ : ByteArray)) | 4 => .val (.string (⟨#[116, 105, 99, 107]⟩ : ByteArray)) | 5 => .val (.string ((⟨#[116, 105, 99, 107]⟩ : ByteArray) ++ (⟨#[32]⟩ : ByteArray))) | 6 => .val (.string s1) | 7 => .val (.string (((⟨#[116, 105, 99, 107]⟩ : ByteArray) ++ (⟨#[32]⟩ : ByteArray)) ++ s1)) | 8 => .val (.string ((((⟨#[116, 105, 99, 107]⟩ : ByteArray) ++ (⟨#[32]⟩ : ByteArray)) ++ s1) ++ (⟨#[32]⟩ : ByteArray))) | 9 => .val (.pointer (some ⟨w.heap.size, 4, none⟩)) | 10 => .val (.int .i64 i) | 11 => .val (.string s2) | 12 => .val (.string (((((⟨#[116, 105, 99, 107]⟩ : ByteArray) ++ (⟨#[32]⟩ : ByteArray)) ++ s1) ++ (⟨#[32]⟩ : ByteArray)) ++ s2)) | 13 => .val (.string (((((⟨#[116, 105, 99, 107]⟩ : ByteArray) ++ (⟨#[32]⟩ : ByteArray)) ++ s1) ++ (⟨#[32]⟩ : ByteArray)) ++ s2)) | _ => .val undef) (by kernel_rfl) rfl (by kernel_rfl) (fun i hi => by show (if i = 13 then 2 else 20 + i) < 33; (repeat' split) <;> omega) (fun i j hi hj => by show (if i = 13 then 2 else 20 + i) = (if j = 13 then 2 else 20 + j) → i = j; (repeat' split) <;> omega) ?step ?fin
  case step =>
    intro listed A_ w3 ix op_ hI ho hdep
    have hi : ix < 14 := (Array.getElem?_eq_some_iff.1 ho).1
    have hcase : ix = 0 ∨ ix = 1 ∨ ix = 2 ∨ ix = 3 ∨ ix = 4 ∨ ix = 5 ∨ ix = 6 ∨ ix = 7 ∨ ix = 8 ∨ ix = 9 ∨ ix = 10 ∨ ix = 11 ∨ ix = 12 ∨ ix = 13 := by omega
    have hh := hI.held
    clear hi
    rcases hcase with rfl | rfl | rfl | rfl | rfl | rfl | rfl | rfl | rfl | rfl | rfl | rfl | rfl | rfl
    · simp only [List.getElem?_toArray, List.getElem?_cons_zero, Option.some.injEq] at ho
      subst ho
      refine ⟨rfl, ?_⟩
      clear hI hdep
      exact .run rfl (.slice (some ⟨w3.heap.size, 0, none⟩) 4 4) (w3.alloc (.cells #[.string (⟨#[]⟩ : ByteArray), .string (⟨#[100, 114, 97, 119]⟩ : ByteArray), .string (⟨#[116, 105, 99, 107]⟩ : ByteArray), .string (⟨#[107, 101, 101, 112]⟩ : ByteArray)] 9)) (by simp [execOp, go_sem, Act.eval]) ((Below.refl _ _).alloc (Nat.le_refl _) _) (RgP.new_row _ _ _ _)
    · simp only [List.getElem?_toArray, List.getElem?_cons_succ, List.getElem?_cons_zero, Option.some.injEq] at ho
      subst ho
      refine ⟨rfl, ?_⟩
      have e1 : A_.tmps[1]?.getD undef = .pointer (some ⟨w.heap.size, 0, none⟩) := by rw [hI.low 1 (by decide)]; rfl
      clear hI hdep
      exact .run rfl (.pointer (some ⟨w.heap.size, 3, none⟩)) w3 (by simp [execOp, go_sem, Act.eval, e1]) (Below.refl _ _) rfl
    · simp only [List.getElem?_toArray, List.getElem?_cons_succ, List.getElem?_cons_zero, Option.some.injEq] at ho
      subst ho
      refine ⟨rfl, ?_⟩
      have e21 : A_.tmps[21]?.getD undef = .pointer (some ⟨w.heap.size, 3, none⟩) := getD_of (hI.val_ (i := 1) rfl rfl (by decide) (hdep ⟨1, .data⟩ (by simp) rfl))
      clear hI hdep
      obtain ⟨d0, d1, d2, d3, d4⟩ := HK.out w3 (HV.out.trans (hh.mono HV.out.size))
      exact .run rfl (.int .i64 2) w3 (by simp [execOp, go_sem, Act.eval, *]) (Below.refl _ _) rfl
    · simp only [List.getElem?_toArray, List.getElem?_cons_succ, List.getElem?_cons_zero, Option.some.injEq] at ho
      subst ho
      refine ⟨rfl, ?_⟩
      obtain ⟨g20, e20, r20⟩ := hI.row_ (i := 0) (j := 20) rfl rfl (by decide) (hdep ⟨0, .data⟩ (by simp) rfl)
      have e22 : A_.tmps[22]?.getD undef = .int .i64 2 := getD_of (hI.val_ (i := 2) rfl rfl (by decide) (hdep ⟨2, .data⟩ (by simp) rfl))
      clear hI hdep
      exact .run rfl (.pointer (some ⟨g20, 2, none⟩)) w3 (by simp [execOp, go_sem, Act.eval, e20, e22]) (Below.refl _ _) (RgP.cel_row r20 rfl)
    · simp only [List.getElem?_toArray, List.getElem?_cons_succ, List.getElem?_cons_zero, Option.some.injEq] at ho
      subst ho
      refine ⟨rfl, ?_⟩
      obtain ⟨p23, e23, r23⟩ := hI.cel_ (i := 3) (j := 23) rfl rfl (by decide) (hdep ⟨3, .data⟩ (by simp) rfl)
      clear hI hdep
      obtain ⟨d0, d1, d2, d3, d4⟩ := HK.out w3 (HV.out.trans (hh.mono HV.out.size))
      exact .run rfl (.string (⟨#[116, 105, 99, 107]⟩ : ByteArray)) w3 (by simp [execOp, go_sem, Act.eval, *]) (Below.refl _ _) rfl
    · simp only [List.getElem?_toArray, List.getElem?_cons_succ, List.getElem?_cons_zero, Option.some.injEq] at ho
      subst ho
      refine ⟨rfl, ?_⟩
      have e24 : A_.tmps[24]?.getD undef = .string (⟨#[116, 105, 99, 107]⟩ : ByteArray) := getD_of (hI.val_ (i := 4) rfl rfl (by decide) (hdep ⟨4, .data⟩ (by simp) rfl))
      clear hI hdep
      exact .run rfl (.string ((⟨#[116, 105, 99, 107]⟩ : ByteArray) ++ (⟨#[32]⟩ : ByteArray))) w3 (by simp [execOp, go_sem, Act.eval, *] <;> omega) (Below.refl _ _) rfl
    · simp only [List.getElem?_toArray, List.getElem?_cons_succ, List.getElem?_cons_zero, Option.some.injEq] at ho
      subst ho
      refine ⟨rfl, ?_⟩
      have e4 : A_.tmps[4]?.getD undef = .string s1 := by rw [hI.low 4 (by decide)]; rfl
      clear hI hdep
      exact .run rfl (.string s1) w3 (by simp [execOp, go_sem, Act.eval, e4]) (Below.refl _ _) rfl
    · simp only [List.getElem?_toArray, List.getElem?_cons_succ, List.getElem?_cons_zero, Option.some.injEq] at ho
      subst ho
      refine ⟨rfl, ?_⟩
      have e25 : A_.tmps[25]?.getD undef = .string ((⟨#[116, 105, 99, 107]⟩ : ByteArray) ++ (⟨#[32]⟩ : ByteArray)) := getD_of (hI.val_ (i := 5) rfl rfl (by decide) (hdep ⟨5, .data⟩ (by simp) rfl))
      have e26 : A_.tmps[26]?.getD undef = .string s1 := getD_of (hI.val_ (i := 6) rfl rfl (by decide) (hdep ⟨6, .data⟩ (by simp) rfl))
      clear hI hdep
      exact .run rfl (.string (((⟨#[116, 105, 99, 107]⟩ : ByteArray) ++ (⟨#[32]⟩ : ByteArray)) ++ s1)) w3 (by simp [execOp, go_sem, Act.eval, *] <;> omega) (Below.refl _ _) rfl
    · simp only [List.getElem?_toArray, List.getElem?_cons_succ, List.getElem?_cons_zero, Option.some.injEq] at ho
      subst ho
      refine ⟨rfl, ?_⟩
      have e27 : A_.tmps[27]?.getD undef = .string (((⟨#[116, 105, 99, 107]⟩ : ByteArray) ++ (⟨#[32]⟩ : ByteArray)) ++ s1) := getD_of (hI.val_ (i := 7) rfl rfl (by decide) (hdep ⟨7, .data⟩ (by simp) rfl))
      clear hI hdep
      exact .run rfl (.string ((((⟨#[116, 105, 99, 107]⟩ : ByteArray) ++ (⟨#[32]⟩ : ByteArray)) ++ s1) ++ (⟨#[32]⟩ : ByteArray))) w3 (by simp [execOp, go_sem, Act.eval, *] <;> omega) (Below.refl _ _) rfl
    · simp only [List.getElem?_toArray, List.getElem?_cons_succ, List.getElem?_cons_zero, Option.some.injEq] at ho
      subst ho
      refine ⟨rfl, ?_⟩
      have e1 : A_.tmps[1]?.getD undef = .pointer (some ⟨w.heap.size, 0, none⟩) := by rw [hI.low 1 (by decide)]; rfl
      clear hI hdep
      exact .run rfl (.pointer (some ⟨w.heap.size, 4, none⟩)) w3 (by simp [execOp, go_sem, Act.eval, e1]) (Below.refl _ _) rfl
    · simp only [List.getElem?_toArray, List.getElem?_cons_succ, List.getElem?_cons_zero, Option.some.injEq] at ho
      subst ho
      refine ⟨rfl, ?_⟩
      have e29 : A_.tmps[29]?.getD undef = .pointer (some ⟨w.heap.size, 4, none⟩) := getD_of (hI.val_ (i := 9) rfl rfl (by decide) (hdep ⟨9, .data⟩ (by simp) rfl))
      clear hI hdep
      obtain ⟨d0, d1, d2, d3, d4⟩ := HK.out w3 (HV.out.trans (hh.mono HV.out.size))
      exact .run rfl (.int .i64 i) w3 (by simp [execOp, go_sem, Act.eval, *]) (Below.refl _ _) rfl
    · simp only [List.getElem?_toArray, List.getElem?_cons_succ, List.getElem?_cons_zero, Option.some.injEq] at ho
      subst ho
      refine ⟨rfl, ?_⟩
      have e30 : A_.tmps[30]?.getD undef = .int .i64 i := getD_of (hI.val_ (i := 10) rfl rfl (by decide) (hdep ⟨10, .data⟩ (by simp) rfl))
      clear hI hdep
      exact .call rfl 35 #[.int .i64 i] (.string s2) (by simp [go_sem, Act.eval, e30]) rfl ((HD.out w3).mono fun _ _ h => ⟨h.1, h.2 ▸ Below.refl _ _⟩)
    · simp only [List.getElem?_toArray, List.getElem?_cons_succ, List.getElem?_cons_zero, Option.some.injEq] at ho
      subst ho
      refine ⟨rfl, ?_⟩
      have e28 : A_.tmps[28]?.getD undef = .string ((((⟨#[116, 105, 99, 107]⟩ : ByteArray) ++ (⟨#[32]⟩ : ByteArray)) ++ s1) ++ (⟨#[32]⟩ : ByteArray)) := getD_of (hI.val_ (i := 8) rfl rfl (by decide) (hdep ⟨8, .data⟩ (by simp) rfl))
      have e31 : A_.tmps[31]?.getD undef = .string s2 := getD_of (hI.val_ (i := 11) rfl rfl (by decide) (hdep ⟨11, .data⟩ (by simp) rfl))
      clear hI hdep
      exact .run rfl (.string (((((⟨#[116, 105, 99, 107]⟩ : ByteArray) ++ (⟨#[32]⟩ : ByteArray)) ++ s1) ++ (⟨#[32]⟩ : ByteArray)) ++ s2)) w3 (by simp [execOp, go_sem, Act.eval, *] <;> omega) (Below.refl _ _) rfl
    · simp only [List.getElem?_toArray, List.getElem?_cons_succ, List.getElem?_cons_zero, Option.some.injEq] at ho
      subst ho
      refine ⟨rfl, ?_⟩
      have e32 : A_.tmps[32]?.getD undef = .string (((((⟨#[116, 105, 99, 107]⟩ : ByteArray) ++ (⟨#[32]⟩ : ByteArray)) ++ s1) ++ (⟨#[32]⟩ : ByteArray)) ++ s2) := getD_of (hI.val_ (i := 12) rfl rfl (by decide) (hdep ⟨12, .data⟩ (by simp) rfl))
      clear hI hdep
      exact .run rfl (.string (((((⟨#[116, 105, 99, 107]⟩ : ByteArray) ++ (⟨#[32]⟩ : ByteArray)) ++ s1) ++ (⟨#[32]⟩ : ByteArray)) ++ s2)) w3 (by simp [execOp, go_sem, Act.eval, e32]) (Below.refl _ _) rfl
  case fin =>
  intro A_ w3 hs hd hlow hS hok
  obtain ⟨y20, hy20⟩ := RgP.row_at (hok 0 20 _ (by decide) rfl rfl)
  obtain ⟨y23, hy23⟩ := RgP.cel_at (hok 3 23 _ (by decide) rfl rfl)
  obtain rfl : A_ = ⟨#[.agg #[.int .i64 c, .int .i64 h, .int .i64 t, .int .i64 2, .int .i64 i], .pointer (some ⟨w.heap.size, 0, none⟩), .string (((((⟨#[116, 105, 99, 107]⟩ : ByteArray) ++ (⟨#[32]⟩ : ByteArray)) ++ s1) ++ (⟨#[32]⟩ : ByteArray)) ++ s2), .bool true, .string s1, .agg #[.int .i64 c, .int .i64 h, .int .i64 t, .int .i64 2, .int .i64 i], .bool true, .bool true, .bool false, .pointer (some ⟨w.heap.size, 0, none⟩), .pointer (some ⟨w.heap.size, 0, none⟩), .int .i64 c, .pointer (some ⟨w.heap.size, 0, none⟩), .pointer (some ⟨w.heap.size, 1, none⟩), .int .i64 h, .pointer (some ⟨w.heap.size, 0, none⟩), .pointer (some ⟨w.heap.size, 2, none⟩), .int .i64 t, .slice (some ⟨w2.heap.size, 0, none⟩) 3 3, .string s1, y20, .pointer (some ⟨w.heap.size, 3, none⟩), .int .i64 2, y23, .string (⟨#[116, 105, 99, 107]⟩ : ByteArray), .string ((⟨#[116, 105, 99, 107]⟩ : ByteArray) ++ (⟨#[32]⟩ : ByteArray)), .string s1, .string (((⟨#[116, 105, 99, 107]⟩ : ByteArray) ++ (⟨#[32]⟩ : ByteArray)) ++ s1), .string ((((⟨#[116, 105, 99, 107]⟩ : ByteArray) ++ (⟨#[32]⟩ : ByteArray)) ++ s1) ++ (⟨#[32]⟩ : ByteArray)), .pointer (some ⟨w.heap.size, 4, none⟩), .int .i64 i, .string s2, .string (((((⟨#[116, 105, 99, 107]⟩ : ByteArray) ++ (⟨#[32]⟩ : ByteArray)) ++ s1) ++ (⟨#[32]⟩ : ByteArray)) ++ s2)], []⟩ := act_ext hd hs (fun j hj => match j, hj with | 0, _ => (hlow 0 (by decide)).trans rfl | 1, _ => (hlow 1 (by decide)).trans rfl | 2, _ => RgP.val_at (hok 13 2 _ (by decide) rfl rfl) | 3, _ => (hlow 3 (by decide)).trans rfl | 4, _ => (hlow 4 (by decide)).trans rfl | 5, _ => (hlow 5 (by decide)).trans rfl | 6, _ => (hlow 6 (by decide)).trans rfl | 7, _ => (hlow 7 (by decide)).trans rfl | 8, _ => (hlow 8 (by decide)).trans rfl | 9, _ => (hlow 9 (by decide)).trans rfl | 10, _ => (hlow 10 (by decide)).trans rfl | 11, _ => (hlow 11 (by decide)).trans rfl | 12, _ => (hlow 12 (by decide)).trans rfl | 13, _ => (hlow 13 (by decide)).trans rfl | 14, _ => (hlow 14 (by decide)).trans rfl | 15, _ => (hlow 15 (by decide)).trans rfl | 16, _ => (hlow 16 (by decide)).trans rfl | 17, _ => (hlow 17 (by decide)).trans rfl | 18, _ => (hlow 18 (by decide)).trans rfl | 19, _ => (hlow 19 (by decide)).trans rfl | 20, _ => hy20 | 21, _ => RgP.val_at (hok 1 21 _ (by decide) rfl rfl) | 22, _ => RgP.val_at (hok 2 22 _ (by decide) rfl rfl) | 23, _ => hy23 | 24, _ => RgP.val_at (hok 4 24 _ (by decide) rfl rfl) | 25, _ => RgP.val_at (hok 5 25 _ (by decide) rfl rfl) | 26, _ => RgP.val_at (hok 6 26 _ (by decide) rfl rfl) | 27, _ => RgP.val_at (hok 7 27 _ (by decide) rfl rfl) | 28, _ => RgP.val_at (hok 8 28 _ (by decide) rfl rfl) | 29, _ => RgP.val_at (hok 9 29 _ (by decide) rfl rfl) | 30, _ => RgP.val_at (hok 10 30 _ (by decide) rfl rfl) | 31, _ => RgP.val_at (hok 11 31 _ (by decide) rfl rfl) | 32, _ => RgP.val_at (hok 12 32 _ (by decide) rfl rfl) | n + 33, h => absurd h (by show ¬ n + 33 < 33; omega))
  clear hs hd hlow hok hy20 hy23
  go_wp2_with fail
  go_ret
  exact ⟨rfl, HB.out.trans ((HV.out.trans (hS.mono HV.out.size)).mono HB.out.size)⟩
set_option maxHeartbeats 4000000 in
set_option maxRecDepth 100000 in
theorem refQu_3 (c h t i : Int) (s1 s2 : ByteArray) (w : World)
    (HW : Hid (∀ V, Calls Tryz.prog 42 #[.agg #[.int .i64 c, .int .i64 h, .int .i64 t, .int .i64 3, .int .i64 i]] V fun e w' => e = .returned (.bool true) ∧ Below V.heap.size V w'))
    (HS : Hid (∀ V (g : Nat), V.heap[g]? = some (.cells #[.int .i64 c, .int .i64 h, .int .i64 t] 3 (0, 0)) → Calls Tryz.prog 36 #[.slice (some ⟨g, 0, none⟩) 3 3] V fun e w' => e = .returned (.string s1) ∧ w' = V)) (hs1 : s1.size ≤ 100)
    (HD : Hid (∀ V, Calls Tryz.prog 35 #[.int .i64 i] V fun e w' => e = .returned (.string s2) ∧ w' = V)) (hs2 : s2.size ≤ 100) :
    Calls Tryz.prog 16 #[.agg #[.int .i64 c, .int .i64 h, .int .i64 t, .int .i64 3, .int .i64 i]] w fun e w' => e = .returned (.string (((((⟨#[107, 101, 101, 112]⟩ : ByteArray) ++ (⟨#[32]⟩ : ByteArray)) ++ s1) ++ (⟨#[32]⟩ : ByteArray)) ++ s2)) ∧ Below w.heap.size w w' := by
  obtain ⟨U, hU⟩ : ∃ U, w.alloc (.cells #[.int .i64 c, .int .i64 h, .int .i64 t, .int .i64 3, .int .i64 i] 36) = U := ⟨_, rfl⟩
  have hb : Below w.heap.size w U := hU ▸ one_box w _
  have hlt : w.heap.size < U.heap.size := by rw [← hU]; simp
  have k1 : U.heap[w.heap.size]? = some (.cells #[.int .i64 c, .int .i64 h, .int .i64 t, .int .i64 3, .int .i64 i] 36 (0, 0)) := by rw [← hU]; exact new_at rfl
  have HK := Lib.hid (fun (V : World) (hV : Below U.heap.size U V) => row5 ((hV.block _ hlt).trans k1))
  obtain ⟨a0, a1, a2, a3, a4⟩ := row5 k1
  have HB := Lib.hid hb
  clear k1 hb
  go_enter Tryz.func16, Tryz.ntmps16
  go_wp2_with (first
    | (go_at_call 42; refine (HW.out _).mono ?_; rintro e w2 ⟨rfl, hb2⟩; have HB2 := Lib.hid hb2; clear hU a0 a1 a2 a3 a4; obtain ⟨a0, a1, a2, a3, a4⟩ := HK.out w2 hb2; clear hb2; have HQ := Lib.hid (fun (g_ : Nat) hg_ => HS.out (w2.alloc (.cells #[.int .i64 c, .int .i64 h, .int .i64 t] 3)) g_ hg_))
    | (go_at_call 36; refine (HQ.out w2.heap.size (new_at rfl)).mono ?_; rintro e w5 ⟨rfl, rfl⟩))
  have hz1 : (((⟨#[107, 101, 101, 112]⟩ : ByteArray) ++ (⟨#[32]⟩ : ByteArray)) ++ s1).size ≤ 105 := by
    rw [ByteArray.size_append]
    show 5 + s1.size ≤ 105
    omega
  have hz2 : ((((⟨#[107, 101, 101, 112]⟩ : ByteArray) ++ (⟨#[32]⟩ : ByteArray)) ++ s1) ++ (⟨#[32]⟩ : ByteArray)).size ≤ 106 := by
    rw [ByteArray.size_append]
    show (((⟨#[107, 101, 101, 112]⟩ : ByteArray) ++ (⟨#[32]⟩ : ByteArray)) ++ s1).size + 1 ≤ 106
    omega
  have HV := Lib.hid (HB2.out.trans ((one_box w2 (.cells #[.int .i64 c, .int .i64 h, .int .i64 t] 3)).mono HB2.out.size))
  clear a0 a1 a2 a3 a4
  refine RgP.region_specs 14 (fun i => (if i = 13 then 2 else 20 + i)) (fun ix_ => match ix_ with | 0 => .row #[.string (⟨#[]⟩ : ByteArray), .string (⟨#[100, 114, 97, 119]⟩ : ByteArray), .string (⟨#[116, 105, 99, 107]⟩ : ByteArray), .string (⟨#[107, 101, 101, 112]⟩ : ByteArray)] 9 4 | 1 => .val (.pointer (some ⟨w.heap.size, 3, none⟩)) | 2 => .val (.int .i64 3) | 3 => .cel (.string (⟨#[107, 101, 101, 112]⟩ : ByteArray)) | 4 => .val (.string (⟨#[107, 101, 101, 112]⟩ : ByteArray)) | 5 => .val (.string ((⟨#[107, 101, 101, 112]⟩ : ByteArray) ++ (⟨#[32]⟩ : ByteArray))) | 6 => .val (.string s1) | 7 => .val (.string (((⟨#[107, 101, 101, 112]⟩ : ByteArray) ++ (⟨#[32]⟩ : ByteArray)) ++ s1)) | 8 => .val (.string ((((⟨#[107, 101, 101, 112]⟩ : ByteArray) ++ (⟨#[32]⟩ : ByteArray)) ++ s1) ++ (⟨#[32]⟩ : ByteArray))) | 9 => .val (.pointer (some ⟨w.heap.size, 4, none⟩)) | 10 => .val (.int .i64 i) | 11 => .val (.string s2) | 12 => .val (.string (((((⟨#[107, 101, 101, 112]⟩ : ByteArray) ++ (⟨#[32]⟩ : ByteArray)) ++ s1) ++ (⟨#[32]⟩ : ByteArray)) ++ s2)) | 13 => .val (.string (((((⟨#[107, 101, 101, 112]⟩ : ByteArray) ++ (⟨#[32]⟩ : ByteArray)) ++ s1) ++ (⟨#[32]⟩ : ByteArray)) ++ s2)) | _ => .val undef) (by kernel_rfl) rfl (by kernel_rfl) (fun i hi => by show (if i = 13 then 2 else 20 + i) < 33; (repeat' split) <;> omega) (fun i j hi hj => by show (if i = 13 then 2 else 20 + i) = (if j = 13 then 2 else 20 + j) → i = j; (repeat' split) <;> omega) ?step ?fin
  case step =>
    intro listed A_ w3 ix op_ hI ho hdep
    have hi : ix < 14 := (Array.getElem?_eq_some_iff.1 ho).1
    have hcase : ix = 0 ∨ ix = 1 ∨ ix = 2 ∨ ix = 3 ∨ ix = 4 ∨ ix = 5 ∨ ix = 6 ∨ ix = 7 ∨ ix = 8 ∨ ix = 9 ∨ ix = 10 ∨ ix = 11 ∨ ix = 12 ∨ ix = 13 := by omega
    have hh := hI.held
    clear hi
    rcases hcase with rfl | rfl | rfl | rfl | rfl | rfl | rfl | rfl | rfl | rfl | rfl | rfl | rfl | rfl
    · simp only [List.getElem?_toArray, List.getElem?_cons_zero, Option.some.injEq] at ho
      subst ho
      refine ⟨rfl, ?_⟩
      clear hI hdep
      exact .run rfl (.slice (some ⟨w3.heap.size, 0, none⟩) 4 4) (w3.alloc (.cells #[.string (⟨#[]⟩ : ByteArray), .string (⟨#[100, 114, 97, 119]⟩ : ByteArray), .string (⟨#[116, 105, 99, 107]⟩ : ByteArray), .string (⟨#[107, 101, 101, 112]⟩ : ByteArray)] 9)) (by simp [execOp, go_sem, Act.eval]) ((Below.refl _ _).alloc (Nat.le_refl _) _) (RgP.new_row _ _ _ _)
    · simp only [List.getElem?_toArray, List.getElem?_cons_succ, List.getElem?_cons_zero, Option.some.injEq] at ho
      subst ho
      refine ⟨rfl, ?_⟩
      have e1 : A_.tmps[1]?.getD undef = .pointer (some ⟨w.heap.size, 0, none⟩) := by rw [hI.low 1 (by decide)]; rfl
      clear hI hdep
      exact .run rfl (.pointer (some ⟨w.heap.size, 3, none⟩)) w3 (by simp [execOp, go_sem, Act.eval, e1]) (Below.refl _ _) rfl
    · simp only [List.getElem?_toArray, List.getElem?_cons_succ, List.getElem?_cons_zero, Option.some.injEq] at ho
      subst ho
      refine ⟨rfl, ?_⟩
      have e21 : A_.tmps[21]?.getD undef = .pointer (some ⟨w.heap.size, 3, none⟩) := getD_of (hI.val_ (i := 1) rfl rfl (by decide) (hdep ⟨1, .data⟩ (by simp) rfl))
      clear hI hdep
      obtain ⟨d0, d1, d2, d3, d4⟩ := HK.out w3 (HV.out.trans (hh.mono HV.out.size))
      exact .run rfl (.int .i64 3) w3 (by simp [execOp, go_sem, Act.eval, *]) (Below.refl _ _) rfl
    · simp only [List.getElem?_toArray, List.getElem?_cons_succ, List.getElem?_cons_zero, Option.some.injEq] at ho
      subst ho
      refine ⟨rfl, ?_⟩
      obtain ⟨g20, e20, r20⟩ := hI.row_ (i := 0) (j := 20) rfl rfl (by decide) (hdep ⟨0, .data⟩ (by simp) rfl)
      have e22 : A_.tmps[22]?.getD undef = .int .i64 3 := getD_of (hI.val_ (i := 2) rfl rfl (by decide) (hdep ⟨2, .data⟩ (by simp) rfl))
      clear hI hdep
      exact .run rfl (.pointer (some ⟨g20, 3, none⟩)) w3 (by simp [execOp, go_sem, Act.eval, e20, e22]) (Below.refl _ _) (RgP.cel_row r20 rfl)
    · simp only [List.getElem?_toArray, List.getElem?_cons_succ, List.getElem?_cons_zero, Option.some.injEq] at ho
      subst ho
      refine ⟨rfl, ?_⟩
      obtain ⟨p23, e23, r23⟩ := hI.cel_ (i := 3) (j := 23) rfl rfl (by decide) (hdep ⟨3, .data⟩ (by simp) rfl)
      clear hI hdep
      obtain ⟨d0, d1, d2, d3, d4⟩ := HK.out w3 (HV.out.trans (hh.mono HV.out.size))
      exact .run rfl (.string (⟨#[107, 101, 101, 112]⟩ : ByteArray)) w3 (by simp [execOp, go_sem, Act.eval, *]) (Below.refl _ _) rfl
    · simp only [List.getElem?_toArray, List.getElem?_cons_succ, List.getElem?_cons_zero, Option.some.injEq] at ho
      subst ho
      refine ⟨rfl, ?_⟩
      have e24 : A_.tmps[24]?.getD undef = .string (⟨#[107, 101, 101, 112]⟩ : ByteArray) := getD_of (hI.val_ (i := 4) rfl rfl (by decide) (hdep ⟨4, .data⟩ (by simp) rfl))
      clear hI hdep
      exact .run rfl (.string ((⟨#[107, 101, 101, 112]⟩ : ByteArray) ++ (⟨#[32]⟩ : ByteArray))) w3 (by simp [execOp, go_sem, Act.eval, *] <;> omega) (Below.refl _ _) rfl
    · simp only [List.getElem?_toArray, List.getElem?_cons_succ, List.getElem?_cons_zero, Option.some.injEq] at ho
      subst ho
      refine ⟨rfl, ?_⟩
      have e4 : A_.tmps[4]?.getD undef = .string s1 := by rw [hI.low 4 (by decide)]; rfl
      clear hI hdep
      exact .run rfl (.string s1) w3 (by simp [execOp, go_sem, Act.eval, e4]) (Below.refl _ _) rfl
    · simp only [List.getElem?_toArray, List.getElem?_cons_succ, List.getElem?_cons_zero, Option.some.injEq] at ho
      subst ho
      refine ⟨rfl, ?_⟩
      have e25 : A_.tmps[25]?.getD undef = .string ((⟨#[107, 101, 101, 112]⟩ : ByteArray) ++ (⟨#[32]⟩ : ByteArray)) := getD_of (hI.val_ (i := 5) rfl rfl (by decide) (hdep ⟨5, .data⟩ (by simp) rfl))
      have e26 : A_.tmps[26]?.getD undef = .string s1 := getD_of (hI.val_ (i := 6) rfl rfl (by decide) (hdep ⟨6, .data⟩ (by simp) rfl))
      clear hI hdep
      exact .run rfl (.string (((⟨#[107, 101, 101, 112]⟩ : ByteArray) ++ (⟨#[32]⟩ : ByteArray)) ++ s1)) w3 (by simp [execOp, go_sem, Act.eval, *] <;> omega) (Below.refl _ _) rfl
    · simp only [List.getElem?_toArray, List.getElem?_cons_succ, List.getElem?_cons_zero, Option.some.injEq] at ho
      subst ho
      refine ⟨rfl, ?_⟩
      have e27 : A_.tmps[27]?.getD undef = .string (((⟨#[107, 101, 101, 112]⟩ : ByteArray) ++ (⟨#[32]⟩ : ByteArray)) ++ s1) := getD_of (hI.val_ (i := 7) rfl rfl (by decide) (hdep ⟨7, .data⟩ (by simp) rfl))
      clear hI hdep
      exact .run rfl (.string ((((⟨#[107, 101, 101, 112]⟩ : ByteArray) ++ (⟨#[32]⟩ : ByteArray)) ++ s1) ++ (⟨#[32]⟩ : ByteArray))) w3 (by simp [execOp, go_sem, Act.eval, *] <;> omega) (Below.refl _ _) rfl
    · simp only [List.getElem?_toArray, List.getElem?_cons_succ, List.getElem?_cons_zero, Option.some.injEq] at ho
      subst ho
      refine ⟨rfl, ?_⟩
      have e1 : A_.tmps[1]?.getD undef = .pointer (some ⟨w.heap.size, 0, none⟩) := by rw [hI.low 1 (by decide)]; rfl
      clear hI hdep
      exact .run rfl (.pointer (some ⟨w.heap.size, 4, none⟩)) w3 (by simp [execOp, go_sem, Act.eval, e1]) (Below.refl _ _) rfl
    · simp only [List.getElem?_toArray, List.getElem?_cons_succ, List.getElem?_cons_zero, Option.some.injEq] at ho
      subst ho
      refine ⟨rfl, ?_⟩
      have e29 : A_.tmps[29]?.getD undef = .pointer (some ⟨w.heap.size, 4, none⟩) := getD_of (hI.val_ (i := 9) rfl rfl (by decide) (hdep ⟨9, .data⟩ (by simp) rfl))
      clear hI hdep
      obtain ⟨d0, d1, d2, d3, d4⟩ := HK.out w3 (HV.out.trans (hh.mono HV.out.size))
      exact .run rfl (.int .i64 i) w3 (by simp [execOp, go_sem, Act.eval, *]) (Below.refl _ _) rfl
    · simp only [List.getElem?_toArray, List.getElem?_cons_succ, List.getElem?_cons_zero, Option.some.injEq] at ho
      subst ho
      refine ⟨rfl, ?_⟩
      have e30 : A_.tmps[30]?.getD undef = .int .i64 i := getD_of (hI.val_ (i := 10) rfl rfl (by decide) (hdep ⟨10, .data⟩ (by simp) rfl))
      clear hI hdep
      exact .call rfl 35 #[.int .i64 i] (.string s2) (by simp [go_sem, Act.eval, e30]) rfl ((HD.out w3).mono fun _ _ h => ⟨h.1, h.2 ▸ Below.refl _ _⟩)
    · simp only [List.getElem?_toArray, List.getElem?_cons_succ, List.getElem?_cons_zero, Option.some.injEq] at ho
      subst ho
      refine ⟨rfl, ?_⟩
      have e28 : A_.tmps[28]?.getD undef = .string ((((⟨#[107, 101, 101, 112]⟩ : ByteArray) ++ (⟨#[32]⟩ : ByteArray)) ++ s1) ++ (⟨#[32]⟩ : ByteArray)) := getD_of (hI.val_ (i := 8) rfl rfl (by decide) (hdep ⟨8, .data⟩ (by simp) rfl))
      have e31 : A_.tmps[31]?.getD undef = .string s2 := getD_of (hI.val_ (i := 11) rfl rfl (by decide) (hdep ⟨11, .data⟩ (by simp) rfl))
      clear hI hdep
      exact .run rfl (.string (((((⟨#[107, 101, 101, 112]⟩ : ByteArray) ++ (⟨#[32]⟩ : ByteArray)) ++ s1) ++ (⟨#[32]⟩ : ByteArray)) ++ s2)) w3 (by simp [execOp, go_sem, Act.eval, *] <;> omega) (Below.refl _ _) rfl
    · simp only [List.getElem?_toArray, List.getElem?_cons_succ, List.getElem?_cons_zero, Option.some.injEq] at ho
      subst ho
      refine ⟨rfl, ?_⟩
      have e32 : A_.tmps[32]?.getD undef = .string (((((⟨#[107, 101, 101, 112]⟩ : ByteArray) ++ (⟨#[32]⟩ : ByteArray)) ++ s1) ++ (⟨#[32]⟩ : ByteArray)) ++ s2) := getD_of (hI.val_ (i := 12) rfl rfl (by decide) (hdep ⟨12, .data⟩ (by simp) rfl))
      clear hI hdep
      exact .run rfl (.string (((((⟨#[107, 101, 101, 112]⟩ : ByteArray) ++ (⟨#[32]⟩ : ByteArray)) ++ s1) ++ (⟨#[32]⟩ : ByteArray)) ++ s2)) w3 (by simp [execOp, go_sem, Act.eval, e32]) (Below.refl _ _) rfl
  case fin =>
  intro A_ w3 hs hd hlow hS hok
  obtain ⟨y20, hy20⟩ := RgP.row_at (hok 0 20 _ (by decide) rfl rfl)
  obtain ⟨y23, hy23⟩ := RgP.cel_at (hok 3 23 _ (by decide) rfl rfl)
  obtain rfl : A_ = ⟨#[.agg #[.int .i64 c, .int .i64 h, .int .i64 t, .int .i64 3, .int .i64 i], .pointer (some ⟨w.heap.size, 0, none⟩), .string (((((⟨#[107, 101, 101, 112]⟩ : ByteArray) ++ (⟨#[32]⟩ : ByteArray)) ++ s1) ++ (⟨#[32]⟩ : ByteArray)) ++ s2), .bool true, .string s1, .agg #[.int .i64 c, .int .i64 h, .int .i64 t, .int .i64 3, .int .i64 i], .bool true, .bool true, .bool false, .pointer (some ⟨w.heap.size, 0, none⟩), .pointer (some ⟨w.heap.size, 0, none⟩), .int .i64 c, .pointer (some ⟨w.heap.size, 0, none⟩), .pointer (some ⟨w.heap.size, 1, none⟩), .int .i64 h, .pointer (some ⟨w.heap.size, 0, none⟩), .pointer (some ⟨w.heap.size, 2, none⟩), .int .i64 t, .slice (some ⟨w2.heap.size, 0, none⟩) 3 3, .string s1, y20, .pointer (some ⟨w.heap.size, 3, none⟩), .int .i64 3, y23, .string (⟨#[107, 101, 101, 112]⟩ : ByteArray), .string ((⟨#[107, 101, 101, 112]⟩ : ByteArray) ++ (⟨#[32]⟩ : ByteArray)), .string s1, .string (((⟨#[107, 101, 101, 112]⟩ : ByteArray) ++ (⟨#[32]⟩ : ByteArray)) ++ s1), .string ((((⟨#[107, 101, 101, 112]⟩ : ByteArray) ++ (⟨#[32]⟩ : ByteArray)) ++ s1) ++ (⟨#[32]⟩ : ByteArray)), .pointer (some ⟨w.heap.size, 4, none⟩), .int .i64 i, .string s2, .string (((((⟨#[107, 101, 101, 112]⟩ : ByteArray) ++ (⟨#[32]⟩ : ByteArray)) ++ s1) ++ (⟨#[32]⟩ : ByteArray)) ++ s2)], []⟩ := act_ext hd hs (fun j hj => match j, hj with | 0, _ => (hlow 0 (by decide)).trans rfl | 1, _ => (hlow 1 (by decide)).trans rfl | 2, _ => RgP.val_at (hok 13 2 _ (by decide) rfl rfl) | 3, _ => (hlow 3 (by decide)).trans rfl | 4, _ => (hlow 4 (by decide)).trans rfl | 5, _ => (hlow 5 (by decide)).trans rfl | 6, _ => (hlow 6 (by decide)).trans rfl | 7, _ => (hlow 7 (by decide)).trans rfl | 8, _ => (hlow 8 (by decide)).trans rfl | 9, _ => (hlow 9 (by decide)).trans rfl | 10, _ => (hlow 10 (by decide)).trans rfl | 11, _ => (hlow 11 (by decide)).trans rfl | 12, _ => (hlow 12 (by decide)).trans rfl | 13, _ => (hlow 13 (by decide)).trans rfl | 14, _ => (hlow 14 (by decide)).trans rfl | 15, _ => (hlow 15 (by decide)).trans rfl | 16, _ => (hlow 16 (by decide)).trans rfl | 17, _ => (hlow 17 (by decide)).trans rfl | 18, _ => (hlow 18 (by decide)).trans rfl | 19, _ => (hlow 19 (by decide)).trans rfl | 20, _ => hy20 | 21, _ => RgP.val_at (hok 1 21 _ (by decide) rfl rfl) | 22, _ => RgP.val_at (hok 2 22 _ (by decide) rfl rfl) | 23, _ => hy23 | 24, _ => RgP.val_at (hok 4 24 _ (by decide) rfl rfl) | 25, _ => RgP.val_at (hok 5 25 _ (by decide) rfl rfl) | 26, _ => RgP.val_at (hok 6 26 _ (by decide) rfl rfl) | 27, _ => RgP.val_at (hok 7 27 _ (by decide) rfl rfl) | 28, _ => RgP.val_at (hok 8 28 _ (by decide) rfl rfl) | 29, _ => RgP.val_at (hok 9 29 _ (by decide) rfl rfl) | 30, _ => RgP.val_at (hok 10 30 _ (by decide) rfl rfl) | 31, _ => RgP.val_at (hok 11 31 _ (by decide) rfl rfl) | 32, _ => RgP.val_at (hok 12 32 _ (by decide) rfl rfl) | n + 33, h => absurd h (by show ¬ n + 33 < 33; omega))
  clear hs hd hlow hok hy20 hy23
  go_wp2_with fail
  go_ret
  exact ⟨rfl, HB.out.trans ((HV.out.trans (hS.mono HV.out.size)).mono HB.out.size)⟩
theorem refQuestion_any (q : NM.Qu) (w : World) (hf : NM.okQ q = true) : Calls Tryz.prog 16 #[quV q] w fun x w' => x = .returned (.string (NM.bs (NM.quT q))) ∧ Below w.heap.size w w' := by
  obtain ⟨h1, ⟨⟨c0, c1⟩, ⟨c2, c3⟩, c4⟩, h3⟩ := NM.okQ_iff.1 hf
  have ht := NM.quT_eq hf
  have hokC : NM.okC q.c q.h q.t 40 = true := NM.okC_iff.2 ⟨⟨c0, c1⟩, ⟨c2, c3⟩, c4⟩
  obtain ⟨c, h, t, k, i⟩ := q
  simp only at h1 c0 c1 c2 c3 c4 h3 hokC
  have HD := Lib.hid (fun V => decimal_any h3 V)
  have z2 := bs_sizes h3
  have hall : ∀ x ∈ [c, h, t], NM.Nn x := by
    intro x hx
    simp only [List.mem_cons, List.not_mem_nil, or_false] at hx
    rcases hx with rfl | rfl | rfl
    · exact NM.nn_small c0 c1 (by decide)
    · exact NM.nn_small c2 c3 (by decide)
    · exact c4
  have z1 := dots_size hall (by simp)
  have HS := Lib.hid (fun (V : World) (g : Nat) (hg : V.heap[g]? = some (.cells #[.int .i64 c, .int .i64 h, .int .i64 t] 3 (0, 0))) => dotsR_any (n := 3) [c, h, t] V hg rfl (by omega) hall)
  clear hall hf
  rw [ht]
  simp only [NM.dots_one]
  rcases NM.qkind_cases h1 with rfl | rfl | rfl
  · have HW := Lib.hid (fun V => wellQ 1 c h t i V (by omega) hokC h3)
    refine (refQu_1 c h t i _ _ w HW HS z1 HD z2).mono ?_
    rintro x w' ⟨rfl, hb⟩
    exact ⟨congrArg (fun s => Ending.returned (.string s)) (text_three (NM.qword 1) (NM.dots [c, h, t]) (Lib.itoa i)), hb⟩
  · have HW := Lib.hid (fun V => wellQ 2 c h t i V (by omega) hokC h3)
    refine (refQu_2 c h t i _ _ w HW HS z1 HD z2).mono ?_
    rintro x w' ⟨rfl, hb⟩
    exact ⟨congrArg (fun s => Ending.returned (.string s)) (text_three (NM.qword 2) (NM.dots [c, h, t]) (Lib.itoa i)), hb⟩
  · have HW := Lib.hid (fun V => wellQ 3 c h t i V (by omega) hokC h3)
    refine (refQu_3 c h t i _ _ w HW HS z1 HD z2).mono ?_
    rintro x w' ⟨rfl, hb⟩
    exact ⟨congrArg (fun s => Ending.returned (.string s)) (text_three (NM.qword 3) (NM.dots [c, h, t]) (Lib.itoa i)), hb⟩
end Go.Proofs.YtggallpnbbidfaaGreatDoor
