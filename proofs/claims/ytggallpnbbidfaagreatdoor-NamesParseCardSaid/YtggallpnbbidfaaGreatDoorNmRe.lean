/-
  The reference's text of an event that fits.
-/
import Derived.Test.YtggallpnbbidfaaGreatDoorNmRw
import Derived.Test.YtggallpnbbidfaaGreatDoorRgP
namespace Go.Proofs.YtggallpnbbidfaaGreatDoor
open Go Go.RowKit Go.Proofs
attribute [local go_sem] Oper.semAt_some

theorem msgKey_any (c h t i p : Int) (w : World) : Calls Tryz.prog 37 #[.agg #[.int .i64 c, .int .i64 h, .int .i64 t, .int .i64 i, .int .i64 p]] w fun e w' => (∃ g, e = .returned (.slice (some ⟨g, 0, none⟩) 5 5) ∧ w'.heap[g]? = some (.cells #[.int .i64 c, .int .i64 h, .int .i64 t, .int .i64 i, .int .i64 p] 3 (0, 0))) ∧ Below w.heap.size w w' := by
  obtain ⟨U, hU⟩ : ∃ U, w.alloc (.cells #[.int .i64 c, .int .i64 h, .int .i64 t, .int .i64 i, .int .i64 p] 26) = U := ⟨_, rfl⟩
  have hb : Below w.heap.size w U := hU ▸ one_box w _
  have k1 : U.heap[w.heap.size]? = some (.cells #[.int .i64 c, .int .i64 h, .int .i64 t, .int .i64 i, .int .i64 p] 26 (0, 0)) := by rw [← hU]; exact new_at rfl
  obtain ⟨a0, a1, a2, a3, a4⟩ := row5 k1
  have HB := Lib.hid hb
  clear k1 hb
  go_enter Tryz.func37, Tryz.ntmps37
  go_wp2_with fail
  go_ret
  exact ⟨⟨U.heap.size, rfl, new_at rfl⟩, HB.out.trans ((one_box U _).mono HB.out.size)⟩
set_option maxHeartbeats 4000000 in
set_option maxRecDepth 100000 in
theorem refEv_1 (n a : Int) (s1 s2 : ByteArray) (w : World)
    (HW : Hid (∀ V, Calls Tryz.prog 34 #[.agg #[.int .i64 1, .int .i64 n, .int .i64 a, .int .i64 0, .int .i64 0, .int .i64 0, .int .i64 0, .int .i64 0]] V fun e w' => e = .returned (.bool true) ∧ Below V.heap.size V w'))
    (HD1 : Hid (∀ V, Calls Tryz.prog 35 #[.int .i64 n] V fun e w' => e = .returned (.string s1) ∧ w' = V)) (hs1 : s1.size ≤ 100)
    (HD2 : Hid (∀ V, Calls Tryz.prog 35 #[.int .i64 a] V fun e w' => e = .returned (.string s2) ∧ w' = V)) (hs2 : s2.size ≤ 100) :
    Calls Tryz.prog 14 #[.agg #[.int .i64 1, .int .i64 n, .int .i64 a, .int .i64 0, .int .i64 0, .int .i64 0, .int .i64 0, .int .i64 0]] w fun e w' => e = .returned (.string (((((⟨#[115, 116, 97, 114, 116]⟩ : ByteArray) ++ (⟨#[32]⟩ : ByteArray)) ++ s1) ++ (⟨#[32]⟩ : ByteArray)) ++ s2)) ∧ Below w.heap.size w w' := by
  obtain ⟨U, hU⟩ : ∃ U, w.alloc (.cells #[.int .i64 1, .int .i64 n, .int .i64 a, .int .i64 0, .int .i64 0, .int .i64 0, .int .i64 0, .int .i64 0] 28) = U := ⟨_, rfl⟩
  have hb : Below w.heap.size w U := hU ▸ one_box w _
  have hlt : w.heap.size < U.heap.size := by rw [← hU]; simp
  have k1 : U.heap[w.heap.size]? = some (.cells #[.int .i64 1, .int .i64 n, .int .i64 a, .int .i64 0, .int .i64 0, .int .i64 0, .int .i64 0, .int .i64 0] 28 (0, 0)) := by rw [← hU]; exact new_at rfl
  have HK := Lib.hid (fun (V : World) (hV : Below U.heap.size U V) => row8 ((hV.block _ hlt).trans k1))
  obtain ⟨a0, a1, a2, a3, a4, a5, a6, a7⟩ := row8 k1
  have HB := Lib.hid hb
  clear k1 hb
  go_enter Tryz.func14, Tryz.ntmps14
  go_wp2_with (go_at_call 34; refine (HW.out _).mono ?_; rintro e w2 ⟨rfl, hb2⟩; have HB2 := Lib.hid hb2; clear hb2 hU a0 a1 a2 a3 a4 a5 a6 a7)
  refine RgP.region_specs 11 (fun i => (if i = 10 then 4 else 9 + i)) (fun ix_ => match ix_ with | 0 => .row #[.string (⟨#[]⟩ : ByteArray), .string (⟨#[115, 116, 97, 114, 116]⟩ : ByteArray), .string (⟨#[105, 110, 118, 111, 107, 101]⟩ : ByteArray), .string (⟨#[100, 101, 108, 105, 118, 101, 114]⟩ : ByteArray), .string (⟨#[116, 105, 109, 101, 114]⟩ : ByteArray), .string (⟨#[100, 114, 111, 112]⟩ : ByteArray), .string (⟨#[100, 117, 112]⟩ : ByteArray), .string (⟨#[99, 114, 97, 115, 104]⟩ : ByteArray)] 9 8 | 1 => .val (.pointer (some ⟨w.heap.size, 0, none⟩)) | 2 => .val (.int .i64 1) | 3 => .cel (.string (⟨#[115, 116, 97, 114, 116]⟩ : ByteArray)) | 4 => .val (.string (⟨#[115, 116, 97, 114, 116]⟩ : ByteArray)) | 5 => .val (.string ((⟨#[115, 116, 97, 114, 116]⟩ : ByteArray) ++ (⟨#[32]⟩ : ByteArray))) | 6 => .val (.pointer (some ⟨w.heap.size, 1, none⟩)) | 7 => .val (.int .i64 n) | 8 => .val (.string s1) | 9 => .val (.string (((⟨#[115, 116, 97, 114, 116]⟩ : ByteArray) ++ (⟨#[32]⟩ : ByteArray)) ++ s1)) | 10 => .val (.string (((⟨#[115, 116, 97, 114, 116]⟩ : ByteArray) ++ (⟨#[32]⟩ : ByteArray)) ++ s1)) | _ => .val undef) (by kernel_rfl) rfl (by kernel_rfl) (fun i hi => by show (if i = 10 then 4 else 9 + i) < 41; (repeat' split) <;> omega) (fun i j hi hj => by show (if i = 10 then 4 else 9 + i) = (if j = 10 then 4 else 9 + j) → i = j; (repeat' split) <;> omega) ?step ?fin
  case step =>
    intro listed A_ w3 ix op_ hI ho hdep
    have hi : ix < 11 := (Array.getElem?_eq_some_iff.1 ho).1
    have hcase : ix = 0 ∨ ix = 1 ∨ ix = 2 ∨ ix = 3 ∨ ix = 4 ∨ ix = 5 ∨ ix = 6 ∨ ix = 7 ∨ ix = 8 ∨ ix = 9 ∨ ix = 10 := by omega
    have hh := hI.held
    clear hi
    rcases hcase with rfl | rfl | rfl | rfl | rfl | rfl | rfl | rfl | rfl | rfl | rfl
    · simp only [List.getElem?_toArray, List.getElem?_cons_zero, Option.some.injEq] at ho
      subst ho
      refine ⟨rfl, ?_⟩
      clear hI hdep
      exact .run rfl (.slice (some ⟨w3.heap.size, 0, none⟩) 8 8) (w3.alloc (.cells #[.string (⟨#[]⟩ : ByteArray), .string (⟨#[115, 116, 97, 114, 116]⟩ : ByteArray), .string (⟨#[105, 110, 118, 111, 107, 101]⟩ : ByteArray), .string (⟨#[100, 101, 108, 105, 118, 101, 114]⟩ : ByteArray), .string (⟨#[116, 105, 109, 101, 114]⟩ : ByteArray), .string (⟨#[100, 114, 111, 112]⟩ : ByteArray), .string (⟨#[100, 117, 112]⟩ : ByteArray), .string (⟨#[99, 114, 97, 115, 104]⟩ : ByteArray)] 9)) (by simp [execOp, go_sem, Act.eval]) ((Below.refl _ _).alloc (Nat.le_refl _) _) (RgP.new_row _ _ _ _)
    · simp only [List.getElem?_toArray, List.getElem?_cons_succ, List.getElem?_cons_zero, Option.some.injEq] at ho
      subst ho
      refine ⟨rfl, ?_⟩
      have e1 : A_.tmps[1]?.getD undef = .pointer (some ⟨w.heap.size, 0, none⟩) := by rw [hI.low 1 (by decide)]; rfl
      clear hI hdep
      exact .run rfl (.pointer (some ⟨w.heap.size, 0, none⟩)) w3 (by simp [execOp, go_sem, Act.eval, e1]) (Below.refl _ _) rfl
    · simp only [List.getElem?_toArray, List.getElem?_cons_succ, List.getElem?_cons_zero, Option.some.injEq] at ho
      subst ho
      refine ⟨rfl, ?_⟩
      have e10 : A_.tmps[10]?.getD undef = .pointer (some ⟨w.heap.size, 0, none⟩) := getD_of (hI.val_ (i := 1) rfl rfl (by decide) (hdep ⟨1, .data⟩ (by simp) rfl))
      clear hI hdep
      obtain ⟨d0, d1, d2, d3, d4, d5, d6, d7⟩ := HK.out w3 (HB2.out.trans (hh.mono HB2.out.size))
      exact .run rfl (.int .i64 1) w3 (by simp [execOp, go_sem, Act.eval, *]) (Below.refl _ _) rfl
    · simp only [List.getElem?_toArray, List.getElem?_cons_succ, List.getElem?_cons_zero, Option.some.injEq] at ho
      subst ho
      refine ⟨rfl, ?_⟩
      obtain ⟨g9, e9, r9⟩ := hI.row_ (i := 0) (j := 9) rfl rfl (by decide) (hdep ⟨0, .data⟩ (by simp) rfl)
      have e11 : A_.tmps[11]?.getD undef = .int .i64 1 := getD_of (hI.val_ (i := 2) rfl rfl (by decide) (hdep ⟨2, .data⟩ (by simp) rfl))
      clear hI hdep
      exact .run rfl (.pointer (some ⟨g9, 1, none⟩)) w3 (by simp [execOp, go_sem, Act.eval, e9, e11]) (Below.refl _ _) (RgP.cel_row r9 rfl)
    · simp only [List.getElem?_toArray, List.getElem?_cons_succ, List.getElem?_cons_zero, Option.some.injEq] at ho
      subst ho
      refine ⟨rfl, ?_⟩
      obtain ⟨p12, e12, r12⟩ := hI.cel_ (i := 3) (j := 12) rfl rfl (by decide) (hdep ⟨3, .data⟩ (by simp) rfl)
      clear hI hdep
      obtain ⟨d0, d1, d2, d3, d4, d5, d6, d7⟩ := HK.out w3 (HB2.out.trans (hh.mono HB2.out.size))
      exact .run rfl (.string (⟨#[115, 116, 97, 114, 116]⟩ : ByteArray)) w3 (by simp [execOp, go_sem, Act.eval, *]) (Below.refl _ _) rfl
    · simp only [List.getElem?_toArray, List.getElem?_cons_succ, List.getElem?_cons_zero, Option.some.injEq] at ho
      subst ho
      refine ⟨rfl, ?_⟩
      have e13 : A_.tmps[13]?.getD undef = .string (⟨#[115, 116, 97, 114, 116]⟩ : ByteArray) := getD_of (hI.val_ (i := 4) rfl rfl (by decide) (hdep ⟨4, .data⟩ (by simp) rfl))
      clear hI hdep
      exact .run rfl (.string ((⟨#[115, 116, 97, 114, 116]⟩ : ByteArray) ++ (⟨#[32]⟩ : ByteArray))) w3 (by simp [execOp, go_sem, Act.eval, *] <;> omega) (Below.refl _ _) rfl
    · simp only [List.getElem?_toArray, List.getElem?_cons_succ, List.getElem?_cons_zero, Option.some.injEq] at ho
      subst ho
      refine ⟨rfl, ?_⟩
      have e1 : A_.tmps[1]?.getD undef = .pointer (some ⟨w.heap.size, 0, none⟩) := by rw [hI.low 1 (by decide)]; rfl
      clear hI hdep
      exact .run rfl (.pointer (some ⟨w.heap.size, 1, none⟩)) w3 (by simp [execOp, go_sem, Act.eval, e1]) (Below.refl _ _) rfl
    · simp only [List.getElem?_toArray, List.getElem?_cons_succ, List.getElem?_cons_zero, Option.some.injEq] at ho
      subst ho
      refine ⟨rfl, ?_⟩
      have e15 : A_.tmps[15]?.getD undef = .pointer (some ⟨w.heap.size, 1, none⟩) := getD_of (hI.val_ (i := 6) rfl rfl (by decide) (hdep ⟨6, .data⟩ (by simp) rfl))
      clear hI hdep
      obtain ⟨d0, d1, d2, d3, d4, d5, d6, d7⟩ := HK.out w3 (HB2.out.trans (hh.mono HB2.out.size))
      exact .run rfl (.int .i64 n) w3 (by simp [execOp, go_sem, Act.eval, *]) (Below.refl _ _) rfl
    · simp only [List.getElem?_toArray, List.getElem?_cons_succ, List.getElem?_cons_zero, Option.some.injEq] at ho
      subst ho
      refine ⟨rfl, ?_⟩
      have e16 : A_.tmps[16]?.getD undef = .int .i64 n := getD_of (hI.val_ (i := 7) rfl rfl (by decide) (hdep ⟨7, .data⟩ (by simp) rfl))
      clear hI hdep
      exact .call rfl 35 #[.int .i64 n] (.string s1) (by simp [go_sem, Act.eval, e16]) rfl ((HD1.out w3).mono fun _ _ h => ⟨h.1, h.2 ▸ Below.refl _ _⟩)
    · simp only [List.getElem?_toArray, List.getElem?_cons_succ, List.getElem?_cons_zero, Option.some.injEq] at ho
      subst ho
      refine ⟨rfl, ?_⟩
      have e14 : A_.tmps[14]?.getD undef = .string ((⟨#[115, 116, 97, 114, 116]⟩ : ByteArray) ++ (⟨#[32]⟩ : ByteArray)) := getD_of (hI.val_ (i := 5) rfl rfl (by decide) (hdep ⟨5, .data⟩ (by simp) rfl))
      have e17 : A_.tmps[17]?.getD undef = .string s1 := getD_of (hI.val_ (i := 8) rfl rfl (by decide) (hdep ⟨8, .data⟩ (by simp) rfl))
      clear hI hdep
      exact .run rfl (.string (((⟨#[115, 116, 97, 114, 116]⟩ : ByteArray) ++ (⟨#[32]⟩ : ByteArray)) ++ s1)) w3 (by simp [execOp, go_sem, Act.eval, *] <;> omega) (Below.refl _ _) rfl
    · simp only [List.getElem?_toArray, List.getElem?_cons_succ, List.getElem?_cons_zero, Option.some.injEq] at ho
      subst ho
      refine ⟨rfl, ?_⟩
      have e18 : A_.tmps[18]?.getD undef = .string (((⟨#[115, 116, 97, 114, 116]⟩ : ByteArray) ++ (⟨#[32]⟩ : ByteArray)) ++ s1) := getD_of (hI.val_ (i := 9) rfl rfl (by decide) (hdep ⟨9, .data⟩ (by simp) rfl))
      clear hI hdep
      exact .run rfl (.string (((⟨#[115, 116, 97, 114, 116]⟩ : ByteArray) ++ (⟨#[32]⟩ : ByteArray)) ++ s1)) w3 (by simp [execOp, go_sem, Act.eval, e18]) (Below.refl _ _) rfl
  case fin =>
  intro A_ w3 hs hd hlow hS hok
  obtain ⟨y9, hy9⟩ := RgP.row_at (hok 0 9 _ (by decide) rfl rfl)
  obtain ⟨y12, hy12⟩ := RgP.cel_at (hok 3 12 _ (by decide) rfl rfl)
  obtain rfl : A_ = ⟨#[.agg #[.int .i64 1, .int .i64 n, .int .i64 a, .int .i64 0, .int .i64 0, .int .i64 0, .int .i64 0, .int .i64 0], .pointer (some ⟨w.heap.size, 0, none⟩), .string (⟨#[]⟩ : ByteArray), .bool true, .string (((⟨#[115, 116, 97, 114, 116]⟩ : ByteArray) ++ (⟨#[32]⟩ : ByteArray)) ++ s1), .agg #[.int .i64 1, .int .i64 n, .int .i64 a, .int .i64 0, .int .i64 0, .int .i64 0, .int .i64 0, .int .i64 0], .bool true, .bool true, .bool false, y9, .pointer (some ⟨w.heap.size, 0, none⟩), .int .i64 1, y12, .string (⟨#[115, 116, 97, 114, 116]⟩ : ByteArray), .string ((⟨#[115, 116, 97, 114, 116]⟩ : ByteArray) ++ (⟨#[32]⟩ : ByteArray)), .pointer (some ⟨w.heap.size, 1, none⟩), .int .i64 n, .string s1, .string (((⟨#[115, 116, 97, 114, 116]⟩ : ByteArray) ++ (⟨#[32]⟩ : ByteArray)) ++ s1), undef, undef, undef, undef, undef, undef, undef, undef, undef, undef, undef, undef, undef, undef, undef, undef, undef, undef, undef, undef, undef, undef], []⟩ := act_ext hd hs (fun j hj => match j, hj with | 0, _ => (hlow 0 (by decide)).trans rfl | 1, _ => (hlow 1 (by decide)).trans rfl | 2, _ => (hlow 2 (by decide)).trans rfl | 3, _ => (hlow 3 (by decide)).trans rfl | 4, _ => RgP.val_at (hok 10 4 _ (by decide) rfl rfl) | 5, _ => (hlow 5 (by decide)).trans rfl | 6, _ => (hlow 6 (by decide)).trans rfl | 7, _ => (hlow 7 (by decide)).trans rfl | 8, _ => (hlow 8 (by decide)).trans rfl | 9, _ => hy9 | 10, _ => RgP.val_at (hok 1 10 _ (by decide) rfl rfl) | 11, _ => RgP.val_at (hok 2 11 _ (by decide) rfl rfl) | 12, _ => hy12 | 13, _ => RgP.val_at (hok 4 13 _ (by decide) rfl rfl) | 14, _ => RgP.val_at (hok 5 14 _ (by decide) rfl rfl) | 15, _ => RgP.val_at (hok 6 15 _ (by decide) rfl rfl) | 16, _ => RgP.val_at (hok 7 16 _ (by decide) rfl rfl) | 17, _ => RgP.val_at (hok 8 17 _ (by decide) rfl rfl) | 18, _ => RgP.val_at (hok 9 18 _ (by decide) rfl rfl) | 19, _ => (hlow 19 (by decide)).trans rfl | 20, _ => (hlow 20 (by decide)).trans rfl | 21, _ => (hlow 21 (by decide)).trans rfl | 22, _ => (hlow 22 (by decide)).trans rfl | 23, _ => (hlow 23 (by decide)).trans rfl | 24, _ => (hlow 24 (by decide)).trans rfl | 25, _ => (hlow 25 (by decide)).trans rfl | 26, _ => (hlow 26 (by decide)).trans rfl | 27, _ => (hlow 27 (by decide)).trans rfl | 28, _ => (hlow 28 (by decide)).trans rfl | 29, _ => (hlow 29 (by decide)).trans rfl | 30, _ => (hlow 30 (by decide)).trans rfl | 31, _ => (hlow 31 (by decide)).trans rfl | 32, _ => (hlow 32 (by decide)).trans rfl | 33, _ => (hlow 33 (by decide)).trans rfl | 34, _ => (hlow 34 (by decide)).trans rfl | 35, _ => (hlow 35 (by decide)).trans rfl | 36, _ => (hlow 36 (by decide)).trans rfl | 37, _ => (hlow 37 (by decide)).trans rfl | 38, _ => (hlow 38 (by decide)).trans rfl | 39, _ => (hlow 39 (by decide)).trans rfl | 40, _ => (hlow 40 (by decide)).trans rfl | n + 41, h => absurd h (by show ¬ n + 41 < 41; omega))
  clear hs hd hlow hok hy9 hy12
  obtain ⟨d0, d1, d2, d3, d4, d5, d6, d7⟩ := HK.out w3 (HB2.out.trans (hS.mono HB2.out.size))
  have hz : (((⟨#[115, 116, 97, 114, 116]⟩ : ByteArray) ++ (⟨#[32]⟩ : ByteArray)) ++ s1).size ≤ 1000 := by
    rw [ByteArray.size_append]
    show 6 + s1.size ≤ 1000
    omega
  generalize hR : (((⟨#[115, 116, 97, 114, 116]⟩ : ByteArray) ++ (⟨#[32]⟩ : ByteArray)) ++ s1) = R at *
  have hz2 : (R ++ (⟨#[32]⟩ : ByteArray)).size ≤ 1001 := by
    rw [ByteArray.size_append]
    show R.size + 1 ≤ 1001
    omega
  go_wp2_with (go_at_call 35; refine (HD2.out _).mono ?_; rintro e w5 ⟨rfl, rfl⟩)
  go_ret
  exact ⟨by rw [hR]; rfl, HB.out.trans ((HB2.out.trans (hS.mono HB2.out.size)).mono HB.out.size)⟩
set_option maxHeartbeats 4000000 in
set_option maxRecDepth 100000 in
theorem refEv_2 (n a : Int) (s1 s2 : ByteArray) (w : World)
    (HW : Hid (∀ V, Calls Tryz.prog 34 #[.agg #[.int .i64 2, .int .i64 n, .int .i64 a, .int .i64 0, .int .i64 0, .int .i64 0, .int .i64 0, .int .i64 0]] V fun e w' => e = .returned (.bool true) ∧ Below V.heap.size V w'))
    (HD1 : Hid (∀ V, Calls Tryz.prog 35 #[.int .i64 n] V fun e w' => e = .returned (.string s1) ∧ w' = V)) (hs1 : s1.size ≤ 100)
    (HD2 : Hid (∀ V, Calls Tryz.prog 35 #[.int .i64 a] V fun e w' => e = .returned (.string s2) ∧ w' = V)) (hs2 : s2.size ≤ 100) :
    Calls Tryz.prog 14 #[.agg #[.int .i64 2, .int .i64 n, .int .i64 a, .int .i64 0, .int .i64 0, .int .i64 0, .int .i64 0, .int .i64 0]] w fun e w' => e = .returned (.string (((((⟨#[105, 110, 118, 111, 107, 101]⟩ : ByteArray) ++ (⟨#[32]⟩ : ByteArray)) ++ s1) ++ (⟨#[32]⟩ : ByteArray)) ++ s2)) ∧ Below w.heap.size w w' := by
  obtain ⟨U, hU⟩ : ∃ U, w.alloc (.cells #[.int .i64 2, .int .i64 n, .int .i64 a, .int .i64 0, .int .i64 0, .int .i64 0, .int .i64 0, .int .i64 0] 28) = U := ⟨_, rfl⟩
  have hb : Below w.heap.size w U := hU ▸ one_box w _
  have hlt : w.heap.size < U.heap.size := by rw [← hU]; simp
  have k1 : U.heap[w.heap.size]? = some (.cells #[.int .i64 2, .int .i64 n, .int .i64 a, .int .i64 0, .int .i64 0, .int .i64 0, .int .i64 0, .int .i64 0] 28 (0, 0)) := by rw [← hU]; exact new_at rfl
  have HK := Lib.hid (fun (V : World) (hV : Below U.heap.size U V) => row8 ((hV.block _ hlt).trans k1))
  obtain ⟨a0, a1, a2, a3, a4, a5, a6, a7⟩ := row8 k1
  have HB := Lib.hid hb
  clear k1 hb
  go_enter Tryz.func14, Tryz.ntmps14
  go_wp2_with (go_at_call 34; refine (HW.out _).mono ?_; rintro e w2 ⟨rfl, hb2⟩; have HB2 := Lib.hid hb2; clear hb2 hU a0 a1 a2 a3 a4 a5 a6 a7)
  refine RgP.region_specs 11 (fun i => (if i = 10 then 4 else 9 + i)) (fun ix_ => match ix_ with | 0 => .row #[.string (⟨#[]⟩ : ByteArray), .string (⟨#[115, 116, 97, 114, 116]⟩ : ByteArray), .string (⟨#[105, 110, 118, 111, 107, 101]⟩ : ByteArray), .string (⟨#[100, 101, 108, 105, 118, 101, 114]⟩ : ByteArray), .string (⟨#[116, 105, 109, 101, 114]⟩ : ByteArray), .string (⟨#[100, 114, 111, 112]⟩ : ByteArray), .string (⟨#[100, 117, 112]⟩ : ByteArray), .string (⟨#[99, 114, 97, 115, 104]⟩ : ByteArray)] 9 8 | 1 => .val (.pointer (some ⟨w.heap.size, 0, none⟩)) | 2 => .val (.int .i64 2) | 3 => .cel (.string (⟨#[105, 110, 118, 111, 107, 101]⟩ : ByteArray)) | 4 => .val (.string (⟨#[105, 110, 118, 111, 107, 101]⟩ : ByteArray)) | 5 => .val (.string ((⟨#[105, 110, 118, 111, 107, 101]⟩ : ByteArray) ++ (⟨#[32]⟩ : ByteArray))) | 6 => .val (.pointer (some ⟨w.heap.size, 1, none⟩)) | 7 => .val (.int .i64 n) | 8 => .val (.string s1) | 9 => .val (.string (((⟨#[105, 110, 118, 111, 107, 101]⟩ : ByteArray) ++ (⟨#[32]⟩ : ByteArray)) ++ s1)) | 10 => .val (.string (((⟨#[105, 110, 118, 111, 107, 101]⟩ : ByteArray) ++ (⟨#[32]⟩ : ByteArray)) ++ s1)) | _ => .val undef) (by kernel_rfl) rfl (by kernel_rfl) (fun i hi => by show (if i = 10 then 4 else 9 + i) < 41; (repeat' split) <;> omega) (fun i j hi hj => by show (if i = 10 then 4 else 9 + i) = (if j = 10 then 4 else 9 + j) → i = j; (repeat' split) <;> omega) ?step ?fin
  case step =>
    intro listed A_ w3 ix op_ hI ho hdep
    have hi : ix < 11 := (Array.getElem?_eq_some_iff.1 ho).1
    have hcase : ix = 0 ∨ ix = 1 ∨ ix = 2 ∨ ix = 3 ∨ ix = 4 ∨ ix = 5 ∨ ix = 6 ∨ ix = 7 ∨ ix = 8 ∨ ix = 9 ∨ ix = 10 := by omega
    have hh := hI.held
    clear hi
    rcases hcase with rfl | rfl | rfl | rfl | rfl | rfl | rfl | rfl | rfl | rfl | rfl
    · simp only [List.getElem?_toArray, List.getElem?_cons_zero, Option.some.injEq] at ho
      subst ho
      refine ⟨rfl, ?_⟩
      clear hI hdep
      exact .run rfl (.slice (some ⟨w3.heap.size, 0, none⟩) 8 8) (w3.alloc (.cells #[.string (⟨#[]⟩ : ByteArray), .string (⟨#[115, 116, 97, 114, 116]⟩ : ByteArray), .string (⟨#[105, 110, 118, 111, 107, 101]⟩ : ByteArray), .string (⟨#[100, 101, 108, 105, 118, 101, 114]⟩ : ByteArray), .string (⟨#[116, 105, 109, 101, 114]⟩ : ByteArray), .string (⟨#[100, 114, 111, 112]⟩ : ByteArray), .string (⟨#[100, 117, 112]⟩ : ByteArray), .string (⟨#[99, 114, 97, 115, 104]⟩ : ByteArray)] 9)) (by simp [execOp, go_sem, Act.eval]) ((Below.refl _ _).alloc (Nat.le_refl _) _) (RgP.new_row _ _ _ _)
    · simp only [List.getElem?_toArray, List.getElem?_cons_succ, List.getElem?_cons_zero, Option.some.injEq] at ho
      subst ho
      refine ⟨rfl, ?_⟩
      have e1 : A_.tmps[1]?.getD undef = .pointer (some ⟨w.heap.size, 0, none⟩) := by rw [hI.low 1 (by decide)]; rfl
      clear hI hdep
      exact .run rfl (.pointer (some ⟨w.heap.size, 0, none⟩)) w3 (by simp [execOp, go_sem, Act.eval, e1]) (Below.refl _ _) rfl
    · simp only [List.getElem?_toArray, List.getElem?_cons_succ, List.getElem?_cons_zero, Option.some.injEq] at ho
      subst ho
      refine ⟨rfl, ?_⟩
      have e10 : A_.tmps[10]?.getD undef = .pointer (some ⟨w.heap.size, 0, none⟩) := getD_of (hI.val_ (i := 1) rfl rfl (by decide) (hdep ⟨1, .data⟩ (by simp) rfl))
      clear hI hdep
      obtain ⟨d0, d1, d2, d3, d4, d5, d6, d7⟩ := HK.out w3 (HB2.out.trans (hh.mono HB2.out.size))
      exact .run rfl (.int .i64 2) w3 (by simp [execOp, go_sem, Act.eval, *]) (Below.refl _ _) rfl
    · simp only [List.getElem?_toArray, List.getElem?_cons_succ, List.getElem?_cons_zero, Option.some.injEq] at ho
      subst ho
      refine ⟨rfl, ?_⟩
      obtain ⟨g9, e9, r9⟩ := hI.row_ (i := 0) (j := 9) rfl rfl (by decide) (hdep ⟨0, .data⟩ (by simp) rfl)
      have e11 : A_.tmps[11]?.getD undef = .int .i64 2 := getD_of (hI.val_ (i := 2) rfl rfl (by decide) (hdep ⟨2, .data⟩ (by simp) rfl))
      clear hI hdep
      exact .run rfl (.pointer (some ⟨g9, 2, none⟩)) w3 (by simp [execOp, go_sem, Act.eval, e9, e11]) (Below.refl _ _) (RgP.cel_row r9 rfl)
    · simp only [List.getElem?_toArray, List.getElem?_cons_succ, List.getElem?_cons_zero, Option.some.injEq] at ho
      subst ho
      refine ⟨rfl, ?_⟩
      obtain ⟨p12, e12, r12⟩ := hI.cel_ (i := 3) (j := 12) rfl rfl (by decide) (hdep ⟨3, .data⟩ (by simp) rfl)
      clear hI hdep
      obtain ⟨d0, d1, d2, d3, d4, d5, d6, d7⟩ := HK.out w3 (HB2.out.trans (hh.mono HB2.out.size))
      exact .run rfl (.string (⟨#[105, 110, 118, 111, 107, 101]⟩ : ByteArray)) w3 (by simp [execOp, go_sem, Act.eval, *]) (Below.refl _ _) rfl
    · simp only [List.getElem?_toArray, List.getElem?_cons_succ, List.getElem?_cons_zero, Option.some.injEq] at ho
      subst ho
      refine ⟨rfl, ?_⟩
      have e13 : A_.tmps[13]?.getD undef = .string (⟨#[105, 110, 118, 111, 107, 101]⟩ : ByteArray) := getD_of (hI.val_ (i := 4) rfl rfl (by decide) (hdep ⟨4, .data⟩ (by simp) rfl))
      clear hI hdep
      exact .run rfl (.string ((⟨#[105, 110, 118, 111, 107, 101]⟩ : ByteArray) ++ (⟨#[32]⟩ : ByteArray))) w3 (by simp [execOp, go_sem, Act.eval, *] <;> omega) (Below.refl _ _) rfl
    · simp only [List.getElem?_toArray, List.getElem?_cons_succ, List.getElem?_cons_zero, Option.some.injEq] at ho
      subst ho
      refine ⟨rfl, ?_⟩
      have e1 : A_.tmps[1]?.getD undef = .pointer (some ⟨w.heap.size, 0, none⟩) := by rw [hI.low 1 (by decide)]; rfl
      clear hI hdep
      exact .run rfl (.pointer (some ⟨w.heap.size, 1, none⟩)) w3 (by simp [execOp, go_sem, Act.eval, e1]) (Below.refl _ _) rfl
    · simp only [List.getElem?_toArray, List.getElem?_cons_succ, List.getElem?_cons_zero, Option.some.injEq] at ho
      subst ho
      refine ⟨rfl, ?_⟩
      have e15 : A_.tmps[15]?.getD undef = .pointer (some ⟨w.heap.size, 1, none⟩) := getD_of (hI.val_ (i := 6) rfl rfl (by decide) (hdep ⟨6, .data⟩ (by simp) rfl))
      clear hI hdep
      obtain ⟨d0, d1, d2, d3, d4, d5, d6, d7⟩ := HK.out w3 (HB2.out.trans (hh.mono HB2.out.size))
      exact .run rfl (.int .i64 n) w3 (by simp [execOp, go_sem, Act.eval, *]) (Below.refl _ _) rfl
    · simp only [List.getElem?_toArray, List.getElem?_cons_succ, List.getElem?_cons_zero, Option.some.injEq] at ho
      subst ho
      refine ⟨rfl, ?_⟩
      have e16 : A_.tmps[16]?.getD undef = .int .i64 n := getD_of (hI.val_ (i := 7) rfl rfl (by decide) (hdep ⟨7, .data⟩ (by simp) rfl))
      clear hI hdep
      exact .call rfl 35 #[.int .i64 n] (.string s1) (by simp [go_sem, Act.eval, e16]) rfl ((HD1.out w3).mono fun _ _ h => ⟨h.1, h.2 ▸ Below.refl _ _⟩)
    · simp only [List.getElem?_toArray, List.getElem?_cons_succ, List.getElem?_cons_zero, Option.some.injEq] at ho
      subst ho
      refine ⟨rfl, ?_⟩
      have e14 : A_.tmps[14]?.getD undef = .string ((⟨#[105, 110, 118, 111, 107, 101]⟩ : ByteArray) ++ (⟨#[32]⟩ : ByteArray)) := getD_of (hI.val_ (i := 5) rfl rfl (by decide) (hdep ⟨5, .data⟩ (by simp) rfl))
      have e17 : A_.tmps[17]?.getD undef = .string s1 := getD_of (hI.val_ (i := 8) rfl rfl (by decide) (hdep ⟨8, .data⟩ (by simp) rfl))
      clear hI hdep
      exact .run rfl (.string (((⟨#[105, 110, 118, 111, 107, 101]⟩ : ByteArray) ++ (⟨#[32]⟩ : ByteArray)) ++ s1)) w3 (by simp [execOp, go_sem, Act.eval, *] <;> omega) (Below.refl _ _) rfl
    · simp only [List.getElem?_toArray, List.getElem?_cons_succ, List.getElem?_cons_zero, Option.some.injEq] at ho
      subst ho
      refine ⟨rfl, ?_⟩
      have e18 : A_.tmps[18]?.getD undef = .string (((⟨#[105, 110, 118, 111, 107, 101]⟩ : ByteArray) ++ (⟨#[32]⟩ : ByteArray)) ++ s1) := getD_of (hI.val_ (i := 9) rfl rfl (by decide) (hdep ⟨9, .data⟩ (by simp) rfl))
      clear hI hdep
      exact .run rfl (.string (((⟨#[105, 110, 118, 111, 107, 101]⟩ : ByteArray) ++ (⟨#[32]⟩ : ByteArray)) ++ s1)) w3 (by simp [execOp, go_sem, Act.eval, e18]) (Below.refl _ _) rfl
  case fin =>
  intro A_ w3 hs hd hlow hS hok
  obtain ⟨y9, hy9⟩ := RgP.row_at (hok 0 9 _ (by decide) rfl rfl)
  obtain ⟨y12, hy12⟩ := RgP.cel_at (hok 3 12 _ (by decide) rfl rfl)
  obtain rfl : A_ = ⟨#[.agg #[.int .i64 2, .int .i64 n, .int .i64 a, .int .i64 0, .int .i64 0, .int .i64 0, .int .i64 0, .int .i64 0], .pointer (some ⟨w.heap.size, 0, none⟩), .string (⟨#[]⟩ : ByteArray), .bool true, .string (((⟨#[105, 110, 118, 111, 107, 101]⟩ : ByteArray) ++ (⟨#[32]⟩ : ByteArray)) ++ s1), .agg #[.int .i64 2, .int .i64 n, .int .i64 a, .int .i64 0, .int .i64 0, .int .i64 0, .int .i64 0, .int .i64 0], .bool true, .bool true, .bool false, y9, .pointer (some ⟨w.heap.size, 0, none⟩), .int .i64 2, y12, .string (⟨#[105, 110, 118, 111, 107, 101]⟩ : ByteArray), .string ((⟨#[105, 110, 118, 111, 107, 101]⟩ : ByteArray) ++ (⟨#[32]⟩ : ByteArray)), .pointer (some ⟨w.heap.size, 1, none⟩), .int .i64 n, .string s1, .string (((⟨#[105, 110, 118, 111, 107, 101]⟩ : ByteArray) ++ (⟨#[32]⟩ : ByteArray)) ++ s1), undef, undef, undef, undef, undef, undef, undef, undef, undef, undef, undef, undef, undef, undef, undef, undef, undef, undef, undef, undef, undef, undef], []⟩ := act_ext hd hs (fun j hj => match j, hj with | 0, _ => (hlow 0 (by decide)).trans rfl | 1, _ => (hlow 1 (by decide)).trans rfl | 2, _ => (hlow 2 (by decide)).trans rfl | 3, _ => (hlow 3 (by decide)).trans rfl | 4, _ => RgP.val_at (hok 10 4 _ (by decide) rfl rfl) | 5, _ => (hlow 5 (by decide)).trans rfl | 6, _ => (hlow 6 (by decide)).trans rfl | 7, _ => (hlow 7 (by decide)).trans rfl | 8, _ => (hlow 8 (by decide)).trans rfl | 9, _ => hy9 | 10, _ => RgP.val_at (hok 1 10 _ (by decide) rfl rfl) | 11, _ => RgP.val_at (hok 2 11 _ (by decide) rfl rfl) | 12, _ => hy12 | 13, _ => RgP.val_at (hok 4 13 _ (by decide) rfl rfl) | 14, _ => RgP.val_at (hok 5 14 _ (by decide) rfl rfl) | 15, _ => RgP.val_at (hok 6 15 _ (by decide) rfl rfl) | 16, _ => RgP.val_at (hok 7 16 _ (by decide) rfl rfl) | 17, _ => RgP.val_at (hok 8 17 _ (by decide) rfl rfl) | 18, _ => RgP.val_at (hok 9 18 _ (by decide) rfl rfl) | 19, _ => (hlow 19 (by decide)).trans rfl | 20, _ => (hlow 20 (by decide)).trans rfl | 21, _ => (hlow 21 (by decide)).trans rfl | 22, _ => (hlow 22 (by decide)).trans rfl | 23, _ => (hlow 23 (by decide)).trans rfl | 24, _ => (hlow 24 (by decide)).trans rfl | 25, _ => (hlow 25 (by decide)).trans rfl | 26, _ => (hlow 26 (by decide)).trans rfl | 27, _ => (hlow 27 (by decide)).trans rfl | 28, _ => (hlow 28 (by decide)).trans rfl | 29, _ => (hlow 29 (by decide)).trans rfl | 30, _ => (hlow 30 (by decide)).trans rfl | 31, _ => (hlow 31 (by decide)).trans rfl | 32, _ => (hlow 32 (by decide)).trans rfl | 33, _ => (hlow 33 (by decide)).trans rfl | 34, _ => (hlow 34 (by decide)).trans rfl | 35, _ => (hlow 35 (by decide)).trans rfl | 36, _ => (hlow 36 (by decide)).trans rfl | 37, _ => (hlow 37 (by decide)).trans rfl | 38, _ => (hlow 38 (by decide)).trans rfl | 39, _ => (hlow 39 (by decide)).trans rfl | 40, _ => (hlow 40 (by decide)).trans rfl | n + 41, h => absurd h (by show ¬ n + 41 < 41; omega))
  clear hs hd hlow hok hy9 hy12
  obtain ⟨d0, d1, d2, d3, d4, d5, d6, d7⟩ := HK.out w3 (HB2.out.trans (hS.mono HB2.out.size))
  have hz : (((⟨#[105, 110, 118, 111, 107, 101]⟩ : ByteArray) ++ (⟨#[32]⟩ : ByteArray)) ++ s1).size ≤ 1000 := by
    rw [ByteArray.size_append]
    show 7 + s1.size ≤ 1000
    omega
  generalize hR : (((⟨#[105, 110, 118, 111, 107, 101]⟩ : ByteArray) ++ (⟨#[32]⟩ : ByteArray)) ++ s1) = R at *
  have hz2 : (R ++ (⟨#[32]⟩ : ByteArray)).size ≤ 1001 := by
    rw [ByteArray.size_append]
    show R.size + 1 ≤ 1001
    omega
  go_wp2_with (go_at_call 35; refine (HD2.out _).mono ?_; rintro e w5 ⟨rfl, rfl⟩)
  go_ret
  exact ⟨by rw [hR]; rfl, HB.out.trans ((HB2.out.trans (hS.mono HB2.out.size)).mono HB.out.size)⟩
set_option maxHeartbeats 4000000 in
set_option maxRecDepth 100000 in
theorem refEv_3 (n c h t i p : Int) (s1 s2 : ByteArray) (w : World)
    (HW : Hid (∀ V, Calls Tryz.prog 34 #[.agg #[.int .i64 3, .int .i64 n, .int .i64 0, .int .i64 c, .int .i64 h, .int .i64 t, .int .i64 i, .int .i64 p]] V fun e w' => e = .returned (.bool true) ∧ Below V.heap.size V w'))
    (HD1 : Hid (∀ V, Calls Tryz.prog 35 #[.int .i64 n] V fun e w' => e = .returned (.string s1) ∧ w' = V)) (hs1 : s1.size ≤ 100)
    (HS : Hid (∀ V (g : Nat), V.heap[g]? = some (.cells #[.int .i64 c, .int .i64 h, .int .i64 t, .int .i64 i, .int .i64 p] 3 (0, 0)) → Calls Tryz.prog 36 #[.slice (some ⟨g, 0, none⟩) 5 5] V fun e w' => e = .returned (.string s2) ∧ w' = V)) (hs2 : s2.size ≤ 100) :
    Calls Tryz.prog 14 #[.agg #[.int .i64 3, .int .i64 n, .int .i64 0, .int .i64 c, .int .i64 h, .int .i64 t, .int .i64 i, .int .i64 p]] w fun e w' => e = .returned (.string (((((⟨#[100, 101, 108, 105, 118, 101, 114]⟩ : ByteArray) ++ (⟨#[32]⟩ : ByteArray)) ++ s1) ++ (⟨#[32]⟩ : ByteArray)) ++ s2)) ∧ Below w.heap.size w w' := by
  obtain ⟨U, hU⟩ : ∃ U, w.alloc (.cells #[.int .i64 3, .int .i64 n, .int .i64 0, .int .i64 c, .int .i64 h, .int .i64 t, .int .i64 i, .int .i64 p] 28) = U := ⟨_, rfl⟩
  have hb : Below w.heap.size w U := hU ▸ one_box w _
  have hlt : w.heap.size < U.heap.size := by rw [← hU]; simp
  have k1 : U.heap[w.heap.size]? = some (.cells #[.int .i64 3, .int .i64 n, .int .i64 0, .int .i64 c, .int .i64 h, .int .i64 t, .int .i64 i, .int .i64 p] 28 (0, 0)) := by rw [← hU]; exact new_at rfl
  have HK := Lib.hid (fun (V : World) (hV : Below U.heap.size U V) => row8 ((hV.block _ hlt).trans k1))
  obtain ⟨a0, a1, a2, a3, a4, a5, a6, a7⟩ := row8 k1
  have HB := Lib.hid hb
  clear k1 hb
  go_enter Tryz.func14, Tryz.ntmps14
  go_wp2_with (go_at_call 34; refine (HW.out _).mono ?_; rintro e w2 ⟨rfl, hb2⟩; have HB2 := Lib.hid hb2; clear hb2 hU a0 a1 a2 a3 a4 a5 a6 a7)
  refine RgP.region_specs 11 (fun i => (if i = 10 then 4 else 9 + i)) (fun ix_ => match ix_ with | 0 => .row #[.string (⟨#[]⟩ : ByteArray), .string (⟨#[115, 116, 97, 114, 116]⟩ : ByteArray), .string (⟨#[105, 110, 118, 111, 107, 101]⟩ : ByteArray), .string (⟨#[100, 101, 108, 105, 118, 101, 114]⟩ : ByteArray), .string (⟨#[116, 105, 109, 101, 114]⟩ : ByteArray), .string (⟨#[100, 114, 111, 112]⟩ : ByteArray), .string (⟨#[100, 117, 112]⟩ : ByteArray), .string (⟨#[99, 114, 97, 115, 104]⟩ : ByteArray)] 9 8 | 1 => .val (.pointer (some ⟨w.heap.size, 0, none⟩)) | 2 => .val (.int .i64 3) | 3 => .cel (.string (⟨#[100, 101, 108, 105, 118, 101, 114]⟩ : ByteArray)) | 4 => .val (.string (⟨#[100, 101, 108, 105, 118, 101, 114]⟩ : ByteArray)) | 5 => .val (.string ((⟨#[100, 101, 108, 105, 118, 101, 114]⟩ : ByteArray) ++ (⟨#[32]⟩ : ByteArray))) | 6 => .val (.pointer (some ⟨w.heap.size, 1, none⟩)) | 7 => .val (.int .i64 n) | 8 => .val (.string s1) | 9 => .val (.string (((⟨#[100, 101, 108, 105, 118, 101, 114]⟩ : ByteArray) ++ (⟨#[32]⟩ : ByteArray)) ++ s1)) | 10 => .val (.string (((⟨#[100, 101, 108, 105, 118, 101, 114]⟩ : ByteArray) ++ (⟨#[32]⟩ : ByteArray)) ++ s1)) | _ => .val undef) (by kernel_rfl) rfl (by kernel_rfl) (fun i hi => by show (if i = 10 then 4 else 9 + i) < 41; (repeat' split) <;> omega) (fun i j hi hj => by show (if i = 10 then 4 else 9 + i) = (if j = 10 then 4 else 9 + j) → i = j; (repeat' split) <;> omega) ?step ?fin
  case step =>
    intro listed A_ w3 ix op_ hI ho hdep
    have hi : ix < 11 := (Array.getElem?_eq_some_iff.1 ho).1
    have hcase : ix = 0 ∨ ix = 1 ∨ ix = 2 ∨ ix = 3 ∨ ix = 4 ∨ ix = 5 ∨ ix = 6 ∨ ix = 7 ∨ ix = 8 ∨ ix = 9 ∨ ix = 10 := by omega
    have hh := hI.held
    clear hi
    rcases hcase with rfl | rfl | rfl | rfl | rfl | rfl | rfl | rfl | rfl | rfl | rfl
    · simp only [List.getElem?_toArray, List.getElem?_cons_zero, Option.some.injEq] at ho
      subst ho
      refine ⟨rfl, ?_⟩
      clear hI hdep
      exact .run rfl (.slice (some ⟨w3.heap.size, 0, none⟩) 8 8) (w3.alloc (.cells #[.string (⟨#[]⟩ : ByteArray), .string (⟨#[115, 116, 97, 114, 116]⟩ : ByteArray), .string (⟨#[105, 110, 118, 111, 107, 101]⟩ : ByteArray), .string (⟨#[100, 101, 108, 105, 118, 101, 114]⟩ : ByteArray), .string (⟨#[116, 105, 109, 101, 114]⟩ : ByteArray), .string (⟨#[100, 114, 111, 112]⟩ : ByteArray), .string (⟨#[100, 117, 112]⟩ : ByteArray), .string (⟨#[99, 114, 97, 115, 104]⟩ : ByteArray)] 9)) (by simp [execOp, go_sem, Act.eval]) ((Below.refl _ _).alloc (Nat.le_refl _) _) (RgP.new_row _ _ _ _)
    · simp only [List.getElem?_toArray, List.getElem?_cons_succ, List.getElem?_cons_zero, Option.some.injEq] at ho
      subst ho
      refine ⟨rfl, ?_⟩
      have e1 : A_.tmps[1]?.getD undef = .pointer (some ⟨w.heap.size, 0, none⟩) := by rw [hI.low 1 (by decide)]; rfl
      clear hI hdep
      exact .run rfl (.pointer (some ⟨w.heap.size, 0, none⟩)) w3 (by simp [execOp, go_sem, Act.eval, e1]) (Below.refl _ _) rfl
    · simp only [List.getElem?_toArray, List.getElem?_cons_succ, List.getElem?_cons_zero, Option.some.injEq] at ho
      subst ho
      refine ⟨rfl, ?_⟩
      have e10 : A_.tmps[10]?.getD undef = .pointer (some ⟨w.heap.size, 0, none⟩) := getD_of (hI.val_ (i := 1) rfl rfl (by decide) (hdep ⟨1, .data⟩ (by simp) rfl))
      clear hI hdep
      obtain ⟨d0, d1, d2, d3, d4, d5, d6, d7⟩ := HK.out w3 (HB2.out.trans (hh.mono HB2.out.size))
      exact .run rfl (.int .i64 3) w3 (by simp [execOp, go_sem, Act.eval, *]) (Below.refl _ _) rfl
    · simp only [List.getElem?_toArray, List.getElem?_cons_succ, List.getElem?_cons_zero, Option.some.injEq] at ho
      subst ho
      refine ⟨rfl, ?_⟩
      obtain ⟨g9, e9, r9⟩ := hI.row_ (i := 0) (j := 9) rfl rfl (by decide) (hdep ⟨0, .data⟩ (by simp) rfl)
      have e11 : A_.tmps[11]?.getD undef = .int .i64 3 := getD_of (hI.val_ (i := 2) rfl rfl (by decide) (hdep ⟨2, .data⟩ (by simp) rfl))
      clear hI hdep
      exact .run rfl (.pointer (some ⟨g9, 3, none⟩)) w3 (by simp [execOp, go_sem, Act.eval, e9, e11]) (Below.refl _ _) (RgP.cel_row r9 rfl)
    · simp only [List.getElem?_toArray, List.getElem?_cons_succ, List.getElem?_cons_zero, Option.some.injEq] at ho
      subst ho
      refine ⟨rfl, ?_⟩
      obtain ⟨p12, e12, r12⟩ := hI.cel_ (i := 3) (j := 12) rfl rfl (by decide) (hdep ⟨3, .data⟩ (by simp) rfl)
      clear hI hdep
      obtain ⟨d0, d1, d2, d3, d4, d5, d6, d7⟩ := HK.out w3 (HB2.out.trans (hh.mono HB2.out.size))
      exact .run rfl (.string (⟨#[100, 101, 108, 105, 118, 101, 114]⟩ : ByteArray)) w3 (by simp [execOp, go_sem, Act.eval, *]) (Below.refl _ _) rfl
    · simp only [List.getElem?_toArray, List.getElem?_cons_succ, List.getElem?_cons_zero, Option.some.injEq] at ho
      subst ho
      refine ⟨rfl, ?_⟩
      have e13 : A_.tmps[13]?.getD undef = .string (⟨#[100, 101, 108, 105, 118, 101, 114]⟩ : ByteArray) := getD_of (hI.val_ (i := 4) rfl rfl (by decide) (hdep ⟨4, .data⟩ (by simp) rfl))
      clear hI hdep
      exact .run rfl (.string ((⟨#[100, 101, 108, 105, 118, 101, 114]⟩ : ByteArray) ++ (⟨#[32]⟩ : ByteArray))) w3 (by simp [execOp, go_sem, Act.eval, *] <;> omega) (Below.refl _ _) rfl
    · simp only [List.getElem?_toArray, List.getElem?_cons_succ, List.getElem?_cons_zero, Option.some.injEq] at ho
      subst ho
      refine ⟨rfl, ?_⟩
      have e1 : A_.tmps[1]?.getD undef = .pointer (some ⟨w.heap.size, 0, none⟩) := by rw [hI.low 1 (by decide)]; rfl
      clear hI hdep
      exact .run rfl (.pointer (some ⟨w.heap.size, 1, none⟩)) w3 (by simp [execOp, go_sem, Act.eval, e1]) (Below.refl _ _) rfl
    · simp only [List.getElem?_toArray, List.getElem?_cons_succ, List.getElem?_cons_zero, Option.some.injEq] at ho
      subst ho
      refine ⟨rfl, ?_⟩
      have e15 : A_.tmps[15]?.getD undef = .pointer (some ⟨w.heap.size, 1, none⟩) := getD_of (hI.val_ (i := 6) rfl rfl (by decide) (hdep ⟨6, .data⟩ (by simp) rfl))
      clear hI hdep
      obtain ⟨d0, d1, d2, d3, d4, d5, d6, d7⟩ := HK.out w3 (HB2.out.trans (hh.mono HB2.out.size))
      exact .run rfl (.int .i64 n) w3 (by simp [execOp, go_sem, Act.eval, *]) (Below.refl _ _) rfl
    · simp only [List.getElem?_toArray, List.getElem?_cons_succ, List.getElem?_cons_zero, Option.some.injEq] at ho
      subst ho
      refine ⟨rfl, ?_⟩
      have e16 : A_.tmps[16]?.getD undef = .int .i64 n := getD_of (hI.val_ (i := 7) rfl rfl (by decide) (hdep ⟨7, .data⟩ (by simp) rfl))
      clear hI hdep
      exact .call rfl 35 #[.int .i64 n] (.string s1) (by simp [go_sem, Act.eval, e16]) rfl ((HD1.out w3).mono fun _ _ h => ⟨h.1, h.2 ▸ Below.refl _ _⟩)
    · simp only [List.getElem?_toArray, List.getElem?_cons_succ, List.getElem?_cons_zero, Option.some.injEq] at ho
      subst ho
      refine ⟨rfl, ?_⟩
      have e14 : A_.tmps[14]?.getD undef = .string ((⟨#[100, 101, 108, 105, 118, 101, 114]⟩ : ByteArray) ++ (⟨#[32]⟩ : ByteArray)) := getD_of (hI.val_ (i := 5) rfl rfl (by decide) (hdep ⟨5, .data⟩ (by simp) rfl))
      have e17 : A_.tmps[17]?.getD undef = .string s1 := getD_of (hI.val_ (i := 8) rfl rfl (by decide) (hdep ⟨8, .data⟩ (by simp) rfl))
      clear hI hdep
      exact .run rfl (.string (((⟨#[100, 101, 108, 105, 118, 101, 114]⟩ : ByteArray) ++ (⟨#[32]⟩ : ByteArray)) ++ s1)) w3 (by simp [execOp, go_sem, Act.eval, *] <;> omega) (Below.refl _ _) rfl
    · simp only [List.getElem?_toArray, List.getElem?_cons_succ, List.getElem?_cons_zero, Option.some.injEq] at ho
      subst ho
      refine ⟨rfl, ?_⟩
      have e18 : A_.tmps[18]?.getD undef = .string (((⟨#[100, 101, 108, 105, 118, 101, 114]⟩ : ByteArray) ++ (⟨#[32]⟩ : ByteArray)) ++ s1) := getD_of (hI.val_ (i := 9) rfl rfl (by decide) (hdep ⟨9, .data⟩ (by simp) rfl))
      clear hI hdep
      exact .run rfl (.string (((⟨#[100, 101, 108, 105, 118, 101, 114]⟩ : ByteArray) ++ (⟨#[32]⟩ : ByteArray)) ++ s1)) w3 (by simp [execOp, go_sem, Act.eval, e18]) (Below.refl _ _) rfl
  case fin =>
  intro A_ w3 hs hd hlow hS hok
  obtain ⟨y9, hy9⟩ := RgP.row_at (hok 0 9 _ (by decide) rfl rfl)
  obtain ⟨y12, hy12⟩ := RgP.cel_at (hok 3 12 _ (by decide) rfl rfl)
  obtain rfl : A_ = ⟨#[.agg #[.int .i64 3, .int .i64 n, .int .i64 0, .int .i64 c, .int .i64 h, .int .i64 t, .int .i64 i, .int .i64 p], .pointer (some ⟨w.heap.size, 0, none⟩), .string (⟨#[]⟩ : ByteArray), .bool true, .string (((⟨#[100, 101, 108, 105, 118, 101, 114]⟩ : ByteArray) ++ (⟨#[32]⟩ : ByteArray)) ++ s1), .agg #[.int .i64 3, .int .i64 n, .int .i64 0, .int .i64 c, .int .i64 h, .int .i64 t, .int .i64 i, .int .i64 p], .bool true, .bool true, .bool false, y9, .pointer (some ⟨w.heap.size, 0, none⟩), .int .i64 3, y12, .string (⟨#[100, 101, 108, 105, 118, 101, 114]⟩ : ByteArray), .string ((⟨#[100, 101, 108, 105, 118, 101, 114]⟩ : ByteArray) ++ (⟨#[32]⟩ : ByteArray)), .pointer (some ⟨w.heap.size, 1, none⟩), .int .i64 n, .string s1, .string (((⟨#[100, 101, 108, 105, 118, 101, 114]⟩ : ByteArray) ++ (⟨#[32]⟩ : ByteArray)) ++ s1), undef, undef, undef, undef, undef, undef, undef, undef, undef, undef, undef, undef, undef, undef, undef, undef, undef, undef, undef, undef, undef, undef], []⟩ := act_ext hd hs (fun j hj => match j, hj with | 0, _ => (hlow 0 (by decide)).trans rfl | 1, _ => (hlow 1 (by decide)).trans rfl | 2, _ => (hlow 2 (by decide)).trans rfl | 3, _ => (hlow 3 (by decide)).trans rfl | 4, _ => RgP.val_at (hok 10 4 _ (by decide) rfl rfl) | 5, _ => (hlow 5 (by decide)).trans rfl | 6, _ => (hlow 6 (by decide)).trans rfl | 7, _ => (hlow 7 (by decide)).trans rfl | 8, _ => (hlow 8 (by decide)).trans rfl | 9, _ => hy9 | 10, _ => RgP.val_at (hok 1 10 _ (by decide) rfl rfl) | 11, _ => RgP.val_at (hok 2 11 _ (by decide) rfl rfl) | 12, _ => hy12 | 13, _ => RgP.val_at (hok 4 13 _ (by decide) rfl rfl) | 14, _ => RgP.val_at (hok 5 14 _ (by decide) rfl rfl) | 15, _ => RgP.val_at (hok 6 15 _ (by decide) rfl rfl) | 16, _ => RgP.val_at (hok 7 16 _ (by decide) rfl rfl) | 17, _ => RgP.val_at (hok 8 17 _ (by decide) rfl rfl) | 18, _ => RgP.val_at (hok 9 18 _ (by decide) rfl rfl) | 19, _ => (hlow 19 (by decide)).trans rfl | 20, _ => (hlow 20 (by decide)).trans rfl | 21, _ => (hlow 21 (by decide)).trans rfl | 22, _ => (hlow 22 (by decide)).trans rfl | 23, _ => (hlow 23 (by decide)).trans rfl | 24, _ => (hlow 24 (by decide)).trans rfl | 25, _ => (hlow 25 (by decide)).trans rfl | 26, _ => (hlow 26 (by decide)).trans rfl | 27, _ => (hlow 27 (by decide)).trans rfl | 28, _ => (hlow 28 (by decide)).trans rfl | 29, _ => (hlow 29 (by decide)).trans rfl | 30, _ => (hlow 30 (by decide)).trans rfl | 31, _ => (hlow 31 (by decide)).trans rfl | 32, _ => (hlow 32 (by decide)).trans rfl | 33, _ => (hlow 33 (by decide)).trans rfl | 34, _ => (hlow 34 (by decide)).trans rfl | 35, _ => (hlow 35 (by decide)).trans rfl | 36, _ => (hlow 36 (by decide)).trans rfl | 37, _ => (hlow 37 (by decide)).trans rfl | 38, _ => (hlow 38 (by decide)).trans rfl | 39, _ => (hlow 39 (by decide)).trans rfl | 40, _ => (hlow 40 (by decide)).trans rfl | n + 41, h => absurd h (by show ¬ n + 41 < 41; omega))
  clear hs hd hlow hok hy9 hy12
  obtain ⟨d0, d1, d2, d3, d4, d5, d6, d7⟩ := HK.out w3 (HB2.out.trans (hS.mono HB2.out.size))
  have hz : (((⟨#[100, 101, 108, 105, 118, 101, 114]⟩ : ByteArray) ++ (⟨#[32]⟩ : ByteArray)) ++ s1).size ≤ 1000 := by
    rw [ByteArray.size_append]
    show 8 + s1.size ≤ 1000
    omega
  generalize hR : (((⟨#[100, 101, 108, 105, 118, 101, 114]⟩ : ByteArray) ++ (⟨#[32]⟩ : ByteArray)) ++ s1) = R at *
  have hz2 : (R ++ (⟨#[32]⟩ : ByteArray)).size ≤ 1001 := by
    rw [ByteArray.size_append]
    show R.size + 1 ≤ 1001
    omega
  go_wp2_with (first | (go_at_call 37; refine (msgKey_any _ _ _ _ _ _).mono ?_; rintro e w5 ⟨⟨g5, rfl, r5⟩, hb5⟩; have HB5 := Lib.hid hb5; have H5 := Lib.hid r5; clear hb5 r5) | (go_at_call 36; refine (HS.out _ g5 H5.out).mono ?_; rintro e w6 ⟨rfl, rfl⟩))
  go_ret
  exact ⟨by rw [hR]; rfl, HB.out.trans ((HB2.out.trans ((hS.trans (HB5.out.mono hS.size)).mono HB2.out.size)).mono HB.out.size)⟩
set_option maxHeartbeats 4000000 in
set_option maxRecDepth 100000 in
theorem refEv_4 (n a : Int) (s1 s2 : ByteArray) (w : World)
    (HW : Hid (∀ V, Calls Tryz.prog 34 #[.agg #[.int .i64 4, .int .i64 n, .int .i64 a, .int .i64 0, .int .i64 0, .int .i64 0, .int .i64 0, .int .i64 0]] V fun e w' => e = .returned (.bool true) ∧ Below V.heap.size V w'))
    (HD1 : Hid (∀ V, Calls Tryz.prog 35 #[.int .i64 n] V fun e w' => e = .returned (.string s1) ∧ w' = V)) (hs1 : s1.size ≤ 100)
    (HD2 : Hid (∀ V, Calls Tryz.prog 35 #[.int .i64 a] V fun e w' => e = .returned (.string s2) ∧ w' = V)) (hs2 : s2.size ≤ 100) :
    Calls Tryz.prog 14 #[.agg #[.int .i64 4, .int .i64 n, .int .i64 a, .int .i64 0, .int .i64 0, .int .i64 0, .int .i64 0, .int .i64 0]] w fun e w' => e = .returned (.string (((((⟨#[116, 105, 109, 101, 114]⟩ : ByteArray) ++ (⟨#[32]⟩ : ByteArray)) ++ s1) ++ (⟨#[32]⟩ : ByteArray)) ++ s2)) ∧ Below w.heap.size w w' := by
  obtain ⟨U, hU⟩ : ∃ U, w.alloc (.cells #[.int .i64 4, .int .i64 n, .int .i64 a, .int .i64 0, .int .i64 0, .int .i64 0, .int .i64 0, .int .i64 0] 28) = U := ⟨_, rfl⟩
  have hb : Below w.heap.size w U := hU ▸ one_box w _
  have hlt : w.heap.size < U.heap.size := by rw [← hU]; simp
  have k1 : U.heap[w.heap.size]? = some (.cells #[.int .i64 4, .int .i64 n, .int .i64 a, .int .i64 0, .int .i64 0, .int .i64 0, .int .i64 0, .int .i64 0] 28 (0, 0)) := by rw [← hU]; exact new_at rfl
  have HK := Lib.hid (fun (V : World) (hV : Below U.heap.size U V) => row8 ((hV.block _ hlt).trans k1))
  obtain ⟨a0, a1, a2, a3, a4, a5, a6, a7⟩ := row8 k1
  have HB := Lib.hid hb
  clear k1 hb
  go_enter Tryz.func14, Tryz.ntmps14
  go_wp2_with (go_at_call 34; refine (HW.out _).mono ?_; rintro e w2 ⟨rfl, hb2⟩; have HB2 := Lib.hid hb2; clear hb2 hU a0 a1 a2 a3 a4 a5 a6 a7)
  refine RgP.region_specs 11 (fun i => (if i = 10 then 4 else 9 + i)) (fun ix_ => match ix_ with | 0 => .row #[.string (⟨#[]⟩ : ByteArray), .string (⟨#[115, 116, 97, 114, 116]⟩ : ByteArray), .string (⟨#[105, 110, 118, 111, 107, 101]⟩ : ByteArray), .string (⟨#[100, 101, 108, 105, 118, 101, 114]⟩ : ByteArray), .string (⟨#[116, 105, 109, 101, 114]⟩ : ByteArray), .string (⟨#[100, 114, 111, 112]⟩ : ByteArray), .string (⟨#[100, 117, 112]⟩ : ByteArray), .string (⟨#[99, 114, 97, 115, 104]⟩ : ByteArray)] 9 8 | 1 => .val (.pointer (some ⟨w.heap.size, 0, none⟩)) | 2 => .val (.int .i64 4) | 3 => .cel (.string (⟨#[116, 105, 109, 101, 114]⟩ : ByteArray)) | 4 => .val (.string (⟨#[116, 105, 109, 101, 114]⟩ : ByteArray)) | 5 => .val (.string ((⟨#[116, 105, 109, 101, 114]⟩ : ByteArray) ++ (⟨#[32]⟩ : ByteArray))) | 6 => .val (.pointer (some ⟨w.heap.size, 1, none⟩)) | 7 => .val (.int .i64 n) | 8 => .val (.string s1) | 9 => .val (.string (((⟨#[116, 105, 109, 101, 114]⟩ : ByteArray) ++ (⟨#[32]⟩ : ByteArray)) ++ s1)) | 10 => .val (.string (((⟨#[116, 105, 109, 101, 114]⟩ : ByteArray) ++ (⟨#[32]⟩ : ByteArray)) ++ s1)) | _ => .val undef) (by kernel_rfl) rfl (by kernel_rfl) (fun i hi => by show (if i = 10 then 4 else 9 + i) < 41; (repeat' split) <;> omega) (fun i j hi hj => by show (if i = 10 then 4 else 9 + i) = (if j = 10 then 4 else 9 + j) → i = j; (repeat' split) <;> omega) ?step ?fin
  case step =>
    intro listed A_ w3 ix op_ hI ho hdep
    have hi : ix < 11 := (Array.getElem?_eq_some_iff.1 ho).1
    have hcase : ix = 0 ∨ ix = 1 ∨ ix = 2 ∨ ix = 3 ∨ ix = 4 ∨ ix = 5 ∨ ix = 6 ∨ ix = 7 ∨ ix = 8 ∨ ix = 9 ∨ ix = 10 := by omega
    have hh := hI.held
    clear hi
    rcases hcase with rfl | rfl | rfl | rfl | rfl | rfl | rfl | rfl | rfl | rfl | rfl
    · simp only [List.getElem?_toArray, List.getElem?_cons_zero, Option.some.injEq] at ho
      subst ho
      refine ⟨rfl, ?_⟩
      clear hI hdep
      exact .run rfl (.slice (some ⟨w3.heap.size, 0, none⟩) 8 8) (w3.alloc (.cells #[.string (⟨#[]⟩ : ByteArray), .string (⟨#[115, 116, 97, 114, 116]⟩ : ByteArray), .string (⟨#[105, 110, 118, 111, 107, 101]⟩ : ByteArray), .string (⟨#[100, 101, 108, 105, 118, 101, 114]⟩ : ByteArray), .string (⟨#[116, 105, 109, 101, 114]⟩ : ByteArray), .string (⟨#[100, 114, 111, 112]⟩ : ByteArray), .string (⟨#[100, 117, 112]⟩ : ByteArray), .string (⟨#[99, 114, 97, 115, 104]⟩ : ByteArray)] 9)) (by simp [execOp, go_sem, Act.eval]) ((Below.refl _ _).alloc (Nat.le_refl _) _) (RgP.new_row _ _ _ _)
    · simp only [List.getElem?_toArray, List.getElem?_cons_succ, List.getElem?_cons_zero, Option.some.injEq] at ho
      subst ho
      refine ⟨rfl, ?_⟩
      have e1 : A_.tmps[1]?.getD undef = .pointer (some ⟨w.heap.size, 0, none⟩) := by rw [hI.low 1 (by decide)]; rfl
      clear hI hdep
      exact .run rfl (.pointer (some ⟨w.heap.size, 0, none⟩)) w3 (by simp [execOp, go_sem, Act.eval, e1]) (Below.refl _ _) rfl
    · simp only [List.getElem?_toArray, List.getElem?_cons_succ, List.getElem?_cons_zero, Option.some.injEq] at ho
      subst ho
      refine ⟨rfl, ?_⟩
      have e10 : A_.tmps[10]?.getD undef = .pointer (some ⟨w.heap.size, 0, none⟩) := getD_of (hI.val_ (i := 1) rfl rfl (by decide) (hdep ⟨1, .data⟩ (by simp) rfl))
      clear hI hdep
      obtain ⟨d0, d1, d2, d3, d4, d5, d6, d7⟩ := HK.out w3 (HB2.out.trans (hh.mono HB2.out.size))
      exact .run rfl (.int .i64 4) w3 (by simp [execOp, go_sem, Act.eval, *]) (Below.refl _ _) rfl
    · simp only [List.getElem?_toArray, List.getElem?_cons_succ, List.getElem?_cons_zero, Option.some.injEq] at ho
      subst ho
      refine ⟨rfl, ?_⟩
      obtain ⟨g9, e9, r9⟩ := hI.row_ (i := 0) (j := 9) rfl rfl (by decide) (hdep ⟨0, .data⟩ (by simp) rfl)
      have e11 : A_.tmps[11]?.getD undef = .int .i64 4 := getD_of (hI.val_ (i := 2) rfl rfl (by decide) (hdep ⟨2, .data⟩ (by simp) rfl))
      clear hI hdep
      exact .run rfl (.pointer (some ⟨g9, 4, none⟩)) w3 (by simp [execOp, go_sem, Act.eval, e9, e11]) (Below.refl _ _) (RgP.cel_row r9 rfl)
    · simp only [List.getElem?_toArray, List.getElem?_cons_succ, List.getElem?_cons_zero, Option.some.injEq] at ho
      subst ho
      refine ⟨rfl, ?_⟩
      obtain ⟨p12, e12, r12⟩ := hI.cel_ (i := 3) (j := 12) rfl rfl (by decide) (hdep ⟨3, .data⟩ (by simp) rfl)
      clear hI hdep
      obtain ⟨d0, d1, d2, d3, d4, d5, d6, d7⟩ := HK.out w3 (HB2.out.trans (hh.mono HB2.out.size))
      exact .run rfl (.string (⟨#[116, 105, 109, 101, 114]⟩ : ByteArray)) w3 (by simp [execOp, go_sem, Act.eval, *]) (Below.refl _ _) rfl
    · simp only [List.getElem?_toArray, List.getElem?_cons_succ, List.getElem?_cons_zero, Option.some.injEq] at ho
      subst ho
      refine ⟨rfl, ?_⟩
      have e13 : A_.tmps[13]?.getD undef = .string (⟨#[116, 105, 109, 101, 114]⟩ : ByteArray) := getD_of (hI.val_ (i := 4) rfl rfl (by decide) (hdep ⟨4, .data⟩ (by simp) rfl))
      clear hI hdep
      exact .run rfl (.string ((⟨#[116, 105, 109, 101, 114]⟩ : ByteArray) ++ (⟨#[32]⟩ : ByteArray))) w3 (by simp [execOp, go_sem, Act.eval, *] <;> omega) (Below.refl _ _) rfl
    · simp only [List.getElem?_toArray, List.getElem?_cons_succ, List.getElem?_cons_zero, Option.some.injEq] at ho
      subst ho
      refine ⟨rfl, ?_⟩
      have e1 : A_.tmps[1]?.getD undef = .pointer (some ⟨w.heap.size, 0, none⟩) := by rw [hI.low 1 (by decide)]; rfl
      clear hI hdep
      exact .run rfl (.pointer (some ⟨w.heap.size, 1, none⟩)) w3 (by simp [execOp, go_sem, Act.eval, e1]) (Below.refl _ _) rfl
    · simp only [List.getElem?_toArray, List.getElem?_cons_succ, List.getElem?_cons_zero, Option.some.injEq] at ho
      subst ho
      refine ⟨rfl, ?_⟩
      have e15 : A_.tmps[15]?.getD undef = .pointer (some ⟨w.heap.size, 1, none⟩) := getD_of (hI.val_ (i := 6) rfl rfl (by decide) (hdep ⟨6, .data⟩ (by simp) rfl))
      clear hI hdep
      obtain ⟨d0, d1, d2, d3, d4, d5, d6, d7⟩ := HK.out w3 (HB2.out.trans (hh.mono HB2.out.size))
      exact .run rfl (.int .i64 n) w3 (by simp [execOp, go_sem, Act.eval, *]) (Below.refl _ _) rfl
    · simp only [List.getElem?_toArray, List.getElem?_cons_succ, List.getElem?_cons_zero, Option.some.injEq] at ho
      subst ho
      refine ⟨rfl, ?_⟩
      have e16 : A_.tmps[16]?.getD undef = .int .i64 n := getD_of (hI.val_ (i := 7) rfl rfl (by decide) (hdep ⟨7, .data⟩ (by simp) rfl))
      clear hI hdep
      exact .call rfl 35 #[.int .i64 n] (.string s1) (by simp [go_sem, Act.eval, e16]) rfl ((HD1.out w3).mono fun _ _ h => ⟨h.1, h.2 ▸ Below.refl _ _⟩)
    · simp only [List.getElem?_toArray, List.getElem?_cons_succ, List.getElem?_cons_zero, Option.some.injEq] at ho
      subst ho
      refine ⟨rfl, ?_⟩
      have e14 : A_.tmps[14]?.getD undef = .string ((⟨#[116, 105, 109, 101, 114]⟩ : ByteArray) ++ (⟨#[32]⟩ : ByteArray)) := getD_of (hI.val_ (i := 5) rfl rfl (by decide) (hdep ⟨5, .data⟩ (by simp) rfl))
      have e17 : A_.tmps[17]?.getD undef = .string s1 := getD_of (hI.val_ (i := 8) rfl rfl (by decide) (hdep ⟨8, .data⟩ (by simp) rfl))
      clear hI hdep
      exact .run rfl (.string (((⟨#[116, 105, 109, 101, 114]⟩ : ByteArray) ++ (⟨#[32]⟩ : ByteArray)) ++ s1)) w3 (by simp [execOp, go_sem, Act.eval, *] <;> omega) (Below.refl _ _) rfl
    · simp only [List.getElem?_toArray, List.getElem?_cons_succ, List.getElem?_cons_zero, Option.some.injEq] at ho
      subst ho
      refine ⟨rfl, ?_⟩
      have e18 : A_.tmps[18]?.getD undef = .string (((⟨#[116, 105, 109, 101, 114]⟩ : ByteArray) ++ (⟨#[32]⟩ : ByteArray)) ++ s1) := getD_of (hI.val_ (i := 9) rfl rfl (by decide) (hdep ⟨9, .data⟩ (by simp) rfl))
      clear hI hdep
      exact .run rfl (.string (((⟨#[116, 105, 109, 101, 114]⟩ : ByteArray) ++ (⟨#[32]⟩ : ByteArray)) ++ s1)) w3 (by simp [execOp, go_sem, Act.eval, e18]) (Below.refl _ _) rfl
  case fin =>
  intro A_ w3 hs hd hlow hS hok
  obtain ⟨y9, hy9⟩ := RgP.row_at (hok 0 9 _ (by decide) rfl rfl)
  obtain ⟨y12, hy12⟩ := RgP.cel_at (hok 3 12 _ (by decide) rfl rfl)
  obtain rfl : A_ = ⟨#[.agg #[.int .i64 4, .int .i64 n, .int .i64 a, .int .i64 0, .int .i64 0, .int .i64 0, .int .i64 0, .int .i64 0], .pointer (some ⟨w.heap.size, 0, none⟩), .string (⟨#[]⟩ : ByteArray), .bool true, .string (((⟨#[116, 105, 109, 101, 114]⟩ : ByteArray) ++ (⟨#[32]⟩ : ByteArray)) ++ s1), .agg #[.int .i64 4, .int .i64 n, .int .i64 a, .int .i64 0, .int .i64 0, .int .i64 0, .int .i64 0, .int .i64 0], .bool true, .bool true, .bool false, y9, .pointer (some ⟨w.heap.size, 0, none⟩), .int .i64 4, y12, .string (⟨#[116, 105, 109, 101, 114]⟩ : ByteArray), .string ((⟨#[116, 105, 109, 101, 114]⟩ : ByteArray) ++ (⟨#[32]⟩ : ByteArray)), .pointer (some ⟨w.heap.size, 1, none⟩), .int .i64 n, .string s1, .string (((⟨#[116, 105, 109, 101, 114]⟩ : ByteArray) ++ (⟨#[32]⟩ : ByteArray)) ++ s1), undef, undef, undef, undef, undef, undef, undef, undef, undef, undef, undef, undef, undef, undef, undef, undef, undef, undef, undef, undef, undef, undef], []⟩ := act_ext hd hs (fun j hj => match j, hj with | 0, _ => (hlow 0 (by decide)).trans rfl | 1, _ => (hlow 1 (by decide)).trans rfl | 2, _ => (hlow 2 (by decide)).trans rfl | 3, _ => (hlow 3 (by decide)).trans rfl | 4, _ => RgP.val_at (hok 10 4 _ (by decide) rfl rfl) | 5, _ => (hlow 5 (by decide)).trans rfl | 6, _ => (hlow 6 (by decide)).trans rfl | 7, _ => (hlow 7 (by decide)).trans rfl | 8, _ => (hlow 8 (by decide)).trans rfl | 9, _ => hy9 | 10, _ => RgP.val_at (hok 1 10 _ (by decide) rfl rfl) | 11, _ => RgP.val_at (hok 2 11 _ (by decide) rfl rfl) | 12, _ => hy12 | 13, _ => RgP.val_at (hok 4 13 _ (by decide) rfl rfl) | 14, _ => RgP.val_at (hok 5 14 _ (by decide) rfl rfl) | 15, _ => RgP.val_at (hok 6 15 _ (by decide) rfl rfl) | 16, _ => RgP.val_at (hok 7 16 _ (by decide) rfl rfl) | 17, _ => RgP.val_at (hok 8 17 _ (by decide) rfl rfl) | 18, _ => RgP.val_at (hok 9 18 _ (by decide) rfl rfl) | 19, _ => (hlow 19 (by decide)).trans rfl | 20, _ => (hlow 20 (by decide)).trans rfl | 21, _ => (hlow 21 (by decide)).trans rfl | 22, _ => (hlow 22 (by decide)).trans rfl | 23, _ => (hlow 23 (by decide)).trans rfl | 24, _ => (hlow 24 (by decide)).trans rfl | 25, _ => (hlow 25 (by decide)).trans rfl | 26, _ => (hlow 26 (by decide)).trans rfl | 27, _ => (hlow 27 (by decide)).trans rfl | 28, _ => (hlow 28 (by decide)).trans rfl | 29, _ => (hlow 29 (by decide)).trans rfl | 30, _ => (hlow 30 (by decide)).trans rfl | 31, _ => (hlow 31 (by decide)).trans rfl | 32, _ => (hlow 32 (by decide)).trans rfl | 33, _ => (hlow 33 (by decide)).trans rfl | 34, _ => (hlow 34 (by decide)).trans rfl | 35, _ => (hlow 35 (by decide)).trans rfl | 36, _ => (hlow 36 (by decide)).trans rfl | 37, _ => (hlow 37 (by decide)).trans rfl | 38, _ => (hlow 38 (by decide)).trans rfl | 39, _ => (hlow 39 (by decide)).trans rfl | 40, _ => (hlow 40 (by decide)).trans rfl | n + 41, h => absurd h (by show ¬ n + 41 < 41; omega))
  clear hs hd hlow hok hy9 hy12
  obtain ⟨d0, d1, d2, d3, d4, d5, d6, d7⟩ := HK.out w3 (HB2.out.trans (hS.mono HB2.out.size))
  have hz : (((⟨#[116, 105, 109, 101, 114]⟩ : ByteArray) ++ (⟨#[32]⟩ : ByteArray)) ++ s1).size ≤ 1000 := by
    rw [ByteArray.size_append]
    show 6 + s1.size ≤ 1000
    omega
  generalize hR : (((⟨#[116, 105, 109, 101, 114]⟩ : ByteArray) ++ (⟨#[32]⟩ : ByteArray)) ++ s1) = R at *
  have hz2 : (R ++ (⟨#[32]⟩ : ByteArray)).size ≤ 1001 := by
    rw [ByteArray.size_append]
    show R.size + 1 ≤ 1001
    omega
  go_wp2_with (go_at_call 35; refine (HD2.out _).mono ?_; rintro e w5 ⟨rfl, rfl⟩)
  go_ret
  exact ⟨by rw [hR]; rfl, HB.out.trans ((HB2.out.trans (hS.mono HB2.out.size)).mono HB.out.size)⟩
set_option maxHeartbeats 4000000 in
set_option maxRecDepth 100000 in
theorem refEv_5 (n c h t i p : Int) (s1 s2 : ByteArray) (w : World)
    (HW : Hid (∀ V, Calls Tryz.prog 34 #[.agg #[.int .i64 5, .int .i64 n, .int .i64 0, .int .i64 c, .int .i64 h, .int .i64 t, .int .i64 i, .int .i64 p]] V fun e w' => e = .returned (.bool true) ∧ Below V.heap.size V w'))
    (HD1 : Hid (∀ V, Calls Tryz.prog 35 #[.int .i64 n] V fun e w' => e = .returned (.string s1) ∧ w' = V)) (hs1 : s1.size ≤ 100)
    (HS : Hid (∀ V (g : Nat), V.heap[g]? = some (.cells #[.int .i64 c, .int .i64 h, .int .i64 t, .int .i64 i, .int .i64 p] 3 (0, 0)) → Calls Tryz.prog 36 #[.slice (some ⟨g, 0, none⟩) 5 5] V fun e w' => e = .returned (.string s2) ∧ w' = V)) (hs2 : s2.size ≤ 100) :
    Calls Tryz.prog 14 #[.agg #[.int .i64 5, .int .i64 n, .int .i64 0, .int .i64 c, .int .i64 h, .int .i64 t, .int .i64 i, .int .i64 p]] w fun e w' => e = .returned (.string (((((⟨#[100, 114, 111, 112]⟩ : ByteArray) ++ (⟨#[32]⟩ : ByteArray)) ++ s1) ++ (⟨#[32]⟩ : ByteArray)) ++ s2)) ∧ Below w.heap.size w w' := by
  obtain ⟨U, hU⟩ : ∃ U, w.alloc (.cells #[.int .i64 5, .int .i64 n, .int .i64 0, .int .i64 c, .int .i64 h, .int .i64 t, .int .i64 i, .int .i64 p] 28) = U := ⟨_, rfl⟩
  have hb : Below w.heap.size w U := hU ▸ one_box w _
  have hlt : w.heap.size < U.heap.size := by rw [← hU]; simp
  have k1 : U.heap[w.heap.size]? = some (.cells #[.int .i64 5, .int .i64 n, .int .i64 0, .int .i64 c, .int .i64 h, .int .i64 t, .int .i64 i, .int .i64 p] 28 (0, 0)) := by rw [← hU]; exact new_at rfl
  have HK := Lib.hid (fun (V : World) (hV : Below U.heap.size U V) => row8 ((hV.block _ hlt).trans k1))
  obtain ⟨a0, a1, a2, a3, a4, a5, a6, a7⟩ := row8 k1
  have HB := Lib.hid hb
  clear k1 hb
  go_enter Tryz.func14, Tryz.ntmps14
  go_wp2_with (go_at_call 34; refine (HW.out _).mono ?_; rintro e w2 ⟨rfl, hb2⟩; have HB2 := Lib.hid hb2; clear hb2 hU a0 a1 a2 a3 a4 a5 a6 a7)
  refine RgP.region_specs 11 (fun i => (if i = 10 then 4 else 9 + i)) (fun ix_ => match ix_ with | 0 => .row #[.string (⟨#[]⟩ : ByteArray), .string (⟨#[115, 116, 97, 114, 116]⟩ : ByteArray), .string (⟨#[105, 110, 118, 111, 107, 101]⟩ : ByteArray), .string (⟨#[100, 101, 108, 105, 118, 101, 114]⟩ : ByteArray), .string (⟨#[116, 105, 109, 101, 114]⟩ : ByteArray), .string (⟨#[100, 114, 111, 112]⟩ : ByteArray), .string (⟨#[100, 117, 112]⟩ : ByteArray), .string (⟨#[99, 114, 97, 115, 104]⟩ : ByteArray)] 9 8 | 1 => .val (.pointer (some ⟨w.heap.size, 0, none⟩)) | 2 => .val (.int .i64 5) | 3 => .cel (.string (⟨#[100, 114, 111, 112]⟩ : ByteArray)) | 4 => .val (.string (⟨#[100, 114, 111, 112]⟩ : ByteArray)) | 5 => .val (.string ((⟨#[100, 114, 111, 112]⟩ : ByteArray) ++ (⟨#[32]⟩ : ByteArray))) | 6 => .val (.pointer (some ⟨w.heap.size, 1, none⟩)) | 7 => .val (.int .i64 n) | 8 => .val (.string s1) | 9 => .val (.string (((⟨#[100, 114, 111, 112]⟩ : ByteArray) ++ (⟨#[32]⟩ : ByteArray)) ++ s1)) | 10 => .val (.string (((⟨#[100, 114, 111, 112]⟩ : ByteArray) ++ (⟨#[32]⟩ : ByteArray)) ++ s1)) | _ => .val undef) (by kernel_rfl) rfl (by kernel_rfl) (fun i hi => by show (if i = 10 then 4 else 9 + i) < 41; (repeat' split) <;> omega) (fun i j hi hj => by show (if i = 10 then 4 else 9 + i) = (if j = 10 then 4 else 9 + j) → i = j; (repeat' split) <;> omega) ?step ?fin
  case step =>
    intro listed A_ w3 ix op_ hI ho hdep
    have hi : ix < 11 := (Array.getElem?_eq_some_iff.1 ho).1
    have hcase : ix = 0 ∨ ix = 1 ∨ ix = 2 ∨ ix = 3 ∨ ix = 4 ∨ ix = 5 ∨ ix = 6 ∨ ix = 7 ∨ ix = 8 ∨ ix = 9 ∨ ix = 10 := by omega
    have hh := hI.held
    clear hi
    rcases hcase with rfl | rfl | rfl | rfl | rfl | rfl | rfl | rfl | rfl | rfl | rfl
    · simp only [List.getElem?_toArray, List.getElem?_cons_zero, Option.some.injEq] at ho
      subst ho
      refine ⟨rfl, ?_⟩
      clear hI hdep
      exact .run rfl (.slice (some ⟨w3.heap.size, 0, none⟩) 8 8) (w3.alloc (.cells #[.string (⟨#[]⟩ : ByteArray), .string (⟨#[115, 116, 97, 114, 116]⟩ : ByteArray), .string (⟨#[105, 110, 118, 111, 107, 101]⟩ : ByteArray), .string (⟨#[100, 101, 108, 105, 118, 101, 114]⟩ : ByteArray), .string (⟨#[116, 105, 109, 101, 114]⟩ : ByteArray), .string (⟨#[100, 114, 111, 112]⟩ : ByteArray), .string (⟨#[100, 117, 112]⟩ : ByteArray), .string (⟨#[99, 114, 97, 115, 104]⟩ : ByteArray)] 9)) (by simp [execOp, go_sem, Act.eval]) ((Below.refl _ _).alloc (Nat.le_refl _) _) (RgP.new_row _ _ _ _)
    · simp only [List.getElem?_toArray, List.getElem?_cons_succ, List.getElem?_cons_zero, Option.some.injEq] at ho
      subst ho
      refine ⟨rfl, ?_⟩
      have e1 : A_.tmps[1]?.getD undef = .pointer (some ⟨w.heap.size, 0, none⟩) := by rw [hI.low 1 (by decide)]; rfl
      clear hI hdep
      exact .run rfl (.pointer (some ⟨w.heap.size, 0, none⟩)) w3 (by simp [execOp, go_sem, Act.eval, e1]) (Below.refl _ _) rfl
    · simp only [List.getElem?_toArray, List.getElem?_cons_succ, List.getElem?_cons_zero, Option.some.injEq] at ho
      subst ho
      refine ⟨rfl, ?_⟩
      have e10 : A_.tmps[10]?.getD undef = .pointer (some ⟨w.heap.size, 0, none⟩) := getD_of (hI.val_ (i := 1) rfl rfl (by decide) (hdep ⟨1, .data⟩ (by simp) rfl))
      clear hI hdep
      obtain ⟨d0, d1, d2, d3, d4, d5, d6, d7⟩ := HK.out w3 (HB2.out.trans (hh.mono HB2.out.size))
      exact .run rfl (.int .i64 5) w3 (by simp [execOp, go_sem, Act.eval, *]) (Below.refl _ _) rfl
    · simp only [List.getElem?_toArray, List.getElem?_cons_succ, List.getElem?_cons_zero, Option.some.injEq] at ho
      subst ho
      refine ⟨rfl, ?_⟩
      obtain ⟨g9, e9, r9⟩ := hI.row_ (i := 0) (j := 9) rfl rfl (by decide) (hdep ⟨0, .data⟩ (by simp) rfl)
      have e11 : A_.tmps[11]?.getD undef = .int .i64 5 := getD_of (hI.val_ (i := 2) rfl rfl (by decide) (hdep ⟨2, .data⟩ (by simp) rfl))
      clear hI hdep
      exact .run rfl (.pointer (some ⟨g9, 5, none⟩)) w3 (by simp [execOp, go_sem, Act.eval, e9, e11]) (Below.refl _ _) (RgP.cel_row r9 rfl)
    · simp only [List.getElem?_toArray, List.getElem?_cons_succ, List.getElem?_cons_zero, Option.some.injEq] at ho
      subst ho
      refine ⟨rfl, ?_⟩
      obtain ⟨p12, e12, r12⟩ := hI.cel_ (i := 3) (j := 12) rfl rfl (by decide) (hdep ⟨3, .data⟩ (by simp) rfl)
      clear hI hdep
      obtain ⟨d0, d1, d2, d3, d4, d5, d6, d7⟩ := HK.out w3 (HB2.out.trans (hh.mono HB2.out.size))
      exact .run rfl (.string (⟨#[100, 114, 111, 112]⟩ : ByteArray)) w3 (by simp [execOp, go_sem, Act.eval, *]) (Below.refl _ _) rfl
    · simp only [List.getElem?_toArray, List.getElem?_cons_succ, List.getElem?_cons_zero, Option.some.injEq] at ho
      subst ho
      refine ⟨rfl, ?_⟩
      have e13 : A_.tmps[13]?.getD undef = .string (⟨#[100, 114, 111, 112]⟩ : ByteArray) := getD_of (hI.val_ (i := 4) rfl rfl (by decide) (hdep ⟨4, .data⟩ (by simp) rfl))
      clear hI hdep
      exact .run rfl (.string ((⟨#[100, 114, 111, 112]⟩ : ByteArray) ++ (⟨#[32]⟩ : ByteArray))) w3 (by simp [execOp, go_sem, Act.eval, *] <;> omega) (Below.refl _ _) rfl
    · simp only [List.getElem?_toArray, List.getElem?_cons_succ, List.getElem?_cons_zero, Option.some.injEq] at ho
      subst ho
      refine ⟨rfl, ?_⟩
      have e1 : A_.tmps[1]?.getD undef = .pointer (some ⟨w.heap.size, 0, none⟩) := by rw [hI.low 1 (by decide)]; rfl
      clear hI hdep
      exact .run rfl (.pointer (some ⟨w.heap.size, 1, none⟩)) w3 (by simp [execOp, go_sem, Act.eval, e1]) (Below.refl _ _) rfl
    · simp only [List.getElem?_toArray, List.getElem?_cons_succ, List.getElem?_cons_zero, Option.some.injEq] at ho
      subst ho
      refine ⟨rfl, ?_⟩
      have e15 : A_.tmps[15]?.getD undef = .pointer (some ⟨w.heap.size, 1, none⟩) := getD_of (hI.val_ (i := 6) rfl rfl (by decide) (hdep ⟨6, .data⟩ (by simp) rfl))
      clear hI hdep
      obtain ⟨d0, d1, d2, d3, d4, d5, d6, d7⟩ := HK.out w3 (HB2.out.trans (hh.mono HB2.out.size))
      exact .run rfl (.int .i64 n) w3 (by simp [execOp, go_sem, Act.eval, *]) (Below.refl _ _) rfl
    · simp only [List.getElem?_toArray, List.getElem?_cons_succ, List.getElem?_cons_zero, Option.some.injEq] at ho
      subst ho
      refine ⟨rfl, ?_⟩
      have e16 : A_.tmps[16]?.getD undef = .int .i64 n := getD_of (hI.val_ (i := 7) rfl rfl (by decide) (hdep ⟨7, .data⟩ (by simp) rfl))
      clear hI hdep
      exact .call rfl 35 #[.int .i64 n] (.string s1) (by simp [go_sem, Act.eval, e16]) rfl ((HD1.out w3).mono fun _ _ h => ⟨h.1, h.2 ▸ Below.refl _ _⟩)
    · simp only [List.getElem?_toArray, List.getElem?_cons_succ, List.getElem?_cons_zero, Option.some.injEq] at ho
      subst ho
      refine ⟨rfl, ?_⟩
      have e14 : A_.tmps[14]?.getD undef = .string ((⟨#[100, 114, 111, 112]⟩ : ByteArray) ++ (⟨#[32]⟩ : ByteArray)) := getD_of (hI.val_ (i := 5) rfl rfl (by decide) (hdep ⟨5, .data⟩ (by simp) rfl))
      have e17 : A_.tmps[17]?.getD undef = .string s1 := getD_of (hI.val_ (i := 8) rfl rfl (by decide) (hdep ⟨8, .data⟩ (by simp) rfl))
      clear hI hdep
      exact .run rfl (.string (((⟨#[100, 114, 111, 112]⟩ : ByteArray) ++ (⟨#[32]⟩ : ByteArray)) ++ s1)) w3 (by simp [execOp, go_sem, Act.eval, *] <;> omega) (Below.refl _ _) rfl
    · simp only [List.getElem?_toArray, List.getElem?_cons_succ, List.getElem?_cons_zero, Option.some.injEq] at ho
      subst ho
      refine ⟨rfl, ?_⟩
      have e18 : A_.tmps[18]?.getD undef = .string (((⟨#[100, 114, 111, 112]⟩ : ByteArray) ++ (⟨#[32]⟩ : ByteArray)) ++ s1) := getD_of (hI.val_ (i := 9) rfl rfl (by decide) (hdep ⟨9, .data⟩ (by simp) rfl))
      clear hI hdep
      exact .run rfl (.string (((⟨#[100, 114, 111, 112]⟩ : ByteArray) ++ (⟨#[32]⟩ : ByteArray)) ++ s1)) w3 (by simp [execOp, go_sem, Act.eval, e18]) (Below.refl _ _) rfl
  case fin =>
  intro A_ w3 hs hd hlow hS hok
  obtain ⟨y9, hy9⟩ := RgP.row_at (hok 0 9 _ (by decide) rfl rfl)
  obtain ⟨y12, hy12⟩ := RgP.cel_at (hok 3 12 _ (by decide) rfl rfl)
  obtain rfl : A_ = ⟨#[.agg #[.int .i64 5, .int .i64 n, .int .i64 0, .int .i64 c, .int .i64 h, .int .i64 t, .int .i64 i, .int .i64 p], .pointer (some ⟨w.heap.size, 0, none⟩), .string (⟨#[]⟩ : ByteArray), .bool true, .string (((⟨#[100, 114, 111, 112]⟩ : ByteArray) ++ (⟨#[32]⟩ : ByteArray)) ++ s1), .agg #[.int .i64 5, .int .i64 n, .int .i64 0, .int .i64 c, .int .i64 h, .int .i64 t, .int .i64 i, .int .i64 p], .bool true, .bool true, .bool false, y9, .pointer (some ⟨w.heap.size, 0, none⟩), .int .i64 5, y12, .string (⟨#[100, 114, 111, 112]⟩ : ByteArray), .string ((⟨#[100, 114, 111, 112]⟩ : ByteArray) ++ (⟨#[32]⟩ : ByteArray)), .pointer (some ⟨w.heap.size, 1, none⟩), .int .i64 n, .string s1, .string (((⟨#[100, 114, 111, 112]⟩ : ByteArray) ++ (⟨#[32]⟩ : ByteArray)) ++ s1), undef, undef, undef, undef, undef, undef, undef, undef, undef, undef, undef, undef, undef, undef, undef, undef, undef, undef, undef, undef, undef, undef], []⟩ := act_ext hd hs (fun j hj => match j, hj with | 0, _ => (hlow 0 (by decide)).trans rfl | 1, _ => (hlow 1 (by decide)).trans rfl | 2, _ => (hlow 2 (by decide)).trans rfl | 3, _ => (hlow 3 (by decide)).trans rfl | 4, _ => RgP.val_at (hok 10 4 _ (by decide) rfl rfl) | 5, _ => (hlow 5 (by decide)).trans rfl | 6, _ => (hlow 6 (by decide)).trans rfl | 7, _ => (hlow 7 (by decide)).trans rfl | 8, _ => (hlow 8 (by decide)).trans rfl | 9, _ => hy9 | 10, _ => RgP.val_at (hok 1 10 _ (by decide) rfl rfl) | 11, _ => RgP.val_at (hok 2 11 _ (by decide) rfl rfl) | 12, _ => hy12 | 13, _ => RgP.val_at (hok 4 13 _ (by decide) rfl rfl) | 14, _ => RgP.val_at (hok 5 14 _ (by decide) rfl rfl) | 15, _ => RgP.val_at (hok 6 15 _ (by decide) rfl rfl) | 16, _ => RgP.val_at (hok 7 16 _ (by decide) rfl rfl) | 17, _ => RgP.val_at (hok 8 17 _ (by decide) rfl rfl) | 18, _ => RgP.val_at (hok 9 18 _ (by decide) rfl rfl) | 19, _ => (hlow 19 (by decide)).trans rfl | 20, _ => (hlow 20 (by decide)).trans rfl | 21, _ => (hlow 21 (by decide)).trans rfl | 22, _ => (hlow 22 (by decide)).trans rfl | 23, _ => (hlow 23 (by decide)).trans rfl | 24, _ => (hlow 24 (by decide)).trans rfl | 25, _ => (hlow 25 (by decide)).trans rfl | 26, _ => (hlow 26 (by decide)).trans rfl | 27, _ => (hlow 27 (by decide)).trans rfl | 28, _ => (hlow 28 (by decide)).trans rfl | 29, _ => (hlow 29 (by decide)).trans rfl | 30, _ => (hlow 30 (by decide)).trans rfl | 31, _ => (hlow 31 (by decide)).trans rfl | 32, _ => (hlow 32 (by decide)).trans rfl | 33, _ => (hlow 33 (by decide)).trans rfl | 34, _ => (hlow 34 (by decide)).trans rfl | 35, _ => (hlow 35 (by decide)).trans rfl | 36, _ => (hlow 36 (by decide)).trans rfl | 37, _ => (hlow 37 (by decide)).trans rfl | 38, _ => (hlow 38 (by decide)).trans rfl | 39, _ => (hlow 39 (by decide)).trans rfl | 40, _ => (hlow 40 (by decide)).trans rfl | n + 41, h => absurd h (by show ¬ n + 41 < 41; omega))
  clear hs hd hlow hok hy9 hy12
  obtain ⟨d0, d1, d2, d3, d4, d5, d6, d7⟩ := HK.out w3 (HB2.out.trans (hS.mono HB2.out.size))
  have hz : (((⟨#[100, 114, 111, 112]⟩ : ByteArray) ++ (⟨#[32]⟩ : ByteArray)) ++ s1).size ≤ 1000 := by
    rw [ByteArray.size_append]
    show 5 + s1.size ≤ 1000
    omega
  generalize hR : (((⟨#[100, 114, 111, 112]⟩ : ByteArray) ++ (⟨#[32]⟩ : ByteArray)) ++ s1) = R at *
  have hz2 : (R ++ (⟨#[32]⟩ : ByteArray)).size ≤ 1001 := by
    rw [ByteArray.size_append]
    show R.size + 1 ≤ 1001
    omega
  go_wp2_with (first | (go_at_call 37; refine (msgKey_any _ _ _ _ _ _).mono ?_; rintro e w5 ⟨⟨g5, rfl, r5⟩, hb5⟩; have HB5 := Lib.hid hb5; have H5 := Lib.hid r5; clear hb5 r5) | (go_at_call 36; refine (HS.out _ g5 H5.out).mono ?_; rintro e w6 ⟨rfl, rfl⟩))
  go_ret
  exact ⟨by rw [hR]; rfl, HB.out.trans ((HB2.out.trans ((hS.trans (HB5.out.mono hS.size)).mono HB2.out.size)).mono HB.out.size)⟩
set_option maxHeartbeats 4000000 in
set_option maxRecDepth 100000 in
theorem refEv_6 (n c h t i p : Int) (s1 s2 : ByteArray) (w : World)
    (HW : Hid (∀ V, Calls Tryz.prog 34 #[.agg #[.int .i64 6, .int .i64 n, .int .i64 0, .int .i64 c, .int .i64 h, .int .i64 t, .int .i64 i, .int .i64 p]] V fun e w' => e = .returned (.bool true) ∧ Below V.heap.size V w'))
    (HD1 : Hid (∀ V, Calls Tryz.prog 35 #[.int .i64 n] V fun e w' => e = .returned (.string s1) ∧ w' = V)) (hs1 : s1.size ≤ 100)
    (HS : Hid (∀ V (g : Nat), V.heap[g]? = some (.cells #[.int .i64 c, .int .i64 h, .int .i64 t, .int .i64 i, .int .i64 p] 3 (0, 0)) → Calls Tryz.prog 36 #[.slice (some ⟨g, 0, none⟩) 5 5] V fun e w' => e = .returned (.string s2) ∧ w' = V)) (hs2 : s2.size ≤ 100) :
    Calls Tryz.prog 14 #[.agg #[.int .i64 6, .int .i64 n, .int .i64 0, .int .i64 c, .int .i64 h, .int .i64 t, .int .i64 i, .int .i64 p]] w fun e w' => e = .returned (.string (((((⟨#[100, 117, 112]⟩ : ByteArray) ++ (⟨#[32]⟩ : ByteArray)) ++ s1) ++ (⟨#[32]⟩ : ByteArray)) ++ s2)) ∧ Below w.heap.size w w' := by
  obtain ⟨U, hU⟩ : ∃ U, w.alloc (.cells #[.int .i64 6, .int .i64 n, .int .i64 0, .int .i64 c, .int .i64 h, .int .i64 t, .int .i64 i, .int .i64 p] 28) = U := ⟨_, rfl⟩
  have hb : Below w.heap.size w U := hU ▸ one_box w _
  have hlt : w.heap.size < U.heap.size := by rw [← hU]; simp
  have k1 : U.heap[w.heap.size]? = some (.cells #[.int .i64 6, .int .i64 n, .int .i64 0, .int .i64 c, .int .i64 h, .int .i64 t, .int .i64 i, .int .i64 p] 28 (0, 0)) := by rw [← hU]; exact new_at rfl
  have HK := Lib.hid (fun (V : World) (hV : Below U.heap.size U V) => row8 ((hV.block _ hlt).trans k1))
  obtain ⟨a0, a1, a2, a3, a4, a5, a6, a7⟩ := row8 k1
  have HB := Lib.hid hb
  clear k1 hb
  go_enter Tryz.func14, Tryz.ntmps14
  go_wp2_with (go_at_call 34; refine (HW.out _).mono ?_; rintro e w2 ⟨rfl, hb2⟩; have HB2 := Lib.hid hb2; clear hb2 hU a0 a1 a2 a3 a4 a5 a6 a7)
  refine RgP.region_specs 11 (fun i => (if i = 10 then 4 else 9 + i)) (fun ix_ => match ix_ with | 0 => .row #[.string (⟨#[]⟩ : ByteArray), .string (⟨#[115, 116, 97, 114, 116]⟩ : ByteArray), .string (⟨#[105, 110, 118, 111, 107, 101]⟩ : ByteArray), .string (⟨#[100, 101, 108, 105, 118, 101, 114]⟩ : ByteArray), .string (⟨#[116, 105, 109, 101, 114]⟩ : ByteArray), .string (⟨#[100, 114, 111, 112]⟩ : ByteArray), .string (⟨#[100, 117, 112]⟩ : ByteArray), .string (⟨#[99, 114, 97, 115, 104]⟩ : ByteArray)] 9 8 | 1 => .val (.pointer (some ⟨w.heap.size, 0, none⟩)) | 2 => .val (.int .i64 6) | 3 => .cel (.string (⟨#[100, 117, 112]⟩ : ByteArray)) | 4 => .val (.string (⟨#[100, 117, 112]⟩ : ByteArray)) | 5 => .val (.string ((⟨#[100, 117, 112]⟩ : ByteArray) ++ (⟨#[32]⟩ : ByteArray))) | 6 => .val (.pointer (some ⟨w.heap.size, 1, none⟩)) | 7 => .val (.int .i64 n) | 8 => .val (.string s1) | 9 => .val (.string (((⟨#[100, 117, 112]⟩ : ByteArray) ++ (⟨#[32]⟩ : ByteArray)) ++ s1)) | 10 => .val (.string (((⟨#[100, 117, 112]⟩ : ByteArray) ++ (⟨#[32]⟩ : ByteArray)) ++ s1)) | _ => .val undef) (by kernel_rfl) rfl (by kernel_rfl) (fun i hi => by show (if i = 10 then 4 else 9 + i) < 41; (repeat' split) <;> omega) (fun i j hi hj => by show (if i = 10 then 4 else 9 + i) = (if j = 10 then 4 else 9 + j) → i = j; (repeat' split) <;> omega) ?step ?fin
  case step =>
    intro listed A_ w3 ix op_ hI ho hdep
    have hi : ix < 11 := (Array.getElem?_eq_some_iff.1 ho).1
    have hcase : ix = 0 ∨ ix = 1 ∨ ix = 2 ∨ ix = 3 ∨ ix = 4 ∨ ix = 5 ∨ ix = 6 ∨ ix = 7 ∨ ix = 8 ∨ ix = 9 ∨ ix = 10 := by omega
    have hh := hI.held
    clear hi
    rcases hcase with rfl | rfl | rfl | rfl | rfl | rfl | rfl | rfl | rfl | rfl | rfl
    · simp only [List.getElem?_toArray, List.getElem?_cons_zero, Option.some.injEq] at ho
      subst ho
      refine ⟨rfl, ?_⟩
      clear hI hdep
      exact .run rfl (.slice (some ⟨w3.heap.size, 0, none⟩) 8 8) (w3.alloc (.cells #[.string (⟨#[]⟩ : ByteArray), .string (⟨#[115, 116, 97, 114, 116]⟩ : ByteArray), .string (⟨#[105, 110, 118, 111, 107, 101]⟩ : ByteArray), .string (⟨#[100, 101, 108, 105, 118, 101, 114]⟩ : ByteArray), .string (⟨#[116, 105, 109, 101, 114]⟩ : ByteArray), .string (⟨#[100, 114, 111, 112]⟩ : ByteArray), .string (⟨#[100, 117, 112]⟩ : ByteArray), .string (⟨#[99, 114, 97, 115, 104]⟩ : ByteArray)] 9)) (by simp [execOp, go_sem, Act.eval]) ((Below.refl _ _).alloc (Nat.le_refl _) _) (RgP.new_row _ _ _ _)
    · simp only [List.getElem?_toArray, List.getElem?_cons_succ, List.getElem?_cons_zero, Option.some.injEq] at ho
      subst ho
      refine ⟨rfl, ?_⟩
      have e1 : A_.tmps[1]?.getD undef = .pointer (some ⟨w.heap.size, 0, none⟩) := by rw [hI.low 1 (by decide)]; rfl
      clear hI hdep
      exact .run rfl (.pointer (some ⟨w.heap.size, 0, none⟩)) w3 (by simp [execOp, go_sem, Act.eval, e1]) (Below.refl _ _) rfl
    · simp only [List.getElem?_toArray, List.getElem?_cons_succ, List.getElem?_cons_zero, Option.some.injEq] at ho
      subst ho
      refine ⟨rfl, ?_⟩
      have e10 : A_.tmps[10]?.getD undef = .pointer (some ⟨w.heap.size, 0, none⟩) := getD_of (hI.val_ (i := 1) rfl rfl (by decide) (hdep ⟨1, .data⟩ (by simp) rfl))
      clear hI hdep
      obtain ⟨d0, d1, d2, d3, d4, d5, d6, d7⟩ := HK.out w3 (HB2.out.trans (hh.mono HB2.out.size))
      exact .run rfl (.int .i64 6) w3 (by simp [execOp, go_sem, Act.eval, *]) (Below.refl _ _) rfl
    · simp only [List.getElem?_toArray, List.getElem?_cons_succ, List.getElem?_cons_zero, Option.some.injEq] at ho
      subst ho
      refine ⟨rfl, ?_⟩
      obtain ⟨g9, e9, r9⟩ := hI.row_ (i := 0) (j := 9) rfl rfl (by decide) (hdep ⟨0, .data⟩ (by simp) rfl)
      have e11 : A_.tmps[11]?.getD undef = .int .i64 6 := getD_of (hI.val_ (i := 2) rfl rfl (by decide) (hdep ⟨2, .data⟩ (by simp) rfl))
      clear hI hdep
      exact .run rfl (.pointer (some ⟨g9, 6, none⟩)) w3 (by simp [execOp, go_sem, Act.eval, e9, e11]) (Below.refl _ _) (RgP.cel_row r9 rfl)
    · simp only [List.getElem?_toArray, List.getElem?_cons_succ, List.getElem?_cons_zero, Option.some.injEq] at ho
      subst ho
      refine ⟨rfl, ?_⟩
      obtain ⟨p12, e12, r12⟩ := hI.cel_ (i := 3) (j := 12) rfl rfl (by decide) (hdep ⟨3, .data⟩ (by simp) rfl)
      clear hI hdep
      obtain ⟨d0, d1, d2, d3, d4, d5, d6, d7⟩ := HK.out w3 (HB2.out.trans (hh.mono HB2.out.size))
      exact .run rfl (.string (⟨#[100, 117, 112]⟩ : ByteArray)) w3 (by simp [execOp, go_sem, Act.eval, *]) (Below.refl _ _) rfl
    · simp only [List.getElem?_toArray, List.getElem?_cons_succ, List.getElem?_cons_zero, Option.some.injEq] at ho
      subst ho
      refine ⟨rfl, ?_⟩
      have e13 : A_.tmps[13]?.getD undef = .string (⟨#[100, 117, 112]⟩ : ByteArray) := getD_of (hI.val_ (i := 4) rfl rfl (by decide) (hdep ⟨4, .data⟩ (by simp) rfl))
      clear hI hdep
      exact .run rfl (.string ((⟨#[100, 117, 112]⟩ : ByteArray) ++ (⟨#[32]⟩ : ByteArray))) w3 (by simp [execOp, go_sem, Act.eval, *] <;> omega) (Below.refl _ _) rfl
    · simp only [List.getElem?_toArray, List.getElem?_cons_succ, List.getElem?_cons_zero, Option.some.injEq] at ho
      subst ho
      refine ⟨rfl, ?_⟩
      have e1 : A_.tmps[1]?.getD undef = .pointer (some ⟨w.heap.size, 0, none⟩) := by rw [hI.low 1 (by decide)]; rfl
      clear hI hdep
      exact .run rfl (.pointer (some ⟨w.heap.size, 1, none⟩)) w3 (by simp [execOp, go_sem, Act.eval, e1]) (Below.refl _ _) rfl
    · simp only [List.getElem?_toArray, List.getElem?_cons_succ, List.getElem?_cons_zero, Option.some.injEq] at ho
      subst ho
      refine ⟨rfl, ?_⟩
      have e15 : A_.tmps[15]?.getD undef = .pointer (some ⟨w.heap.size, 1, none⟩) := getD_of (hI.val_ (i := 6) rfl rfl (by decide) (hdep ⟨6, .data⟩ (by simp) rfl))
      clear hI hdep
      obtain ⟨d0, d1, d2, d3, d4, d5, d6, d7⟩ := HK.out w3 (HB2.out.trans (hh.mono HB2.out.size))
      exact .run rfl (.int .i64 n) w3 (by simp [execOp, go_sem, Act.eval, *]) (Below.refl _ _) rfl
    · simp only [List.getElem?_toArray, List.getElem?_cons_succ, List.getElem?_cons_zero, Option.some.injEq] at ho
      subst ho
      refine ⟨rfl, ?_⟩
      have e16 : A_.tmps[16]?.getD undef = .int .i64 n := getD_of (hI.val_ (i := 7) rfl rfl (by decide) (hdep ⟨7, .data⟩ (by simp) rfl))
      clear hI hdep
      exact .call rfl 35 #[.int .i64 n] (.string s1) (by simp [go_sem, Act.eval, e16]) rfl ((HD1.out w3).mono fun _ _ h => ⟨h.1, h.2 ▸ Below.refl _ _⟩)
    · simp only [List.getElem?_toArray, List.getElem?_cons_succ, List.getElem?_cons_zero, Option.some.injEq] at ho
      subst ho
      refine ⟨rfl, ?_⟩
      have e14 : A_.tmps[14]?.getD undef = .string ((⟨#[100, 117, 112]⟩ : ByteArray) ++ (⟨#[32]⟩ : ByteArray)) := getD_of (hI.val_ (i := 5) rfl rfl (by decide) (hdep ⟨5, .data⟩ (by simp) rfl))
      have e17 : A_.tmps[17]?.getD undef = .string s1 := getD_of (hI.val_ (i := 8) rfl rfl (by decide) (hdep ⟨8, .data⟩ (by simp) rfl))
      clear hI hdep
      exact .run rfl (.string (((⟨#[100, 117, 112]⟩ : ByteArray) ++ (⟨#[32]⟩ : ByteArray)) ++ s1)) w3 (by simp [execOp, go_sem, Act.eval, *] <;> omega) (Below.refl _ _) rfl
    · simp only [List.getElem?_toArray, List.getElem?_cons_succ, List.getElem?_cons_zero, Option.some.injEq] at ho
      subst ho
      refine ⟨rfl, ?_⟩
      have e18 : A_.tmps[18]?.getD undef = .string (((⟨#[100, 117, 112]⟩ : ByteArray) ++ (⟨#[32]⟩ : ByteArray)) ++ s1) := getD_of (hI.val_ (i := 9) rfl rfl (by decide) (hdep ⟨9, .data⟩ (by simp) rfl))
      clear hI hdep
      exact .run rfl (.string (((⟨#[100, 117, 112]⟩ : ByteArray) ++ (⟨#[32]⟩ : ByteArray)) ++ s1)) w3 (by simp [execOp, go_sem, Act.eval, e18]) (Below.refl _ _) rfl
  case fin =>
  intro A_ w3 hs hd hlow hS hok
  obtain ⟨y9, hy9⟩ := RgP.row_at (hok 0 9 _ (by decide) rfl rfl)
  obtain ⟨y12, hy12⟩ := RgP.cel_at (hok 3 12 _ (by decide) rfl rfl)
  obtain rfl : A_ = ⟨#[.agg #[.int .i64 6, .int .i64 n, .int .i64 0, .int .i64 c, .int .i64 h, .int .i64 t, .int .i64 i, .int .i64 p], .pointer (some ⟨w.heap.size, 0, none⟩), .string (⟨#[]⟩ : ByteArray), .bool true, .string (((⟨#[100, 117, 112]⟩ : ByteArray) ++ (⟨#[32]⟩ : ByteArray)) ++ s1), .agg #[.int .i64 6, .int .i64 n, .int .i64 0, .int .i64 c, .int .i64 h, .int .i64 t, .int .i64 i, .int .i64 p], .bool true, .bool true, .bool false, y9, .pointer (some ⟨w.heap.size, 0, none⟩), .int .i64 6, y12, .string (⟨#[100, 117, 112]⟩ : ByteArray), .string ((⟨#[100, 117, 112]⟩ : ByteArray) ++ (⟨#[32]⟩ : ByteArray)), .pointer (some ⟨w.heap.size, 1, none⟩), .int .i64 n, .string s1, .string (((⟨#[100, 117, 112]⟩ : ByteArray) ++ (⟨#[32]⟩ : ByteArray)) ++ s1), undef, undef, undef, undef, undef, undef, undef, undef, undef, undef, undef, undef, undef, undef, undef, undef, undef, undef, undef, undef, undef, undef], []⟩ := act_ext hd hs (fun j hj => match j, hj with | 0, _ => (hlow 0 (by decide)).trans rfl | 1, _ => (hlow 1 (by decide)).trans rfl | 2, _ => (hlow 2 (by decide)).trans rfl | 3, _ => (hlow 3 (by decide)).trans rfl | 4, _ => RgP.val_at (hok 10 4 _ (by decide) rfl rfl) | 5, _ => (hlow 5 (by decide)).trans rfl | 6, _ => (hlow 6 (by decide)).trans rfl | 7, _ => (hlow 7 (by decide)).trans rfl | 8, _ => (hlow 8 (by decide)).trans rfl | 9, _ => hy9 | 10, _ => RgP.val_at (hok 1 10 _ (by decide) rfl rfl) | 11, _ => RgP.val_at (hok 2 11 _ (by decide) rfl rfl) | 12, _ => hy12 | 13, _ => RgP.val_at (hok 4 13 _ (by decide) rfl rfl) | 14, _ => RgP.val_at (hok 5 14 _ (by decide) rfl rfl) | 15, _ => RgP.val_at (hok 6 15 _ (by decide) rfl rfl) | 16, _ => RgP.val_at (hok 7 16 _ (by decide) rfl rfl) | 17, _ => RgP.val_at (hok 8 17 _ (by decide) rfl rfl) | 18, _ => RgP.val_at (hok 9 18 _ (by decide) rfl rfl) | 19, _ => (hlow 19 (by decide)).trans rfl | 20, _ => (hlow 20 (by decide)).trans rfl | 21, _ => (hlow 21 (by decide)).trans rfl | 22, _ => (hlow 22 (by decide)).trans rfl | 23, _ => (hlow 23 (by decide)).trans rfl | 24, _ => (hlow 24 (by decide)).trans rfl | 25, _ => (hlow 25 (by decide)).trans rfl | 26, _ => (hlow 26 (by decide)).trans rfl | 27, _ => (hlow 27 (by decide)).trans rfl | 28, _ => (hlow 28 (by decide)).trans rfl | 29, _ => (hlow 29 (by decide)).trans rfl | 30, _ => (hlow 30 (by decide)).trans rfl | 31, _ => (hlow 31 (by decide)).trans rfl | 32, _ => (hlow 32 (by decide)).trans rfl | 33, _ => (hlow 33 (by decide)).trans rfl | 34, _ => (hlow 34 (by decide)).trans rfl | 35, _ => (hlow 35 (by decide)).trans rfl | 36, _ => (hlow 36 (by decide)).trans rfl | 37, _ => (hlow 37 (by decide)).trans rfl | 38, _ => (hlow 38 (by decide)).trans rfl | 39, _ => (hlow 39 (by decide)).trans rfl | 40, _ => (hlow 40 (by decide)).trans rfl | n + 41, h => absurd h (by show ¬ n + 41 < 41; omega))
  clear hs hd hlow hok hy9 hy12
  obtain ⟨d0, d1, d2, d3, d4, d5, d6, d7⟩ := HK.out w3 (HB2.out.trans (hS.mono HB2.out.size))
  have hz : (((⟨#[100, 117, 112]⟩ : ByteArray) ++ (⟨#[32]⟩ : ByteArray)) ++ s1).size ≤ 1000 := by
    rw [ByteArray.size_append]
    show 4 + s1.size ≤ 1000
    omega
  generalize hR : (((⟨#[100, 117, 112]⟩ : ByteArray) ++ (⟨#[32]⟩ : ByteArray)) ++ s1) = R at *
  have hz2 : (R ++ (⟨#[32]⟩ : ByteArray)).size ≤ 1001 := by
    rw [ByteArray.size_append]
    show R.size + 1 ≤ 1001
    omega
  go_wp2_with (first | (go_at_call 37; refine (msgKey_any _ _ _ _ _ _).mono ?_; rintro e w5 ⟨⟨g5, rfl, r5⟩, hb5⟩; have HB5 := Lib.hid hb5; have H5 := Lib.hid r5; clear hb5 r5) | (go_at_call 36; refine (HS.out _ g5 H5.out).mono ?_; rintro e w6 ⟨rfl, rfl⟩))
  go_ret
  exact ⟨by rw [hR]; rfl, HB.out.trans ((HB2.out.trans ((hS.trans (HB5.out.mono hS.size)).mono HB2.out.size)).mono HB.out.size)⟩
set_option maxHeartbeats 4000000 in
set_option maxRecDepth 100000 in
theorem refEv_7 (n : Int) (s1 : ByteArray) (w : World)
    (HW : Hid (∀ V, Calls Tryz.prog 34 #[.agg #[.int .i64 7, .int .i64 n, .int .i64 0, .int .i64 0, .int .i64 0, .int .i64 0, .int .i64 0, .int .i64 0]] V fun e w' => e = .returned (.bool true) ∧ Below V.heap.size V w'))
    (HD1 : Hid (∀ V, Calls Tryz.prog 35 #[.int .i64 n] V fun e w' => e = .returned (.string s1) ∧ w' = V)) (hs1 : s1.size ≤ 100) :
    Calls Tryz.prog 14 #[.agg #[.int .i64 7, .int .i64 n, .int .i64 0, .int .i64 0, .int .i64 0, .int .i64 0, .int .i64 0, .int .i64 0]] w fun e w' => e = .returned (.string (((⟨#[99, 114, 97, 115, 104]⟩ : ByteArray) ++ (⟨#[32]⟩ : ByteArray)) ++ s1)) ∧ Below w.heap.size w w' := by
  obtain ⟨U, hU⟩ : ∃ U, w.alloc (.cells #[.int .i64 7, .int .i64 n, .int .i64 0, .int .i64 0, .int .i64 0, .int .i64 0, .int .i64 0, .int .i64 0] 28) = U := ⟨_, rfl⟩
  have hb : Below w.heap.size w U := hU ▸ one_box w _
  have hlt : w.heap.size < U.heap.size := by rw [← hU]; simp
  have k1 : U.heap[w.heap.size]? = some (.cells #[.int .i64 7, .int .i64 n, .int .i64 0, .int .i64 0, .int .i64 0, .int .i64 0, .int .i64 0, .int .i64 0] 28 (0, 0)) := by rw [← hU]; exact new_at rfl
  have HK := Lib.hid (fun (V : World) (hV : Below U.heap.size U V) => row8 ((hV.block _ hlt).trans k1))
  obtain ⟨a0, a1, a2, a3, a4, a5, a6, a7⟩ := row8 k1
  have HB := Lib.hid hb
  clear k1 hb
  go_enter Tryz.func14, Tryz.ntmps14
  go_wp2_with (go_at_call 34; refine (HW.out _).mono ?_; rintro e w2 ⟨rfl, hb2⟩; have HB2 := Lib.hid hb2; clear hb2 hU a0 a1 a2 a3 a4 a5 a6 a7)
  refine RgP.region_specs 11 (fun i => (if i = 10 then 4 else 9 + i)) (fun ix_ => match ix_ with | 0 => .row #[.string (⟨#[]⟩ : ByteArray), .string (⟨#[115, 116, 97, 114, 116]⟩ : ByteArray), .string (⟨#[105, 110, 118, 111, 107, 101]⟩ : ByteArray), .string (⟨#[100, 101, 108, 105, 118, 101, 114]⟩ : ByteArray), .string (⟨#[116, 105, 109, 101, 114]⟩ : ByteArray), .string (⟨#[100, 114, 111, 112]⟩ : ByteArray), .string (⟨#[100, 117, 112]⟩ : ByteArray), .string (⟨#[99, 114, 97, 115, 104]⟩ : ByteArray)] 9 8 | 1 => .val (.pointer (some ⟨w.heap.size, 0, none⟩)) | 2 => .val (.int .i64 7) | 3 => .cel (.string (⟨#[99, 114, 97, 115, 104]⟩ : ByteArray)) | 4 => .val (.string (⟨#[99, 114, 97, 115, 104]⟩ : ByteArray)) | 5 => .val (.string ((⟨#[99, 114, 97, 115, 104]⟩ : ByteArray) ++ (⟨#[32]⟩ : ByteArray))) | 6 => .val (.pointer (some ⟨w.heap.size, 1, none⟩)) | 7 => .val (.int .i64 n) | 8 => .val (.string s1) | 9 => .val (.string (((⟨#[99, 114, 97, 115, 104]⟩ : ByteArray) ++ (⟨#[32]⟩ : ByteArray)) ++ s1)) | 10 => .val (.string (((⟨#[99, 114, 97, 115, 104]⟩ : ByteArray) ++ (⟨#[32]⟩ : ByteArray)) ++ s1)) | _ => .val undef) (by kernel_rfl) rfl (by kernel_rfl) (fun i hi => by show (if i = 10 then 4 else 9 + i) < 41; (repeat' split) <;> omega) (fun i j hi hj => by show (if i = 10 then 4 else 9 + i) = (if j = 10 then 4 else 9 + j) → i = j; (repeat' split) <;> omega) ?step ?fin
  case step =>
    intro listed A_ w3 ix op_ hI ho hdep
    have hi : ix < 11 := (Array.getElem?_eq_some_iff.1 ho).1
    have hcase : ix = 0 ∨ ix = 1 ∨ ix = 2 ∨ ix = 3 ∨ ix = 4 ∨ ix = 5 ∨ ix = 6 ∨ ix = 7 ∨ ix = 8 ∨ ix = 9 ∨ ix = 10 := by omega
    have hh := hI.held
    clear hi
    rcases hcase with rfl | rfl | rfl | rfl | rfl | rfl | rfl | rfl | rfl | rfl | rfl
    · simp only [List.getElem?_toArray, List.getElem?_cons_zero, Option.some.injEq] at ho
      subst ho
      refine ⟨rfl, ?_⟩
      clear hI hdep
      exact .run rfl (.slice (some ⟨w3.heap.size, 0, none⟩) 8 8) (w3.alloc (.cells #[.string (⟨#[]⟩ : ByteArray), .string (⟨#[115, 116, 97, 114, 116]⟩ : ByteArray), .string (⟨#[105, 110, 118, 111, 107, 101]⟩ : ByteArray), .string (⟨#[100, 101, 108, 105, 118, 101, 114]⟩ : ByteArray), .string (⟨#[116, 105, 109, 101, 114]⟩ : ByteArray), .string (⟨#[100, 114, 111, 112]⟩ : ByteArray), .string (⟨#[100, 117, 112]⟩ : ByteArray), .string (⟨#[99, 114, 97, 115, 104]⟩ : ByteArray)] 9)) (by simp [execOp, go_sem, Act.eval]) ((Below.refl _ _).alloc (Nat.le_refl _) _) (RgP.new_row _ _ _ _)
    · simp only [List.getElem?_toArray, List.getElem?_cons_succ, List.getElem?_cons_zero, Option.some.injEq] at ho
      subst ho
      refine ⟨rfl, ?_⟩
      have e1 : A_.tmps[1]?.getD undef = .pointer (some ⟨w.heap.size, 0, none⟩) := by rw [hI.low 1 (by decide)]; rfl
      clear hI hdep
      exact .run rfl (.pointer (some ⟨w.heap.size, 0, none⟩)) w3 (by simp [execOp, go_sem, Act.eval, e1]) (Below.refl _ _) rfl
    · simp only [List.getElem?_toArray, List.getElem?_cons_succ, List.getElem?_cons_zero, Option.some.injEq] at ho
      subst ho
      refine ⟨rfl, ?_⟩
      have e10 : A_.tmps[10]?.getD undef = .pointer (some ⟨w.heap.size, 0, none⟩) := getD_of (hI.val_ (i := 1) rfl rfl (by decide) (hdep ⟨1, .data⟩ (by simp) rfl))
      clear hI hdep
      obtain ⟨d0, d1, d2, d3, d4, d5, d6, d7⟩ := HK.out w3 (HB2.out.trans (hh.mono HB2.out.size))
      exact .run rfl (.int .i64 7) w3 (by simp [execOp, go_sem, Act.eval, *]) (Below.refl _ _) rfl
    · simp only [List.getElem?_toArray, List.getElem?_cons_succ, List.getElem?_cons_zero, Option.some.injEq] at ho
      subst ho
      refine ⟨rfl, ?_⟩
      obtain ⟨g9, e9, r9⟩ := hI.row_ (i := 0) (j := 9) rfl rfl (by decide) (hdep ⟨0, .data⟩ (by simp) rfl)
      have e11 : A_.tmps[11]?.getD undef = .int .i64 7 := getD_of (hI.val_ (i := 2) rfl rfl (by decide) (hdep ⟨2, .data⟩ (by simp) rfl))
      clear hI hdep
      exact .run rfl (.pointer (some ⟨g9, 7, none⟩)) w3 (by simp [execOp, go_sem, Act.eval, e9, e11]) (Below.refl _ _) (RgP.cel_row r9 rfl)
    · simp only [List.getElem?_toArray, List.getElem?_cons_succ, List.getElem?_cons_zero, Option.some.injEq] at ho
      subst ho
      refine ⟨rfl, ?_⟩
      obtain ⟨p12, e12, r12⟩ := hI.cel_ (i := 3) (j := 12) rfl rfl (by decide) (hdep ⟨3, .data⟩ (by simp) rfl)
      clear hI hdep
      obtain ⟨d0, d1, d2, d3, d4, d5, d6, d7⟩ := HK.out w3 (HB2.out.trans (hh.mono HB2.out.size))
      exact .run rfl (.string (⟨#[99, 114, 97, 115, 104]⟩ : ByteArray)) w3 (by simp [execOp, go_sem, Act.eval, *]) (Below.refl _ _) rfl
    · simp only [List.getElem?_toArray, List.getElem?_cons_succ, List.getElem?_cons_zero, Option.some.injEq] at ho
      subst ho
      refine ⟨rfl, ?_⟩
      have e13 : A_.tmps[13]?.getD undef = .string (⟨#[99, 114, 97, 115, 104]⟩ : ByteArray) := getD_of (hI.val_ (i := 4) rfl rfl (by decide) (hdep ⟨4, .data⟩ (by simp) rfl))
      clear hI hdep
      exact .run rfl (.string ((⟨#[99, 114, 97, 115, 104]⟩ : ByteArray) ++ (⟨#[32]⟩ : ByteArray))) w3 (by simp [execOp, go_sem, Act.eval, *] <;> omega) (Below.refl _ _) rfl
    · simp only [List.getElem?_toArray, List.getElem?_cons_succ, List.getElem?_cons_zero, Option.some.injEq] at ho
      subst ho
      refine ⟨rfl, ?_⟩
      have e1 : A_.tmps[1]?.getD undef = .pointer (some ⟨w.heap.size, 0, none⟩) := by rw [hI.low 1 (by decide)]; rfl
      clear hI hdep
      exact .run rfl (.pointer (some ⟨w.heap.size, 1, none⟩)) w3 (by simp [execOp, go_sem, Act.eval, e1]) (Below.refl _ _) rfl
    · simp only [List.getElem?_toArray, List.getElem?_cons_succ, List.getElem?_cons_zero, Option.some.injEq] at ho
      subst ho
      refine ⟨rfl, ?_⟩
      have e15 : A_.tmps[15]?.getD undef = .pointer (some ⟨w.heap.size, 1, none⟩) := getD_of (hI.val_ (i := 6) rfl rfl (by decide) (hdep ⟨6, .data⟩ (by simp) rfl))
      clear hI hdep
      obtain ⟨d0, d1, d2, d3, d4, d5, d6, d7⟩ := HK.out w3 (HB2.out.trans (hh.mono HB2.out.size))
      exact .run rfl (.int .i64 n) w3 (by simp [execOp, go_sem, Act.eval, *]) (Below.refl _ _) rfl
    · simp only [List.getElem?_toArray, List.getElem?_cons_succ, List.getElem?_cons_zero, Option.some.injEq] at ho
      subst ho
      refine ⟨rfl, ?_⟩
      have e16 : A_.tmps[16]?.getD undef = .int .i64 n := getD_of (hI.val_ (i := 7) rfl rfl (by decide) (hdep ⟨7, .data⟩ (by simp) rfl))
      clear hI hdep
      exact .call rfl 35 #[.int .i64 n] (.string s1) (by simp [go_sem, Act.eval, e16]) rfl ((HD1.out w3).mono fun _ _ h => ⟨h.1, h.2 ▸ Below.refl _ _⟩)
    · simp only [List.getElem?_toArray, List.getElem?_cons_succ, List.getElem?_cons_zero, Option.some.injEq] at ho
      subst ho
      refine ⟨rfl, ?_⟩
      have e14 : A_.tmps[14]?.getD undef = .string ((⟨#[99, 114, 97, 115, 104]⟩ : ByteArray) ++ (⟨#[32]⟩ : ByteArray)) := getD_of (hI.val_ (i := 5) rfl rfl (by decide) (hdep ⟨5, .data⟩ (by simp) rfl))
      have e17 : A_.tmps[17]?.getD undef = .string s1 := getD_of (hI.val_ (i := 8) rfl rfl (by decide) (hdep ⟨8, .data⟩ (by simp) rfl))
      clear hI hdep
      exact .run rfl (.string (((⟨#[99, 114, 97, 115, 104]⟩ : ByteArray) ++ (⟨#[32]⟩ : ByteArray)) ++ s1)) w3 (by simp [execOp, go_sem, Act.eval, *] <;> omega) (Below.refl _ _) rfl
    · simp only [List.getElem?_toArray, List.getElem?_cons_succ, List.getElem?_cons_zero, Option.some.injEq] at ho
      subst ho
      refine ⟨rfl, ?_⟩
      have e18 : A_.tmps[18]?.getD undef = .string (((⟨#[99, 114, 97, 115, 104]⟩ : ByteArray) ++ (⟨#[32]⟩ : ByteArray)) ++ s1) := getD_of (hI.val_ (i := 9) rfl rfl (by decide) (hdep ⟨9, .data⟩ (by simp) rfl))
      clear hI hdep
      exact .run rfl (.string (((⟨#[99, 114, 97, 115, 104]⟩ : ByteArray) ++ (⟨#[32]⟩ : ByteArray)) ++ s1)) w3 (by simp [execOp, go_sem, Act.eval, e18]) (Below.refl _ _) rfl
  case fin =>
  intro A_ w3 hs hd hlow hS hok
  obtain ⟨y9, hy9⟩ := RgP.row_at (hok 0 9 _ (by decide) rfl rfl)
  obtain ⟨y12, hy12⟩ := RgP.cel_at (hok 3 12 _ (by decide) rfl rfl)
  obtain rfl : A_ = ⟨#[.agg #[.int .i64 7, .int .i64 n, .int .i64 0, .int .i64 0, .int .i64 0, .int .i64 0, .int .i64 0, .int .i64 0], .pointer (some ⟨w.heap.size, 0, none⟩), .string (⟨#[]⟩ : ByteArray), .bool true, .string (((⟨#[99, 114, 97, 115, 104]⟩ : ByteArray) ++ (⟨#[32]⟩ : ByteArray)) ++ s1), .agg #[.int .i64 7, .int .i64 n, .int .i64 0, .int .i64 0, .int .i64 0, .int .i64 0, .int .i64 0, .int .i64 0], .bool true, .bool true, .bool false, y9, .pointer (some ⟨w.heap.size, 0, none⟩), .int .i64 7, y12, .string (⟨#[99, 114, 97, 115, 104]⟩ : ByteArray), .string ((⟨#[99, 114, 97, 115, 104]⟩ : ByteArray) ++ (⟨#[32]⟩ : ByteArray)), .pointer (some ⟨w.heap.size, 1, none⟩), .int .i64 n, .string s1, .string (((⟨#[99, 114, 97, 115, 104]⟩ : ByteArray) ++ (⟨#[32]⟩ : ByteArray)) ++ s1), undef, undef, undef, undef, undef, undef, undef, undef, undef, undef, undef, undef, undef, undef, undef, undef, undef, undef, undef, undef, undef, undef], []⟩ := act_ext hd hs (fun j hj => match j, hj with | 0, _ => (hlow 0 (by decide)).trans rfl | 1, _ => (hlow 1 (by decide)).trans rfl | 2, _ => (hlow 2 (by decide)).trans rfl | 3, _ => (hlow 3 (by decide)).trans rfl | 4, _ => RgP.val_at (hok 10 4 _ (by decide) rfl rfl) | 5, _ => (hlow 5 (by decide)).trans rfl | 6, _ => (hlow 6 (by decide)).trans rfl | 7, _ => (hlow 7 (by decide)).trans rfl | 8, _ => (hlow 8 (by decide)).trans rfl | 9, _ => hy9 | 10, _ => RgP.val_at (hok 1 10 _ (by decide) rfl rfl) | 11, _ => RgP.val_at (hok 2 11 _ (by decide) rfl rfl) | 12, _ => hy12 | 13, _ => RgP.val_at (hok 4 13 _ (by decide) rfl rfl) | 14, _ => RgP.val_at (hok 5 14 _ (by decide) rfl rfl) | 15, _ => RgP.val_at (hok 6 15 _ (by decide) rfl rfl) | 16, _ => RgP.val_at (hok 7 16 _ (by decide) rfl rfl) | 17, _ => RgP.val_at (hok 8 17 _ (by decide) rfl rfl) | 18, _ => RgP.val_at (hok 9 18 _ (by decide) rfl rfl) | 19, _ => (hlow 19 (by decide)).trans rfl | 20, _ => (hlow 20 (by decide)).trans rfl | 21, _ => (hlow 21 (by decide)).trans rfl | 22, _ => (hlow 22 (by decide)).trans rfl | 23, _ => (hlow 23 (by decide)).trans rfl | 24, _ => (hlow 24 (by decide)).trans rfl | 25, _ => (hlow 25 (by decide)).trans rfl | 26, _ => (hlow 26 (by decide)).trans rfl | 27, _ => (hlow 27 (by decide)).trans rfl | 28, _ => (hlow 28 (by decide)).trans rfl | 29, _ => (hlow 29 (by decide)).trans rfl | 30, _ => (hlow 30 (by decide)).trans rfl | 31, _ => (hlow 31 (by decide)).trans rfl | 32, _ => (hlow 32 (by decide)).trans rfl | 33, _ => (hlow 33 (by decide)).trans rfl | 34, _ => (hlow 34 (by decide)).trans rfl | 35, _ => (hlow 35 (by decide)).trans rfl | 36, _ => (hlow 36 (by decide)).trans rfl | 37, _ => (hlow 37 (by decide)).trans rfl | 38, _ => (hlow 38 (by decide)).trans rfl | 39, _ => (hlow 39 (by decide)).trans rfl | 40, _ => (hlow 40 (by decide)).trans rfl | n + 41, h => absurd h (by show ¬ n + 41 < 41; omega))
  clear hs hd hlow hok hy9 hy12
  obtain ⟨d0, d1, d2, d3, d4, d5, d6, d7⟩ := HK.out w3 (HB2.out.trans (hS.mono HB2.out.size))
  have hz : (((⟨#[99, 114, 97, 115, 104]⟩ : ByteArray) ++ (⟨#[32]⟩ : ByteArray)) ++ s1).size ≤ 1000 := by
    rw [ByteArray.size_append]
    show 6 + s1.size ≤ 1000
    omega
  generalize hR : (((⟨#[99, 114, 97, 115, 104]⟩ : ByteArray) ++ (⟨#[32]⟩ : ByteArray)) ++ s1) = R at *
  go_wp2_with fail
  go_ret
  exact ⟨by rw [hR]; rfl, HB.out.trans ((HB2.out.trans (hS.mono HB2.out.size)).mono HB.out.size)⟩
theorem text_two (a b : NM.Bs) : (NM.bs a ++ ⟨#[32]⟩) ++ NM.bs b = NM.bs (a ++ 32 :: b) := by
  rw [show (⟨#[32]⟩ : ByteArray) = NM.bs [32] from rfl, bs_add, bs_add, List.append_assoc]
  rfl
theorem text_three (a b c : NM.Bs) : (((NM.bs a ++ ⟨#[32]⟩) ++ NM.bs b) ++ ⟨#[32]⟩) ++ NM.bs c = NM.bs (a ++ 32 :: (b ++ 32 :: c)) := by
  rw [text_two, text_two, List.append_assoc]
  rfl
theorem bs_sizes {n : Int} (h : NM.Nn n) : (NM.bs (Lib.itoa n)).size ≤ 100 := by
  rw [bs_size]
  have := NM.itoa_len h
  omega
theorem dots_size {l : List Int} (h : ∀ x ∈ l, NM.Nn x) (hl : l.length ≤ 9) : (NM.bs (NM.dots l)).size ≤ 100 := by
  rw [bs_size]
  have := NM.dots_len l h
  omega
theorem refEvent_any (e : NM.Ev) (w : World) (hf : NM.fits e = true) : Calls Tryz.prog 14 #[evV e] w fun x w' => x = .returned (.string (NM.bs (NM.evT e))) ∧ Below w.heap.size w w' := by
  have HW := Lib.hid (fun V => well_any e V hf)
  obtain ⟨h1, h2, h3, h4, h5⟩ := NM.fits_iff.1 hf
  have ht : NM.evT e = if NM.argK e.k then NM.word e.k ++ 32 :: (NM.dots [e.n] ++ 32 :: NM.dots [e.a]) else if NM.msgK e.k then NM.word e.k ++ 32 :: (NM.dots [e.n] ++ 32 :: NM.dots (NM.msL e.m)) else NM.word e.k ++ 32 :: NM.dots [e.n] := by
    unfold NM.evT
    rw [if_pos hf, NM.words_three, NM.words_three, NM.words_two]
  obtain ⟨k, n, a, m⟩ := e
  obtain ⟨c, h, t, i, p⟩ := m
  unfold NM.written at h2
  simp only at h1 h2 h3 h4 h5
  have hn : NM.Nn n := NM.nn_small h3.1 h3.2 (by decide)
  have HD1 := Lib.hid (fun V => decimal_any hn V)
  have HD2 := Lib.hid (fun V => decimal_any h4 V)
  have z1 := bs_sizes hn
  have z2 := bs_sizes h4
  obtain ⟨⟨⟨c0, c1⟩, ⟨c2, c3⟩, c4⟩, c5, c6⟩ := NM.okM_iff.1 h5
  have hall : ∀ x ∈ [c, h, t, i, p], NM.Nn x := by
    intro x hx
    simp only [List.mem_cons, List.not_mem_nil, or_false] at hx
    rcases hx with rfl | rfl | rfl | rfl | rfl
    · exact NM.nn_small c0 c1 (by decide)
    · exact NM.nn_small c2 c3 (by decide)
    · exact c4
    · exact c5
    · exact c6
  have z3 := dots_size hall (by simp)
  have HS := Lib.hid (fun (V : World) (g : Nat) (hg : V.heap[g]? = some (.cells #[.int .i64 c, .int .i64 h, .int .i64 t, .int .i64 i, .int .i64 p] 3 (0, 0))) => dotsR_any (n := 5) [c, h, t, i, p] V hg rfl (by omega) hall)
  clear hall h5 hf
  rcases NM.kind_cases h1 with rfl | rfl | rfl | rfl | rfl | rfl | rfl <;> simp only [NM.argK, NM.msgK, NM.Ev.mk.injEq] at h2
  · obtain ⟨_, _, _, h6⟩ := h2
    have h7 : (⟨c, h, t, i, p⟩ : NM.Ms) = NM.m0 := by simpa using h6
    unfold NM.m0 at h7
    simp only [NM.Ms.mk.injEq] at h7
    obtain ⟨rfl, rfl, rfl, rfl, rfl⟩ := h7
    refine (refEv_1 n a _ _ w HW HD1 z1 HD2 z2).mono ?_
    rintro x w' ⟨rfl, hb⟩
    refine ⟨?_, hb⟩
    rw [ht]
    simp only [NM.dots_one]
    exact congrArg (fun s => Ending.returned (.string s)) (text_three (NM.word 1) (Lib.itoa n) (Lib.itoa a))
  · obtain ⟨_, _, _, h6⟩ := h2
    have h7 : (⟨c, h, t, i, p⟩ : NM.Ms) = NM.m0 := by simpa using h6
    unfold NM.m0 at h7
    simp only [NM.Ms.mk.injEq] at h7
    obtain ⟨rfl, rfl, rfl, rfl, rfl⟩ := h7
    refine (refEv_2 n a _ _ w HW HD1 z1 HD2 z2).mono ?_
    rintro x w' ⟨rfl, hb⟩
    refine ⟨?_, hb⟩
    rw [ht]
    simp only [NM.dots_one]
    exact congrArg (fun s => Ending.returned (.string s)) (text_three (NM.word 2) (Lib.itoa n) (Lib.itoa a))
  · obtain ⟨_, _, h6, _⟩ := h2
    have h7 : a = 0 := by simpa using h6
    subst h7
    refine (refEv_3 n c h t i p _ _ w HW HD1 z1 HS z3).mono ?_
    rintro x w' ⟨rfl, hb⟩
    refine ⟨?_, hb⟩
    rw [ht]
    simp only [NM.dots_one]
    exact congrArg (fun s => Ending.returned (.string s)) (text_three (NM.word 3) (Lib.itoa n) (NM.dots [c, h, t, i, p]))
  · obtain ⟨_, _, _, h6⟩ := h2
    have h7 : (⟨c, h, t, i, p⟩ : NM.Ms) = NM.m0 := by simpa using h6
    unfold NM.m0 at h7
    simp only [NM.Ms.mk.injEq] at h7
    obtain ⟨rfl, rfl, rfl, rfl, rfl⟩ := h7
    refine (refEv_4 n a _ _ w HW HD1 z1 HD2 z2).mono ?_
    rintro x w' ⟨rfl, hb⟩
    refine ⟨?_, hb⟩
    rw [ht]
    simp only [NM.dots_one]
    exact congrArg (fun s => Ending.returned (.string s)) (text_three (NM.word 4) (Lib.itoa n) (Lib.itoa a))
  · obtain ⟨_, _, h6, _⟩ := h2
    have h7 : a = 0 := by simpa using h6
    subst h7
    refine (refEv_5 n c h t i p _ _ w HW HD1 z1 HS z3).mono ?_
    rintro x w' ⟨rfl, hb⟩
    refine ⟨?_, hb⟩
    rw [ht]
    simp only [NM.dots_one]
    exact congrArg (fun s => Ending.returned (.string s)) (text_three (NM.word 5) (Lib.itoa n) (NM.dots [c, h, t, i, p]))
  · obtain ⟨_, _, h6, _⟩ := h2
    have h7 : a = 0 := by simpa using h6
    subst h7
    refine (refEv_6 n c h t i p _ _ w HW HD1 z1 HS z3).mono ?_
    rintro x w' ⟨rfl, hb⟩
    refine ⟨?_, hb⟩
    rw [ht]
    simp only [NM.dots_one]
    exact congrArg (fun s => Ending.returned (.string s)) (text_three (NM.word 6) (Lib.itoa n) (NM.dots [c, h, t, i, p]))
  · obtain ⟨_, _, h6, h8⟩ := h2
    have h7 : (⟨c, h, t, i, p⟩ : NM.Ms) = NM.m0 := by simpa using h8
    have h9 : a = 0 := by simpa using h6
    unfold NM.m0 at h7
    simp only [NM.Ms.mk.injEq] at h7
    obtain ⟨rfl, rfl, rfl, rfl, rfl⟩ := h7
    subst h9
    refine (refEv_7 n _ w HW HD1 z1).mono ?_
    rintro x w' ⟨rfl, hb⟩
    refine ⟨?_, hb⟩
    rw [ht]
    simp only [NM.dots_one]
    exact congrArg (fun s => Ending.returned (.string s)) (text_two (NM.word 7) (Lib.itoa n))
end Go.Proofs.YtggallpnbbidfaaGreatDoor
