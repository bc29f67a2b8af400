/-
  The reference's Broken: some string that is not much longer. Conditions: the string has at most 200 bytes; the numbers are Go's.
-/
import Derived.Test.YtggallpnbbidfaaGreatDoorAround
import Derived.Test.YtggallpnbbidfaaGreatDoorBase
import Derived.Test.YtggallpnbbidfaaGreatDoorShort
import Derived.Test.YtggallpnbbidfaaGreatDoorRgX
import Derived.Deep.QuietTactic
import Derived.BigQuiet
import Derived.IntWalk
namespace Go.Proofs.YtggallpnbbidfaaGreatDoor
open Go Go.RowKit Go.Proofs
attribute [local go_sem] Oper.semAt_some

theorem enc_le (z : Int) : (Utf8.encode z).size ≤ 4 := by
  unfold Utf8.encode
  simp only
  repeat' split
  all_goals (show Array.size _ ≤ 4; simp)
theorem ext_le (s : ByteArray) (a b : Nat) : (s.extract a b).size ≤ s.size := by
  rw [ByteArray.size_extract]
  omega
/-- A string of at most n bytes. -/
def StrB (n : Nat) (w : World) (e : Ending) (w' : World) : Prop := ∃ t : ByteArray, e = .returned (.string t) ∧ t.size ≤ n ∧ Below w.heap.size w w'
theorem drewN_below' (w : World) (q : Nat) : Below w.heap.size w (w.drewN q) := ⟨rfl, rfl, rfl, Nat.le_refl _, fun _ _ => rfl⟩
set_option maxHeartbeats 4000000 in
set_option maxRecDepth 100000 in
theorem broken_a (s E : ByteArray) (at_ how c : Int) (k : Nat) (hs : s.size ≤ 200) (hk : k ≤ s.size) (hE4 : E.size ≤ 4) (HE : Hid (Utf8.encode (IntKind.i32.wrap (c.tmod 128)) = E)) (w : World)
    (HA1 : Hid (∀ V, Calls Tryz.prog 7 #[.int .i64 at_, .int .i64 ((s.size : Int) + 1)] V fun e w' => e = .returned (.int .i64 k) ∧ V = w'))
    (HA2 : Hid (∀ V, Calls Tryz.prog 7 #[.int .i64 how, .int .i64 3] V fun e w' => e = .returned (.int .i64 0) ∧ V = w')) :
    Calls Tryz.prog 18 #[.string s, .int .i64 at_, .int .i64 how, .int .u8 c] w (StrB (s.size + s.size + 10) w) := by
  have l1 := ext_le s 0 k
  have l2 := ext_le s k s.size
  have l3 := ext_le s (k + 1) s.size
  go_enter Tryz.func18, Tryz.ntmps18
  go_wp2_with (first | (go_at_call 7; (with_reducible refine (HA1.out _).mono ?_); rintro e w1 ⟨rfl, rfl⟩; clear HA1) | (go_at_call 7; (with_reducible refine (HA2.out _).mono ?_); rintro e w1 ⟨rfl, rfl⟩))
  refine RgX.region 13 (fun i => (if i = 12 then 8 else 19 + i)) (fun ix_ => match ix_ with | 0 => .v (.string s) | 1 => .v (.int .i64 (k : Int)) | 2 => .v (.string (s.extract 0 k)) | 3 => .v (.int .u8 c) | 4 => .v (.int .u8 (c.tmod 128)) | 5 => .v (.int .i32 (IntKind.i32.wrap (c.tmod 128))) | 6 => .v (.string E) | 7 => .v (.string ((s.extract 0 k) ++ E)) | 8 => .v (.string s) | 9 => .v (.int .i64 (k : Int)) | 10 => .v (.string (s.extract k s.size)) | 11 => .v (.string (((s.extract 0 k) ++ E) ++ (s.extract k s.size))) | 12 => .v (.string (((s.extract 0 k) ++ E) ++ (s.extract k s.size))) | _ => .any) (by kernel_rfl) rfl (by kernel_rfl)  (fun i hi => by show (if i = 12 then 8 else 19 + i) < 63; (repeat' split) <;> omega) (fun i j hi hj => by show (if i = 12 then 8 else 19 + i) = (if j = 12 then 8 else 19 + j) → i = j; (repeat' split) <;> omega) ?step ?fin
  case step =>
    intro L_ A_ w3 ix op_ hI ho hdep
    have hi : ix < 13 := (Array.getElem?_eq_some_iff.1 ho).1
    have hcase : ix = 0 ∨ ix = 1 ∨ ix = 2 ∨ ix = 3 ∨ ix = 4 ∨ ix = 5 ∨ ix = 6 ∨ ix = 7 ∨ ix = 8 ∨ ix = 9 ∨ ix = 10 ∨ ix = 11 ∨ ix = 12 := by omega
    have hh := hI.held
    clear hi
    rcases hcase with rfl | rfl | rfl | rfl | rfl | rfl | rfl | rfl | rfl | rfl | rfl | rfl | rfl
    · simp only [List.getElem?_toArray, List.getElem?_cons_zero, Option.some.injEq] at ho
      subst ho
      refine ⟨rfl, ?_⟩
      have e0 : A_.tmps[0]?.getD undef = .string s := by rw [hI.low 0 (by decide)]; rfl
      clear hI hdep
      exact .run rfl (.string s) w3 (by simp [execOp, go_sem, Act.eval, e0]) (Below.refl _ _) rfl
    · simp only [List.getElem?_toArray, List.getElem?_cons_succ, List.getElem?_cons_zero, Option.some.injEq] at ho
      subst ho
      refine ⟨rfl, ?_⟩
      have e9 : A_.tmps[9]?.getD undef = .int .i64 (k : Int) := by rw [hI.low 9 (by decide)]; rfl
      clear hI hdep
      exact .run rfl (.int .i64 (k : Int)) w3 (by simp [execOp, go_sem, Act.eval, e9]) (Below.refl _ _) rfl
    · simp only [List.getElem?_toArray, List.getElem?_cons_succ, List.getElem?_cons_zero, Option.some.injEq] at ho
      subst ho
      refine ⟨rfl, ?_⟩
      have e19 : A_.tmps[19]?.getD undef = .string s := getD_of (hI.val_ (i := 0) rfl rfl (by decide) (hdep ⟨0, .data⟩ (by simp) rfl))
      have e20 : A_.tmps[20]?.getD undef = .int .i64 (k : Int) := getD_of (hI.val_ (i := 1) rfl rfl (by decide) (hdep ⟨1, .data⟩ (by simp) rfl))
      clear hI hdep
      exact .run rfl (.string (s.extract 0 k)) w3 (by simp [execOp, go_sem, Act.eval, *] <;> omega) (Below.refl _ _) rfl
    · simp only [List.getElem?_toArray, List.getElem?_cons_succ, List.getElem?_cons_zero, Option.some.injEq] at ho
      subst ho
      refine ⟨rfl, ?_⟩
      have e3 : A_.tmps[3]?.getD undef = .int .u8 c := by rw [hI.low 3 (by decide)]; rfl
      clear hI hdep
      exact .run rfl (.int .u8 c) w3 (by simp [execOp, go_sem, Act.eval, e3]) (Below.refl _ _) rfl
    · simp only [List.getElem?_toArray, List.getElem?_cons_succ, List.getElem?_cons_zero, Option.some.injEq] at ho
      subst ho
      refine ⟨rfl, ?_⟩
      have e22 : A_.tmps[22]?.getD undef = .int .u8 c := getD_of (hI.val_ (i := 3) rfl rfl (by decide) (hdep ⟨3, .data⟩ (by simp) rfl))
      clear hI hdep
      exact .run rfl (.int .u8 (c.tmod 128)) w3 (by simp [execOp, go_sem, Act.eval, *]) (Below.refl _ _) rfl
    · simp only [List.getElem?_toArray, List.getElem?_cons_succ, List.getElem?_cons_zero, Option.some.injEq] at ho
      subst ho
      refine ⟨rfl, ?_⟩
      have e23 : A_.tmps[23]?.getD undef = .int .u8 (c.tmod 128) := getD_of (hI.val_ (i := 4) rfl rfl (by decide) (hdep ⟨4, .data⟩ (by simp) rfl))
      clear hI hdep
      exact .run rfl (.int .i32 (IntKind.i32.wrap (c.tmod 128))) w3 (by simp [execOp, go_sem, Act.eval, *]) (Below.refl _ _) rfl
    · simp only [List.getElem?_toArray, List.getElem?_cons_succ, List.getElem?_cons_zero, Option.some.injEq] at ho
      subst ho
      refine ⟨rfl, ?_⟩
      have e24 : A_.tmps[24]?.getD undef = .int .i32 (IntKind.i32.wrap (c.tmod 128)) := getD_of (hI.val_ (i := 5) rfl rfl (by decide) (hdep ⟨5, .data⟩ (by simp) rfl))
      clear hI hdep
      have hE := HE.out
      exact .run rfl (.string E) w3 (by simp [execOp, go_sem, Act.eval, *]) (Below.refl _ _) rfl
    · simp only [List.getElem?_toArray, List.getElem?_cons_succ, List.getElem?_cons_zero, Option.some.injEq] at ho
      subst ho
      refine ⟨rfl, ?_⟩
      have e21 : A_.tmps[21]?.getD undef = .string (s.extract 0 k) := getD_of (hI.val_ (i := 2) rfl rfl (by decide) (hdep ⟨2, .data⟩ (by simp) rfl))
      have e25 : A_.tmps[25]?.getD undef = .string E := getD_of (hI.val_ (i := 6) rfl rfl (by decide) (hdep ⟨6, .data⟩ (by simp) rfl))
      clear hI hdep
      have hx : ¬ (9223372036854775807 < ((s.extract 0 k)).size + (E).size) := by omega
      exact .run rfl (.string ((s.extract 0 k) ++ E)) w3 (by simp [execOp, go_sem, Act.eval, *] <;> omega) (Below.refl _ _) rfl
    · simp only [List.getElem?_toArray, List.getElem?_cons_succ, List.getElem?_cons_zero, Option.some.injEq] at ho
      subst ho
      refine ⟨rfl, ?_⟩
      have e0 : A_.tmps[0]?.getD undef = .string s := by rw [hI.low 0 (by decide)]; rfl
      clear hI hdep
      exact .run rfl (.string s) w3 (by simp [execOp, go_sem, Act.eval, e0]) (Below.refl _ _) rfl
    · simp only [List.getElem?_toArray, List.getElem?_cons_succ, List.getElem?_cons_zero, Option.some.injEq] at ho
      subst ho
      refine ⟨rfl, ?_⟩
      have e9 : A_.tmps[9]?.getD undef = .int .i64 (k : Int) := by rw [hI.low 9 (by decide)]; rfl
      clear hI hdep
      exact .run rfl (.int .i64 (k : Int)) w3 (by simp [execOp, go_sem, Act.eval, e9]) (Below.refl _ _) rfl
    · simp only [List.getElem?_toArray, List.getElem?_cons_succ, List.getElem?_cons_zero, Option.some.injEq] at ho
      subst ho
      refine ⟨rfl, ?_⟩
      have e27 : A_.tmps[27]?.getD undef = .string s := getD_of (hI.val_ (i := 8) rfl rfl (by decide) (hdep ⟨8, .data⟩ (by simp) rfl))
      have e28 : A_.tmps[28]?.getD undef = .int .i64 (k : Int) := getD_of (hI.val_ (i := 9) rfl rfl (by decide) (hdep ⟨9, .data⟩ (by simp) rfl))
      clear hI hdep
      exact .run rfl (.string (s.extract k s.size)) w3 (by simp [execOp, go_sem, Act.eval, *] <;> omega) (Below.refl _ _) rfl
    · simp only [List.getElem?_toArray, List.getElem?_cons_succ, List.getElem?_cons_zero, Option.some.injEq] at ho
      subst ho
      refine ⟨rfl, ?_⟩
      have e26 : A_.tmps[26]?.getD undef = .string ((s.extract 0 k) ++ E) := getD_of (hI.val_ (i := 7) rfl rfl (by decide) (hdep ⟨7, .data⟩ (by simp) rfl))
      have e29 : A_.tmps[29]?.getD undef = .string (s.extract k s.size) := getD_of (hI.val_ (i := 10) rfl rfl (by decide) (hdep ⟨10, .data⟩ (by simp) rfl))
      clear hI hdep
      have hx : ¬ (9223372036854775807 < (((s.extract 0 k) ++ E)).size + ((s.extract k s.size)).size) := by rw [ByteArray.size_append]; omega
      exact .run rfl (.string (((s.extract 0 k) ++ E) ++ (s.extract k s.size))) w3 (by simp [execOp, go_sem, Act.eval, *] <;> omega) (Below.refl _ _) rfl
    · simp only [List.getElem?_toArray, List.getElem?_cons_succ, List.getElem?_cons_zero, Option.some.injEq] at ho
      subst ho
      refine ⟨rfl, ?_⟩
      have e30 : A_.tmps[30]?.getD undef = .string (((s.extract 0 k) ++ E) ++ (s.extract k s.size)) := getD_of (hI.val_ (i := 11) rfl rfl (by decide) (hdep ⟨11, .data⟩ (by simp) rfl))
      clear hI hdep
      exact .run rfl (.string (((s.extract 0 k) ++ E) ++ (s.extract k s.size))) w3 (by simp [execOp, go_sem, Act.eval, e30]) (Below.refl _ _) rfl
  case fin =>
  intro A_ w3 hs hd hlow hS hok
  obtain rfl : A_ = ⟨#[.string s, .int .i64 at_, .int .i64 how, .int .u8 c, undef, undef, undef, undef, .string (((s.extract 0 k) ++ E) ++ (s.extract k s.size)), .int .i64 (k : Int), .int .i64 at_, .string s, .int .i64 (s.size : Int), .int .i64 ((s.size : Int) + 1), .int .i64 (k : Int), .int .i64 how, .int .i64 0, .bool true, .bool true, .string s, .int .i64 (k : Int), .string (s.extract 0 k), .int .u8 c, .int .u8 (c.tmod 128), .int .i32 (IntKind.i32.wrap (c.tmod 128)), .string E, .string ((s.extract 0 k) ++ E), .string s, .int .i64 (k : Int), .string (s.extract k s.size), .string (((s.extract 0 k) ++ E) ++ (s.extract k s.size)), undef, undef, undef, undef, undef, undef, undef, undef, undef, undef, undef, undef, undef, undef, undef, undef, undef, undef, undef, undef, undef, undef, undef, undef, undef, undef, undef, undef, undef, undef, undef, undef], []⟩ := act_ext hd hs (fun j hj => match j, hj with | 0, _ => (hlow 0 (by decide)).trans rfl | 1, _ => (hlow 1 (by decide)).trans rfl | 2, _ => (hlow 2 (by decide)).trans rfl | 3, _ => (hlow 3 (by decide)).trans rfl | 4, _ => (hlow 4 (by decide)).trans rfl | 5, _ => (hlow 5 (by decide)).trans rfl | 6, _ => (hlow 6 (by decide)).trans rfl | 7, _ => (hlow 7 (by decide)).trans rfl | 8, _ => RgX.val_at (hok 12 8 _ (by decide) rfl rfl) | 9, _ => (hlow 9 (by decide)).trans rfl | 10, _ => (hlow 10 (by decide)).trans rfl | 11, _ => (hlow 11 (by decide)).trans rfl | 12, _ => (hlow 12 (by decide)).trans rfl | 13, _ => (hlow 13 (by decide)).trans rfl | 14, _ => (hlow 14 (by decide)).trans rfl | 15, _ => (hlow 15 (by decide)).trans rfl | 16, _ => (hlow 16 (by decide)).trans rfl | 17, _ => (hlow 17 (by decide)).trans rfl | 18, _ => (hlow 18 (by decide)).trans rfl | 19, _ => RgX.val_at (hok 0 19 _ (by decide) rfl rfl) | 20, _ => RgX.val_at (hok 1 20 _ (by decide) rfl rfl) | 21, _ => RgX.val_at (hok 2 21 _ (by decide) rfl rfl) | 22, _ => RgX.val_at (hok 3 22 _ (by decide) rfl rfl) | 23, _ => RgX.val_at (hok 4 23 _ (by decide) rfl rfl) | 24, _ => RgX.val_at (hok 5 24 _ (by decide) rfl rfl) | 25, _ => RgX.val_at (hok 6 25 _ (by decide) rfl rfl) | 26, _ => RgX.val_at (hok 7 26 _ (by decide) rfl rfl) | 27, _ => RgX.val_at (hok 8 27 _ (by decide) rfl rfl) | 28, _ => RgX.val_at (hok 9 28 _ (by decide) rfl rfl) | 29, _ => RgX.val_at (hok 10 29 _ (by decide) rfl rfl) | 30, _ => RgX.val_at (hok 11 30 _ (by decide) rfl rfl) | 31, _ => (hlow 31 (by decide)).trans rfl | 32, _ => (hlow 32 (by decide)).trans rfl | 33, _ => (hlow 33 (by decide)).trans rfl | 34, _ => (hlow 34 (by decide)).trans rfl | 35, _ => (hlow 35 (by decide)).trans rfl | 36, _ => (hlow 36 (by decide)).trans rfl | 37, _ => (hlow 37 (by decide)).trans rfl | 38, _ => (hlow 38 (by decide)).trans rfl | 39, _ => (hlow 39 (by decide)).trans rfl | 40, _ => (hlow 40 (by decide)).trans rfl | 41, _ => (hlow 41 (by decide)).trans rfl | 42, _ => (hlow 42 (by decide)).trans rfl | 43, _ => (hlow 43 (by decide)).trans rfl | 44, _ => (hlow 44 (by decide)).trans rfl | 45, _ => (hlow 45 (by decide)).trans rfl | 46, _ => (hlow 46 (by decide)).trans rfl | 47, _ => (hlow 47 (by decide)).trans rfl | 48, _ => (hlow 48 (by decide)).trans rfl | 49, _ => (hlow 49 (by decide)).trans rfl | 50, _ => (hlow 50 (by decide)).trans rfl | 51, _ => (hlow 51 (by decide)).trans rfl | 52, _ => (hlow 52 (by decide)).trans rfl | 53, _ => (hlow 53 (by decide)).trans rfl | 54, _ => (hlow 54 (by decide)).trans rfl | 55, _ => (hlow 55 (by decide)).trans rfl | 56, _ => (hlow 56 (by decide)).trans rfl | 57, _ => (hlow 57 (by decide)).trans rfl | 58, _ => (hlow 58 (by decide)).trans rfl | 59, _ => (hlow 59 (by decide)).trans rfl | 60, _ => (hlow 60 (by decide)).trans rfl | 61, _ => (hlow 61 (by decide)).trans rfl | 62, _ => (hlow 62 (by decide)).trans rfl | n + 63, h => absurd h (by show ¬ n + 63 < 63; omega))
  clear hs hd hlow hok 
  go_wp2_with fail
  go_ret
  refine ⟨((s.extract 0 k) ++ E) ++ (s.extract k s.size), rfl, ?_, hS⟩
  rw [ByteArray.size_append, ByteArray.size_append]
  omega
set_option maxHeartbeats 4000000 in
set_option maxRecDepth 100000 in
theorem broken_b (s E : ByteArray) (at_ how c : Int) (k : Nat) (hs : s.size ≤ 200) (hk : k < s.size) (_hE4 : E.size ≤ 4) (_HE : Hid (Utf8.encode (IntKind.i32.wrap (c.tmod 128)) = E)) (w : World)
    (HA1 : Hid (∀ V, Calls Tryz.prog 7 #[.int .i64 at_, .int .i64 ((s.size : Int) + 1)] V fun e w' => e = .returned (.int .i64 k) ∧ V = w'))
    (HA2 : Hid (∀ V, Calls Tryz.prog 7 #[.int .i64 how, .int .i64 3] V fun e w' => e = .returned (.int .i64 1) ∧ V = w')) :
    Calls Tryz.prog 18 #[.string s, .int .i64 at_, .int .i64 how, .int .u8 c] w (StrB (s.size + s.size + 10) w) := by
  have l1 := ext_le s 0 k
  have l2 := ext_le s k s.size
  have l3 := ext_le s (k + 1) s.size
  go_enter Tryz.func18, Tryz.ntmps18
  go_wp2_with (first | (go_at_call 7; (with_reducible refine (HA1.out _).mono ?_); rintro e w1 ⟨rfl, rfl⟩; clear HA1) | (go_at_call 7; (with_reducible refine (HA2.out _).mono ?_); rintro e w1 ⟨rfl, rfl⟩))
  refine RgX.region 9 (fun i => (if i = 8 then 8 else 37 + i)) (fun ix_ => match ix_ with | 0 => .v (.string s) | 1 => .v (.int .i64 (k : Int)) | 2 => .v (.string (s.extract 0 k)) | 3 => .v (.string s) | 4 => .v (.int .i64 (k : Int)) | 5 => .v (.int .i64 ((k : Int) + 1)) | 6 => .v (.string (s.extract (k + 1) s.size)) | 7 => .v (.string ((s.extract 0 k) ++ (s.extract (k + 1) s.size))) | 8 => .v (.string ((s.extract 0 k) ++ (s.extract (k + 1) s.size))) | _ => .any) (by kernel_rfl) rfl (by kernel_rfl)  (fun i hi => by show (if i = 8 then 8 else 37 + i) < 63; (repeat' split) <;> omega) (fun i j hi hj => by show (if i = 8 then 8 else 37 + i) = (if j = 8 then 8 else 37 + j) → i = j; (repeat' split) <;> omega) ?step ?fin
  case step =>
    intro L_ A_ w3 ix op_ hI ho hdep
    have hi : ix < 9 := (Array.getElem?_eq_some_iff.1 ho).1
    have hcase : ix = 0 ∨ ix = 1 ∨ ix = 2 ∨ ix = 3 ∨ ix = 4 ∨ ix = 5 ∨ ix = 6 ∨ ix = 7 ∨ ix = 8 := by omega
    have hh := hI.held
    clear hi
    rcases hcase with rfl | rfl | rfl | rfl | rfl | rfl | rfl | rfl | rfl
    · simp only [List.getElem?_toArray, List.getElem?_cons_zero, Option.some.injEq] at ho
      subst ho
      refine ⟨rfl, ?_⟩
      have e0 : A_.tmps[0]?.getD undef = .string s := by rw [hI.low 0 (by decide)]; rfl
      clear hI hdep
      exact .run rfl (.string s) w3 (by simp [execOp, go_sem, Act.eval, e0]) (Below.refl _ _) rfl
    · simp only [List.getElem?_toArray, List.getElem?_cons_succ, List.getElem?_cons_zero, Option.some.injEq] at ho
      subst ho
      refine ⟨rfl, ?_⟩
      have e9 : A_.tmps[9]?.getD undef = .int .i64 (k : Int) := by rw [hI.low 9 (by decide)]; rfl
      clear hI hdep
      exact .run rfl (.int .i64 (k : Int)) w3 (by simp [execOp, go_sem, Act.eval, e9]) (Below.refl _ _) rfl
    · simp only [List.getElem?_toArray, List.getElem?_cons_succ, List.getElem?_cons_zero, Option.some.injEq] at ho
      subst ho
      refine ⟨rfl, ?_⟩
      have e37 : A_.tmps[37]?.getD undef = .string s := getD_of (hI.val_ (i := 0) rfl rfl (by decide) (hdep ⟨0, .data⟩ (by simp) rfl))
      have e38 : A_.tmps[38]?.getD undef = .int .i64 (k : Int) := getD_of (hI.val_ (i := 1) rfl rfl (by decide) (hdep ⟨1, .data⟩ (by simp) rfl))
      clear hI hdep
      exact .run rfl (.string (s.extract 0 k)) w3 (by simp [execOp, go_sem, Act.eval, *] <;> omega) (Below.refl _ _) rfl
    · simp only [List.getElem?_toArray, List.getElem?_cons_succ, List.getElem?_cons_zero, Option.some.injEq] at ho
      subst ho
      refine ⟨rfl, ?_⟩
      have e0 : A_.tmps[0]?.getD undef = .string s := by rw [hI.low 0 (by decide)]; rfl
      clear hI hdep
      exact .run rfl (.string s) w3 (by simp [execOp, go_sem, Act.eval, e0]) (Below.refl _ _) rfl
    · simp only [List.getElem?_toArray, List.getElem?_cons_succ, List.getElem?_cons_zero, Option.some.injEq] at ho
      subst ho
      refine ⟨rfl, ?_⟩
      have e9 : A_.tmps[9]?.getD undef = .int .i64 (k : Int) := by rw [hI.low 9 (by decide)]; rfl
      clear hI hdep
      exact .run rfl (.int .i64 (k : Int)) w3 (by simp [execOp, go_sem, Act.eval, e9]) (Below.refl _ _) rfl
    · simp only [List.getElem?_toArray, List.getElem?_cons_succ, List.getElem?_cons_zero, Option.some.injEq] at ho
      subst ho
      refine ⟨rfl, ?_⟩
      have e41 : A_.tmps[41]?.getD undef = .int .i64 (k : Int) := getD_of (hI.val_ (i := 4) rfl rfl (by decide) (hdep ⟨4, .data⟩ (by simp) rfl))
      clear hI hdep
      have hw : IntKind.i64.wrap ((k : Int) + 1) = (k : Int) + 1 := IntWalk.i64_in _ (by omega)
      exact .run rfl (.int .i64 ((k : Int) + 1)) w3 (by simp [execOp, go_sem, Act.eval, *]) (Below.refl _ _) rfl
    · simp only [List.getElem?_toArray, List.getElem?_cons_succ, List.getElem?_cons_zero, Option.some.injEq] at ho
      subst ho
      refine ⟨rfl, ?_⟩
      have e40 : A_.tmps[40]?.getD undef = .string s := getD_of (hI.val_ (i := 3) rfl rfl (by decide) (hdep ⟨3, .data⟩ (by simp) rfl))
      have e42 : A_.tmps[42]?.getD undef = .int .i64 ((k : Int) + 1) := getD_of (hI.val_ (i := 5) rfl rfl (by decide) (hdep ⟨5, .data⟩ (by simp) rfl))
      clear hI hdep
      have h6 : (k : Int) + 1 = ((k + 1 : Nat) : Int) := by omega
      rw [h6] at e42
      clear h6
      exact .run rfl (.string (s.extract (k + 1) s.size)) w3 (by simp [execOp, go_sem, Act.eval, e42, e40] <;> omega) (Below.refl _ _) rfl
    · simp only [List.getElem?_toArray, List.getElem?_cons_succ, List.getElem?_cons_zero, Option.some.injEq] at ho
      subst ho
      refine ⟨rfl, ?_⟩
      have e39 : A_.tmps[39]?.getD undef = .string (s.extract 0 k) := getD_of (hI.val_ (i := 2) rfl rfl (by decide) (hdep ⟨2, .data⟩ (by simp) rfl))
      have e43 : A_.tmps[43]?.getD undef = .string (s.extract (k + 1) s.size) := getD_of (hI.val_ (i := 6) rfl rfl (by decide) (hdep ⟨6, .data⟩ (by simp) rfl))
      clear hI hdep
      have hx : ¬ (9223372036854775807 < ((s.extract 0 k)).size + ((s.extract (k + 1) s.size)).size) := by omega
      exact .run rfl (.string ((s.extract 0 k) ++ (s.extract (k + 1) s.size))) w3 (by simp [execOp, go_sem, Act.eval, *] <;> omega) (Below.refl _ _) rfl
    · simp only [List.getElem?_toArray, List.getElem?_cons_succ, List.getElem?_cons_zero, Option.some.injEq] at ho
      subst ho
      refine ⟨rfl, ?_⟩
      have e44 : A_.tmps[44]?.getD undef = .string ((s.extract 0 k) ++ (s.extract (k + 1) s.size)) := getD_of (hI.val_ (i := 7) rfl rfl (by decide) (hdep ⟨7, .data⟩ (by simp) rfl))
      clear hI hdep
      exact .run rfl (.string ((s.extract 0 k) ++ (s.extract (k + 1) s.size))) w3 (by simp [execOp, go_sem, Act.eval, e44]) (Below.refl _ _) rfl
  case fin =>
  intro A_ w3 hs hd hlow hS hok
  obtain rfl : A_ = ⟨#[.string s, .int .i64 at_, .int .i64 how, .int .u8 c, undef, undef, undef, undef, .string ((s.extract 0 k) ++ (s.extract (k + 1) s.size)), .int .i64 (k : Int), .int .i64 at_, .string s, .int .i64 (s.size : Int), .int .i64 ((s.size : Int) + 1), .int .i64 (k : Int), .int .i64 how, .int .i64 1, .bool false, .bool false, undef, undef, undef, undef, undef, undef, undef, undef, undef, undef, undef, undef, .bool true, .bool true, .int .i64 (k : Int), .string s, .int .i64 (s.size : Int), .bool true, .string s, .int .i64 (k : Int), .string (s.extract 0 k), .string s, .int .i64 (k : Int), .int .i64 ((k : Int) + 1), .string (s.extract (k + 1) s.size), .string ((s.extract 0 k) ++ (s.extract (k + 1) s.size)), undef, undef, undef, undef, undef, undef, undef, undef, undef, undef, undef, undef, undef, undef, undef, undef, undef, undef], []⟩ := act_ext hd hs (fun j hj => match j, hj with | 0, _ => (hlow 0 (by decide)).trans rfl | 1, _ => (hlow 1 (by decide)).trans rfl | 2, _ => (hlow 2 (by decide)).trans rfl | 3, _ => (hlow 3 (by decide)).trans rfl | 4, _ => (hlow 4 (by decide)).trans rfl | 5, _ => (hlow 5 (by decide)).trans rfl | 6, _ => (hlow 6 (by decide)).trans rfl | 7, _ => (hlow 7 (by decide)).trans rfl | 8, _ => RgX.val_at (hok 8 8 _ (by decide) rfl rfl) | 9, _ => (hlow 9 (by decide)).trans rfl | 10, _ => (hlow 10 (by decide)).trans rfl | 11, _ => (hlow 11 (by decide)).trans rfl | 12, _ => (hlow 12 (by decide)).trans rfl | 13, _ => (hlow 13 (by decide)).trans rfl | 14, _ => (hlow 14 (by decide)).trans rfl | 15, _ => (hlow 15 (by decide)).trans rfl | 16, _ => (hlow 16 (by decide)).trans rfl | 17, _ => (hlow 17 (by decide)).trans rfl | 18, _ => (hlow 18 (by decide)).trans rfl | 19, _ => (hlow 19 (by decide)).trans rfl | 20, _ => (hlow 20 (by decide)).trans rfl | 21, _ => (hlow 21 (by decide)).trans rfl | 22, _ => (hlow 22 (by decide)).trans rfl | 23, _ => (hlow 23 (by decide)).trans rfl | 24, _ => (hlow 24 (by decide)).trans rfl | 25, _ => (hlow 25 (by decide)).trans rfl | 26, _ => (hlow 26 (by decide)).trans rfl | 27, _ => (hlow 27 (by decide)).trans rfl | 28, _ => (hlow 28 (by decide)).trans rfl | 29, _ => (hlow 29 (by decide)).trans rfl | 30, _ => (hlow 30 (by decide)).trans rfl | 31, _ => (hlow 31 (by decide)).trans rfl | 32, _ => (hlow 32 (by decide)).trans rfl | 33, _ => (hlow 33 (by decide)).trans rfl | 34, _ => (hlow 34 (by decide)).trans rfl | 35, _ => (hlow 35 (by decide)).trans rfl | 36, _ => (hlow 36 (by decide)).trans rfl | 37, _ => RgX.val_at (hok 0 37 _ (by decide) rfl rfl) | 38, _ => RgX.val_at (hok 1 38 _ (by decide) rfl rfl) | 39, _ => RgX.val_at (hok 2 39 _ (by decide) rfl rfl) | 40, _ => RgX.val_at (hok 3 40 _ (by decide) rfl rfl) | 41, _ => RgX.val_at (hok 4 41 _ (by decide) rfl rfl) | 42, _ => RgX.val_at (hok 5 42 _ (by decide) rfl rfl) | 43, _ => RgX.val_at (hok 6 43 _ (by decide) rfl rfl) | 44, _ => RgX.val_at (hok 7 44 _ (by decide) rfl rfl) | 45, _ => (hlow 45 (by decide)).trans rfl | 46, _ => (hlow 46 (by decide)).trans rfl | 47, _ => (hlow 47 (by decide)).trans rfl | 48, _ => (hlow 48 (by decide)).trans rfl | 49, _ => (hlow 49 (by decide)).trans rfl | 50, _ => (hlow 50 (by decide)).trans rfl | 51, _ => (hlow 51 (by decide)).trans rfl | 52, _ => (hlow 52 (by decide)).trans rfl | 53, _ => (hlow 53 (by decide)).trans rfl | 54, _ => (hlow 54 (by decide)).trans rfl | 55, _ => (hlow 55 (by decide)).trans rfl | 56, _ => (hlow 56 (by decide)).trans rfl | 57, _ => (hlow 57 (by decide)).trans rfl | 58, _ => (hlow 58 (by decide)).trans rfl | 59, _ => (hlow 59 (by decide)).trans rfl | 60, _ => (hlow 60 (by decide)).trans rfl | 61, _ => (hlow 61 (by decide)).trans rfl | 62, _ => (hlow 62 (by decide)).trans rfl | n + 63, h => absurd h (by show ¬ n + 63 < 63; omega))
  clear hs hd hlow hok 
  go_wp2_with fail
  go_ret
  refine ⟨(s.extract 0 k) ++ (s.extract (k + 1) s.size), rfl, ?_, hS⟩
  rw [ByteArray.size_append]
  omega
set_option maxHeartbeats 4000000 in
set_option maxRecDepth 100000 in
theorem broken_c (s E : ByteArray) (at_ how c : Int) (k : Nat) (hs : s.size ≤ 200) (hk : k < s.size) (hE4 : E.size ≤ 4) (HE : Hid (Utf8.encode (IntKind.i32.wrap (c.tmod 128)) = E)) (w : World)
    (HA1 : Hid (∀ V, Calls Tryz.prog 7 #[.int .i64 at_, .int .i64 ((s.size : Int) + 1)] V fun e w' => e = .returned (.int .i64 k) ∧ V = w'))
    (HA2 : Hid (∀ V, Calls Tryz.prog 7 #[.int .i64 how, .int .i64 3] V fun e w' => e = .returned (.int .i64 2) ∧ V = w')) :
    Calls Tryz.prog 18 #[.string s, .int .i64 at_, .int .i64 how, .int .u8 c] w (StrB (s.size + s.size + 10) w) := by
  have l1 := ext_le s 0 k
  have l2 := ext_le s k s.size
  have l3 := ext_le s (k + 1) s.size
  go_enter Tryz.func18, Tryz.ntmps18
  go_wp2_with (first | (go_at_call 7; (with_reducible refine (HA1.out _).mono ?_); rintro e w1 ⟨rfl, rfl⟩; clear HA1) | (go_at_call 7; (with_reducible refine (HA2.out _).mono ?_); rintro e w1 ⟨rfl, rfl⟩))
  refine RgX.region 14 (fun i => (if i = 13 then 8 else 49 + i)) (fun ix_ => match ix_ with | 0 => .v (.string s) | 1 => .v (.int .i64 (k : Int)) | 2 => .v (.string (s.extract 0 k)) | 3 => .v (.int .u8 c) | 4 => .v (.int .u8 (c.tmod 128)) | 5 => .v (.int .i32 (IntKind.i32.wrap (c.tmod 128))) | 6 => .v (.string E) | 7 => .v (.string ((s.extract 0 k) ++ E)) | 8 => .v (.string s) | 9 => .v (.int .i64 (k : Int)) | 10 => .v (.int .i64 ((k : Int) + 1)) | 11 => .v (.string (s.extract (k + 1) s.size)) | 12 => .v (.string (((s.extract 0 k) ++ E) ++ (s.extract (k + 1) s.size))) | 13 => .v (.string (((s.extract 0 k) ++ E) ++ (s.extract (k + 1) s.size))) | _ => .any) (by kernel_rfl) rfl (by kernel_rfl)  (fun i hi => by show (if i = 13 then 8 else 49 + i) < 63; (repeat' split) <;> omega) (fun i j hi hj => by show (if i = 13 then 8 else 49 + i) = (if j = 13 then 8 else 49 + j) → i = j; (repeat' split) <;> omega) ?step ?fin
  case step =>
    intro L_ A_ w3 ix op_ hI ho hdep
    have hi : ix < 14 := (Array.getElem?_eq_some_iff.1 ho).1
    have hcase : ix = 0 ∨ ix = 1 ∨ ix = 2 ∨ ix = 3 ∨ ix = 4 ∨ ix = 5 ∨ ix = 6 ∨ ix = 7 ∨ ix = 8 ∨ ix = 9 ∨ ix = 10 ∨ ix = 11 ∨ ix = 12 ∨ ix = 13 := by omega
    have hh := hI.held
    clear hi
    rcases hcase with rfl | rfl | rfl | rfl | rfl | rfl | rfl | rfl | rfl | rfl | rfl | rfl | rfl | rfl
    · simp only [List.getElem?_toArray, List.getElem?_cons_zero, Option.some.injEq] at ho
      subst ho
      refine ⟨rfl, ?_⟩
      have e0 : A_.tmps[0]?.getD undef = .string s := by rw [hI.low 0 (by decide)]; rfl
      clear hI hdep
      exact .run rfl (.string s) w3 (by simp [execOp, go_sem, Act.eval, e0]) (Below.refl _ _) rfl
    · simp only [List.getElem?_toArray, List.getElem?_cons_succ, List.getElem?_cons_zero, Option.some.injEq] at ho
      subst ho
      refine ⟨rfl, ?_⟩
      have e9 : A_.tmps[9]?.getD undef = .int .i64 (k : Int) := by rw [hI.low 9 (by decide)]; rfl
      clear hI hdep
      exact .run rfl (.int .i64 (k : Int)) w3 (by simp [execOp, go_sem, Act.eval, e9]) (Below.refl _ _) rfl
    · simp only [List.getElem?_toArray, List.getElem?_cons_succ, List.getElem?_cons_zero, Option.some.injEq] at ho
      subst ho
      refine ⟨rfl, ?_⟩
      have e49 : A_.tmps[49]?.getD undef = .string s := getD_of (hI.val_ (i := 0) rfl rfl (by decide) (hdep ⟨0, .data⟩ (by simp) rfl))
      have e50 : A_.tmps[50]?.getD undef = .int .i64 (k : Int) := getD_of (hI.val_ (i := 1) rfl rfl (by decide) (hdep ⟨1, .data⟩ (by simp) rfl))
      clear hI hdep
      exact .run rfl (.string (s.extract 0 k)) w3 (by simp [execOp, go_sem, Act.eval, *] <;> omega) (Below.refl _ _) rfl
    · simp only [List.getElem?_toArray, List.getElem?_cons_succ, List.getElem?_cons_zero, Option.some.injEq] at ho
      subst ho
      refine ⟨rfl, ?_⟩
      have e3 : A_.tmps[3]?.getD undef = .int .u8 c := by rw [hI.low 3 (by decide)]; rfl
      clear hI hdep
      exact .run rfl (.int .u8 c) w3 (by simp [execOp, go_sem, Act.eval, e3]) (Below.refl _ _) rfl
    · simp only [List.getElem?_toArray, List.getElem?_cons_succ, List.getElem?_cons_zero, Option.some.injEq] at ho
      subst ho
      refine ⟨rfl, ?_⟩
      have e52 : A_.tmps[52]?.getD undef = .int .u8 c := getD_of (hI.val_ (i := 3) rfl rfl (by decide) (hdep ⟨3, .data⟩ (by simp) rfl))
      clear hI hdep
      exact .run rfl (.int .u8 (c.tmod 128)) w3 (by simp [execOp, go_sem, Act.eval, *]) (Below.refl _ _) rfl
    · simp only [List.getElem?_toArray, List.getElem?_cons_succ, List.getElem?_cons_zero, Option.some.injEq] at ho
      subst ho
      refine ⟨rfl, ?_⟩
      have e53 : A_.tmps[53]?.getD undef = .int .u8 (c.tmod 128) := getD_of (hI.val_ (i := 4) rfl rfl (by decide) (hdep ⟨4, .data⟩ (by simp) rfl))
      clear hI hdep
      exact .run rfl (.int .i32 (IntKind.i32.wrap (c.tmod 128))) w3 (by simp [execOp, go_sem, Act.eval, *]) (Below.refl _ _) rfl
    · simp only [List.getElem?_toArray, List.getElem?_cons_succ, List.getElem?_cons_zero, Option.some.injEq] at ho
      subst ho
      refine ⟨rfl, ?_⟩
      have e54 : A_.tmps[54]?.getD undef = .int .i32 (IntKind.i32.wrap (c.tmod 128)) := getD_of (hI.val_ (i := 5) rfl rfl (by decide) (hdep ⟨5, .data⟩ (by simp) rfl))
      clear hI hdep
      have hE := HE.out
      exact .run rfl (.string E) w3 (by simp [execOp, go_sem, Act.eval, *]) (Below.refl _ _) rfl
    · simp only [List.getElem?_toArray, List.getElem?_cons_succ, List.getElem?_cons_zero, Option.some.injEq] at ho
      subst ho
      refine ⟨rfl, ?_⟩
      have e51 : A_.tmps[51]?.getD undef = .string (s.extract 0 k) := getD_of (hI.val_ (i := 2) rfl rfl (by decide) (hdep ⟨2, .data⟩ (by simp) rfl))
      have e55 : A_.tmps[55]?.getD undef = .string E := getD_of (hI.val_ (i := 6) rfl rfl (by decide) (hdep ⟨6, .data⟩ (by simp) rfl))
      clear hI hdep
      have hx : ¬ (9223372036854775807 < ((s.extract 0 k)).size + (E).size) := by omega
      exact .run rfl (.string ((s.extract 0 k) ++ E)) w3 (by simp [execOp, go_sem, Act.eval, *] <;> omega) (Below.refl _ _) rfl
    · simp only [List.getElem?_toArray, List.getElem?_cons_succ, List.getElem?_cons_zero, Option.some.injEq] at ho
      subst ho
      refine ⟨rfl, ?_⟩
      have e0 : A_.tmps[0]?.getD undef = .string s := by rw [hI.low 0 (by decide)]; rfl
      clear hI hdep
      exact .run rfl (.string s) w3 (by simp [execOp, go_sem, Act.eval, e0]) (Below.refl _ _) rfl
    · simp only [List.getElem?_toArray, List.getElem?_cons_succ, List.getElem?_cons_zero, Option.some.injEq] at ho
      subst ho
      refine ⟨rfl, ?_⟩
      have e9 : A_.tmps[9]?.getD undef = .int .i64 (k : Int) := by rw [hI.low 9 (by decide)]; rfl
      clear hI hdep
      exact .run rfl (.int .i64 (k : Int)) w3 (by simp [execOp, go_sem, Act.eval, e9]) (Below.refl _ _) rfl
    · simp only [List.getElem?_toArray, List.getElem?_cons_succ, List.getElem?_cons_zero, Option.some.injEq] at ho
      subst ho
      refine ⟨rfl, ?_⟩
      have e58 : A_.tmps[58]?.getD undef = .int .i64 (k : Int) := getD_of (hI.val_ (i := 9) rfl rfl (by decide) (hdep ⟨9, .data⟩ (by simp) rfl))
      clear hI hdep
      have hw : IntKind.i64.wrap ((k : Int) + 1) = (k : Int) + 1 := IntWalk.i64_in _ (by omega)
      exact .run rfl (.int .i64 ((k : Int) + 1)) w3 (by simp [execOp, go_sem, Act.eval, *]) (Below.refl _ _) rfl
    · simp only [List.getElem?_toArray, List.getElem?_cons_succ, List.getElem?_cons_zero, Option.some.injEq] at ho
      subst ho
      refine ⟨rfl, ?_⟩
      have e57 : A_.tmps[57]?.getD undef = .string s := getD_of (hI.val_ (i := 8) rfl rfl (by decide) (hdep ⟨8, .data⟩ (by simp) rfl))
      have e59 : A_.tmps[59]?.getD undef = .int .i64 ((k : Int) + 1) := getD_of (hI.val_ (i := 10) rfl rfl (by decide) (hdep ⟨10, .data⟩ (by simp) rfl))
      clear hI hdep
      have h6 : (k : Int) + 1 = ((k + 1 : Nat) : Int) := by omega
      rw [h6] at e59
      clear h6
      exact .run rfl (.string (s.extract (k + 1) s.size)) w3 (by simp [execOp, go_sem, Act.eval, e59, e57] <;> omega) (Below.refl _ _) rfl
    · simp only [List.getElem?_toArray, List.getElem?_cons_succ, List.getElem?_cons_zero, Option.some.injEq] at ho
      subst ho
      refine ⟨rfl, ?_⟩
      have e56 : A_.tmps[56]?.getD undef = .string ((s.extract 0 k) ++ E) := getD_of (hI.val_ (i := 7) rfl rfl (by decide) (hdep ⟨7, .data⟩ (by simp) rfl))
      have e60 : A_.tmps[60]?.getD undef = .string (s.extract (k + 1) s.size) := getD_of (hI.val_ (i := 11) rfl rfl (by decide) (hdep ⟨11, .data⟩ (by simp) rfl))
      clear hI hdep
      have hx : ¬ (9223372036854775807 < (((s.extract 0 k) ++ E)).size + ((s.extract (k + 1) s.size)).size) := by rw [ByteArray.size_append]; omega
      exact .run rfl (.string (((s.extract 0 k) ++ E) ++ (s.extract (k + 1) s.size))) w3 (by simp [execOp, go_sem, Act.eval, *] <;> omega) (Below.refl _ _) rfl
    · simp only [List.getElem?_toArray, List.getElem?_cons_succ, List.getElem?_cons_zero, Option.some.injEq] at ho
      subst ho
      refine ⟨rfl, ?_⟩
      have e61 : A_.tmps[61]?.getD undef = .string (((s.extract 0 k) ++ E) ++ (s.extract (k + 1) s.size)) := getD_of (hI.val_ (i := 12) rfl rfl (by decide) (hdep ⟨12, .data⟩ (by simp) rfl))
      clear hI hdep
      exact .run rfl (.string (((s.extract 0 k) ++ E) ++ (s.extract (k + 1) s.size))) w3 (by simp [execOp, go_sem, Act.eval, e61]) (Below.refl _ _) rfl
  case fin =>
  intro A_ w3 hs hd hlow hS hok
  obtain rfl : A_ = ⟨#[.string s, .int .i64 at_, .int .i64 how, .int .u8 c, undef, undef, undef, undef, .string (((s.extract 0 k) ++ E) ++ (s.extract (k + 1) s.size)), .int .i64 (k : Int), .int .i64 at_, .string s, .int .i64 (s.size : Int), .int .i64 ((s.size : Int) + 1), .int .i64 (k : Int), .int .i64 how, .int .i64 2, .bool false, .bool false, undef, undef, undef, undef, undef, undef, undef, undef, undef, undef, undef, undef, .bool false, .bool false, undef, undef, undef, undef, undef, undef, undef, undef, undef, undef, undef, undef, .int .i64 (k : Int), .string s, .int .i64 (s.size : Int), .bool true, .string s, .int .i64 (k : Int), .string (s.extract 0 k), .int .u8 c, .int .u8 (c.tmod 128), .int .i32 (IntKind.i32.wrap (c.tmod 128)), .string E, .string ((s.extract 0 k) ++ E), .string s, .int .i64 (k : Int), .int .i64 ((k : Int) + 1), .string (s.extract (k + 1) s.size), .string (((s.extract 0 k) ++ E) ++ (s.extract (k + 1) s.size)), undef], []⟩ := act_ext hd hs (fun j hj => match j, hj with | 0, _ => (hlow 0 (by decide)).trans rfl | 1, _ => (hlow 1 (by decide)).trans rfl | 2, _ => (hlow 2 (by decide)).trans rfl | 3, _ => (hlow 3 (by decide)).trans rfl | 4, _ => (hlow 4 (by decide)).trans rfl | 5, _ => (hlow 5 (by decide)).trans rfl | 6, _ => (hlow 6 (by decide)).trans rfl | 7, _ => (hlow 7 (by decide)).trans rfl | 8, _ => RgX.val_at (hok 13 8 _ (by decide) rfl rfl) | 9, _ => (hlow 9 (by decide)).trans rfl | 10, _ => (hlow 10 (by decide)).trans rfl | 11, _ => (hlow 11 (by decide)).trans rfl | 12, _ => (hlow 12 (by decide)).trans rfl | 13, _ => (hlow 13 (by decide)).trans rfl | 14, _ => (hlow 14 (by decide)).trans rfl | 15, _ => (hlow 15 (by decide)).trans rfl | 16, _ => (hlow 16 (by decide)).trans rfl | 17, _ => (hlow 17 (by decide)).trans rfl | 18, _ => (hlow 18 (by decide)).trans rfl | 19, _ => (hlow 19 (by decide)).trans rfl | 20, _ => (hlow 20 (by decide)).trans rfl | 21, _ => (hlow 21 (by decide)).trans rfl | 22, _ => (hlow 22 (by decide)).trans rfl | 23, _ => (hlow 23 (by decide)).trans rfl | 24, _ => (hlow 24 (by decide)).trans rfl | 25, _ => (hlow 25 (by decide)).trans rfl | 26, _ => (hlow 26 (by decide)).trans rfl | 27, _ => (hlow 27 (by decide)).trans rfl | 28, _ => (hlow 28 (by decide)).trans rfl | 29, _ => (hlow 29 (by decide)).trans rfl | 30, _ => (hlow 30 (by decide)).trans rfl | 31, _ => (hlow 31 (by decide)).trans rfl | 32, _ => (hlow 32 (by decide)).trans rfl | 33, _ => (hlow 33 (by decide)).trans rfl | 34, _ => (hlow 34 (by decide)).trans rfl | 35, _ => (hlow 35 (by decide)).trans rfl | 36, _ => (hlow 36 (by decide)).trans rfl | 37, _ => (hlow 37 (by decide)).trans rfl | 38, _ => (hlow 38 (by decide)).trans rfl | 39, _ => (hlow 39 (by decide)).trans rfl | 40, _ => (hlow 40 (by decide)).trans rfl | 41, _ => (hlow 41 (by decide)).trans rfl | 42, _ => (hlow 42 (by decide)).trans rfl | 43, _ => (hlow 43 (by decide)).trans rfl | 44, _ => (hlow 44 (by decide)).trans rfl | 45, _ => (hlow 45 (by decide)).trans rfl | 46, _ => (hlow 46 (by decide)).trans rfl | 47, _ => (hlow 47 (by decide)).trans rfl | 48, _ => (hlow 48 (by decide)).trans rfl | 49, _ => RgX.val_at (hok 0 49 _ (by decide) rfl rfl) | 50, _ => RgX.val_at (hok 1 50 _ (by decide) rfl rfl) | 51, _ => RgX.val_at (hok 2 51 _ (by decide) rfl rfl) | 52, _ => RgX.val_at (hok 3 52 _ (by decide) rfl rfl) | 53, _ => RgX.val_at (hok 4 53 _ (by decide) rfl rfl) | 54, _ => RgX.val_at (hok 5 54 _ (by decide) rfl rfl) | 55, _ => RgX.val_at (hok 6 55 _ (by decide) rfl rfl) | 56, _ => RgX.val_at (hok 7 56 _ (by decide) rfl rfl) | 57, _ => RgX.val_at (hok 8 57 _ (by decide) rfl rfl) | 58, _ => RgX.val_at (hok 9 58 _ (by decide) rfl rfl) | 59, _ => RgX.val_at (hok 10 59 _ (by decide) rfl rfl) | 60, _ => RgX.val_at (hok 11 60 _ (by decide) rfl rfl) | 61, _ => RgX.val_at (hok 12 61 _ (by decide) rfl rfl) | 62, _ => (hlow 62 (by decide)).trans rfl | n + 63, h => absurd h (by show ¬ n + 63 < 63; omega))
  clear hs hd hlow hok 
  go_wp2_with fail
  go_ret
  refine ⟨((s.extract 0 k) ++ E) ++ (s.extract (k + 1) s.size), rfl, ?_, hS⟩
  rw [ByteArray.size_append, ByteArray.size_append]
  omega
set_option maxHeartbeats 4000000 in
set_option maxRecDepth 100000 in
theorem broken_d (s E : ByteArray) (at_ how c : Int) (k : Nat) (hs : s.size ≤ 200) (hk : ¬ k < s.size) (_hE4 : E.size ≤ 4) (_HE : Hid (Utf8.encode (IntKind.i32.wrap (c.tmod 128)) = E)) (w : World)
    (HA1 : Hid (∀ V, Calls Tryz.prog 7 #[.int .i64 at_, .int .i64 ((s.size : Int) + 1)] V fun e w' => e = .returned (.int .i64 k) ∧ V = w'))
    (HA2 : Hid (∀ V, Calls Tryz.prog 7 #[.int .i64 how, .int .i64 3] V fun e w' => e = .returned (.int .i64 1) ∧ V = w')) :
    Calls Tryz.prog 18 #[.string s, .int .i64 at_, .int .i64 how, .int .u8 c] w (StrB (s.size + s.size + 10) w) := by
  go_enter Tryz.func18, Tryz.ntmps18
  go_wp2_with (first | (go_at_call 7; (with_reducible refine (HA1.out _).mono ?_); rintro e w1 ⟨rfl, rfl⟩; clear HA1) | (go_at_call 7; (with_reducible refine (HA2.out _).mono ?_); rintro e w1 ⟨rfl, rfl⟩))
  go_ret
  exact ⟨s, rfl, by omega, Below.refl _ _⟩
set_option maxHeartbeats 4000000 in
set_option maxRecDepth 100000 in
theorem broken_e (s E : ByteArray) (at_ how c : Int) (k : Nat) (hs : s.size ≤ 200) (hk : ¬ k < s.size) (_hE4 : E.size ≤ 4) (_HE : Hid (Utf8.encode (IntKind.i32.wrap (c.tmod 128)) = E)) (w : World)
    (HA1 : Hid (∀ V, Calls Tryz.prog 7 #[.int .i64 at_, .int .i64 ((s.size : Int) + 1)] V fun e w' => e = .returned (.int .i64 k) ∧ V = w'))
    (HA2 : Hid (∀ V, Calls Tryz.prog 7 #[.int .i64 how, .int .i64 3] V fun e w' => e = .returned (.int .i64 2) ∧ V = w')) :
    Calls Tryz.prog 18 #[.string s, .int .i64 at_, .int .i64 how, .int .u8 c] w (StrB (s.size + s.size + 10) w) := by
  go_enter Tryz.func18, Tryz.ntmps18
  go_wp2_with (first | (go_at_call 7; (with_reducible refine (HA1.out _).mono ?_); rintro e w1 ⟨rfl, rfl⟩; clear HA1) | (go_at_call 7; (with_reducible refine (HA2.out _).mono ?_); rintro e w1 ⟨rfl, rfl⟩))
  go_ret
  exact ⟨s, rfl, by omega, Below.refl _ _⟩
theorem broken_any (s : ByteArray) (at_ how c : Int) (hs : s.size ≤ 200) (ha : I64 at_) (hh : I64 how) (w : World) :
    Calls Tryz.prog 18 #[.string s, .int .i64 at_, .int .i64 how, .int .u8 c] w (StrB (s.size + s.size + 10) w) := by
  have HA1 := Lib.hid (fun V => around_any at_ ((s.size : Int) + 1) ha (by omega) (by omega) V)
  have hi1 := around_in at_ ((s.size : Int) + 1) (by omega)
  obtain ⟨k, hk⟩ : ∃ k : Nat, around at_ ((s.size : Int) + 1) = k := ⟨_, (Int.toNat_of_nonneg hi1.1).symm⟩
  rw [hk] at HA1 hi1
  have hk1 : k ≤ s.size := by omega
  have HA2 := Lib.hid (fun V => around_any how 3 hh (by omega) (by omega) V)
  have hi2 := around_in how 3 (by omega)
  have hcs : around how 3 = 0 ∨ around how 3 = 1 ∨ around how 3 = 2 := by omega
  rcases hcs with e | e | e <;> rw [e] at HA2
  · exact broken_a s _ at_ how c k hs hk1 (enc_le _) (Lib.hid rfl) w HA1 HA2
  · by_cases h : k < s.size
    · exact broken_b s _ at_ how c k hs h (enc_le _) (Lib.hid rfl) w HA1 HA2
    · exact broken_d s _ at_ how c k hs h (enc_le _) (Lib.hid rfl) w HA1 HA2
  · by_cases h : k < s.size
    · exact broken_c s _ at_ how c k hs h (enc_le _) (Lib.hid rfl) w HA1 HA2
    · exact broken_e s _ at_ how c k hs h (enc_le _) (Lib.hid rfl) w HA1 HA2
end Go.Proofs.YtggallpnbbidfaaGreatDoor
