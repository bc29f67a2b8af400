/-
  The reference's Join: strings of bounded size.
  The reference's Text: a string of bounded size.
-/
import Derived.Deep.RegionHeld3
import Derived.Test.YtiejhgdjkfhmoaaDoorK2
import Derived.Test.YtiejhgdjkfhmoaaDoorK5

namespace Go.Proofs.YtiejhgdjkfhmoaaDoor
open Go Go.RowKit Go.Proofs Go.Proofs.YtiejhgdjkfhmoaaDoor.LX

theorem emp_of {a : ByteArray} (h : a.size = 0) : a.toList.isEmpty = true := by
  rw [Lib.toList_data, Array.eq_empty_of_size_eq_zero (xs := a.data) h]
  rfl
theorem emp_not {a : ByteArray} (h : ¬ a.size = 0) : a.toList.isEmpty = false := by
  rw [Lib.toList_data]
  cases hh : a.data.toList with
  | nil => exact absurd (by have := bs_len a; rw [show bsOf a = [] from hh] at this; exact this.symm) h
  | cons x t => rfl
set_option maxRecDepth 100000 in
set_option maxHeartbeats 1000000 in
theorem join_P1Q1 (a b : ByteArray) (k : Nat) (x y : UInt8) (hka : k < a.size) (hkb : 0 < b.size) (hks : (a.size : Int) - 1 = (k : Int)) (ha : a.size ≤ 100000) (hb : b.size ≤ 100000) (hx : a[k]'hka = x) (hy : b[0]'hkb = y) (e1 : a.toList.isEmpty = false) (e2 : b.toList.isEmpty = false) (hwx : isW x = true) (hwy : isW y = true) (w : World) :
    Calls Tryd.prog 17 #[.string a, .string b] w fun e w' => e = .returned (.string (a ++ ⟨#[32]⟩ ++ b)) ∧ w' = w := by
  have HWX := Lib.hid (fun V => letter_any x V)
  have HDX := Lib.hid (fun V => digit_any x V)
  have HWY := Lib.hid (fun V => letter_any y V)
  have HDY := Lib.hid (fun V => digit_any y V)
  rw [hwx] at HWX
  rw [hwy] at HWY
  go_enter Tryd.func17, Tryd.ntmps17
  go_wp2_with (first
    | (go_at_call 21; with_reducible refine (HWX.out _).mono ?_; rintro e w2 ⟨rfl, rfl⟩; clear HWX)
    | (go_at_call 21; with_reducible refine (HWY.out _).mono ?_; rintro e w2 ⟨rfl, rfl⟩; clear HWY)
    | (go_at_call 22; with_reducible refine (HDX.out _).mono ?_; rintro e w2 ⟨rfl, rfl⟩; clear HDX)
    | (go_at_call 22; with_reducible refine (HDY.out _).mono ?_; rintro e w2 ⟨rfl, rfl⟩; clear HDY))
  go_ret
  exact ⟨rfl, rfl⟩
set_option maxRecDepth 100000 in
set_option maxHeartbeats 1000000 in
theorem join_P1Q2 (a b : ByteArray) (k : Nat) (x y : UInt8) (hka : k < a.size) (hkb : 0 < b.size) (hks : (a.size : Int) - 1 = (k : Int)) (ha : a.size ≤ 100000) (hb : b.size ≤ 100000) (hx : a[k]'hka = x) (hy : b[0]'hkb = y) (e1 : a.toList.isEmpty = false) (e2 : b.toList.isEmpty = false) (hwx : isW x = true) (hwy : isW y = false) (hdy : isD y = true) (w : World) :
    Calls Tryd.prog 17 #[.string a, .string b] w fun e w' => e = .returned (.string (a ++ ⟨#[32]⟩ ++ b)) ∧ w' = w := by
  have HWX := Lib.hid (fun V => letter_any x V)
  have HDX := Lib.hid (fun V => digit_any x V)
  have HWY := Lib.hid (fun V => letter_any y V)
  have HDY := Lib.hid (fun V => digit_any y V)
  rw [hwx] at HWX
  rw [hwy] at HWY
  rw [hdy] at HDY
  go_enter Tryd.func17, Tryd.ntmps17
  go_wp2_with (first
    | (go_at_call 21; with_reducible refine (HWX.out _).mono ?_; rintro e w2 ⟨rfl, rfl⟩; clear HWX)
    | (go_at_call 21; with_reducible refine (HWY.out _).mono ?_; rintro e w2 ⟨rfl, rfl⟩; clear HWY)
    | (go_at_call 22; with_reducible refine (HDX.out _).mono ?_; rintro e w2 ⟨rfl, rfl⟩; clear HDX)
    | (go_at_call 22; with_reducible refine (HDY.out _).mono ?_; rintro e w2 ⟨rfl, rfl⟩; clear HDY))
  go_ret
  exact ⟨rfl, rfl⟩
set_option maxRecDepth 100000 in
set_option maxHeartbeats 1000000 in
theorem join_P1Q3E1 (a b : ByteArray) (k : Nat) (x y : UInt8) (hka : k < a.size) (hkb : 0 < b.size) (hks : (a.size : Int) - 1 = (k : Int)) (ha : a.size ≤ 100000) (hb : b.size ≤ 100000) (hx : a[k]'hka = x) (hy : b[0]'hkb = y) (e1 : a.toList.isEmpty = false) (e2 : b.toList.isEmpty = false) (hwx : isW x = true) (hwy : isW y = false) (hdy : isD y = false) (h61 : ((y.toNat : Int) == 61) = true) (w : World) :
    Calls Tryd.prog 17 #[.string a, .string b] w fun e w' => e = .returned (.string (a ++ ⟨#[32]⟩ ++ b)) ∧ w' = w := by
  have HWX := Lib.hid (fun V => letter_any x V)
  have HDX := Lib.hid (fun V => digit_any x V)
  have HWY := Lib.hid (fun V => letter_any y V)
  have HDY := Lib.hid (fun V => digit_any y V)
  rw [hwx] at HWX
  rw [hwy] at HWY
  rw [hdy] at HDY
  go_enter Tryd.func17, Tryd.ntmps17
  go_wp2_with (first
    | (go_at_call 21; with_reducible refine (HWX.out _).mono ?_; rintro e w2 ⟨rfl, rfl⟩; clear HWX)
    | (go_at_call 21; with_reducible refine (HWY.out _).mono ?_; rintro e w2 ⟨rfl, rfl⟩; clear HWY)
    | (go_at_call 22; with_reducible refine (HDX.out _).mono ?_; rintro e w2 ⟨rfl, rfl⟩; clear HDX)
    | (go_at_call 22; with_reducible refine (HDY.out _).mono ?_; rintro e w2 ⟨rfl, rfl⟩; clear HDY))
  go_ret
  exact ⟨rfl, rfl⟩
set_option maxRecDepth 100000 in
set_option maxHeartbeats 1000000 in
theorem join_P1Q3E2 (a b : ByteArray) (k : Nat) (x y : UInt8) (hka : k < a.size) (hkb : 0 < b.size) (hks : (a.size : Int) - 1 = (k : Int)) (ha : a.size ≤ 100000) (hb : b.size ≤ 100000) (hx : a[k]'hka = x) (hy : b[0]'hkb = y) (e1 : a.toList.isEmpty = false) (e2 : b.toList.isEmpty = false) (hwx : isW x = true) (hwy : isW y = false) (hdy : isD y = false) (h61 : ((y.toNat : Int) == 61) = false) (h124 : ((y.toNat : Int) == 124) = true) (w : World) :
    Calls Tryd.prog 17 #[.string a, .string b] w fun e w' => e = .returned (.string (a ++ ⟨#[32]⟩ ++ b)) ∧ w' = w := by
  have HWX := Lib.hid (fun V => letter_any x V)
  have HDX := Lib.hid (fun V => digit_any x V)
  have HWY := Lib.hid (fun V => letter_any y V)
  have HDY := Lib.hid (fun V => digit_any y V)
  rw [hwx] at HWX
  rw [hwy] at HWY
  rw [hdy] at HDY
  go_enter Tryd.func17, Tryd.ntmps17
  go_wp2_with (first
    | (go_at_call 21; with_reducible refine (HWX.out _).mono ?_; rintro e w2 ⟨rfl, rfl⟩; clear HWX)
    | (go_at_call 21; with_reducible refine (HWY.out _).mono ?_; rintro e w2 ⟨rfl, rfl⟩; clear HWY)
    | (go_at_call 22; with_reducible refine (HDX.out _).mono ?_; rintro e w2 ⟨rfl, rfl⟩; clear HDX)
    | (go_at_call 22; with_reducible refine (HDY.out _).mono ?_; rintro e w2 ⟨rfl, rfl⟩; clear HDY))
  go_ret
  exact ⟨rfl, rfl⟩
set_option maxRecDepth 100000 in
set_option maxHeartbeats 1000000 in
theorem join_P1Q3E3 (a b : ByteArray) (k : Nat) (x y : UInt8) (hka : k < a.size) (hkb : 0 < b.size) (hks : (a.size : Int) - 1 = (k : Int)) (ha : a.size ≤ 100000) (hb : b.size ≤ 100000) (hx : a[k]'hka = x) (hy : b[0]'hkb = y) (e1 : a.toList.isEmpty = false) (e2 : b.toList.isEmpty = false) (hwx : isW x = true) (hwy : isW y = false) (hdy : isD y = false) (h61 : ((y.toNat : Int) == 61) = false) (h124 : ((y.toNat : Int) == 124) = false) (h38 : ((y.toNat : Int) == 38) = true) (w : World) :
    Calls Tryd.prog 17 #[.string a, .string b] w fun e w' => e = .returned (.string (a ++ ⟨#[32]⟩ ++ b)) ∧ w' = w := by
  have HWX := Lib.hid (fun V => letter_any x V)
  have HDX := Lib.hid (fun V => digit_any x V)
  have HWY := Lib.hid (fun V => letter_any y V)
  have HDY := Lib.hid (fun V => digit_any y V)
  rw [hwx] at HWX
  rw [hwy] at HWY
  rw [hdy] at HDY
  go_enter Tryd.func17, Tryd.ntmps17
  go_wp2_with (first
    | (go_at_call 21; with_reducible refine (HWX.out _).mono ?_; rintro e w2 ⟨rfl, rfl⟩; clear HWX)
    | (go_at_call 21; with_reducible refine (HWY.out _).mono ?_; rintro e w2 ⟨rfl, rfl⟩; clear HWY)
    | (go_at_call 22; with_reducible refine (HDX.out _).mono ?_; rintro e w2 ⟨rfl, rfl⟩; clear HDX)
    | (go_at_call 22; with_reducible refine (HDY.out _).mono ?_; rintro e w2 ⟨rfl, rfl⟩; clear HDY))
  go_ret
  exact ⟨rfl, rfl⟩
set_option maxRecDepth 100000 in
set_option maxHeartbeats 1000000 in
theorem join_P1Q3E4 (a b : ByteArray) (k : Nat) (x y : UInt8) (hka : k < a.size) (hkb : 0 < b.size) (hks : (a.size : Int) - 1 = (k : Int)) (ha : a.size ≤ 100000) (hb : b.size ≤ 100000) (hx : a[k]'hka = x) (hy : b[0]'hkb = y) (e1 : a.toList.isEmpty = false) (e2 : b.toList.isEmpty = false) (hwx : isW x = true) (hwy : isW y = false) (hdy : isD y = false) (h61 : ((y.toNat : Int) == 61) = false) (h124 : ((y.toNat : Int) == 124) = false) (h38 : ((y.toNat : Int) == 38) = false) (w : World) :
    Calls Tryd.prog 17 #[.string a, .string b] w fun e w' => e = .returned (.string (a ++ b)) ∧ w' = w := by
  have HWX := Lib.hid (fun V => letter_any x V)
  have HDX := Lib.hid (fun V => digit_any x V)
  have HWY := Lib.hid (fun V => letter_any y V)
  have HDY := Lib.hid (fun V => digit_any y V)
  rw [hwx] at HWX
  rw [hwy] at HWY
  rw [hdy] at HDY
  go_enter Tryd.func17, Tryd.ntmps17
  go_wp2_with (first
    | (go_at_call 21; with_reducible refine (HWX.out _).mono ?_; rintro e w2 ⟨rfl, rfl⟩; clear HWX)
    | (go_at_call 21; with_reducible refine (HWY.out _).mono ?_; rintro e w2 ⟨rfl, rfl⟩; clear HWY)
    | (go_at_call 22; with_reducible refine (HDX.out _).mono ?_; rintro e w2 ⟨rfl, rfl⟩; clear HDX)
    | (go_at_call 22; with_reducible refine (HDY.out _).mono ?_; rintro e w2 ⟨rfl, rfl⟩; clear HDY))
  go_ret
  exact ⟨rfl, rfl⟩
set_option maxRecDepth 100000 in
set_option maxHeartbeats 1000000 in
theorem join_P2Q1 (a b : ByteArray) (k : Nat) (x y : UInt8) (hka : k < a.size) (hkb : 0 < b.size) (hks : (a.size : Int) - 1 = (k : Int)) (ha : a.size ≤ 100000) (hb : b.size ≤ 100000) (hx : a[k]'hka = x) (hy : b[0]'hkb = y) (e1 : a.toList.isEmpty = false) (e2 : b.toList.isEmpty = false) (hwx : isW x = false) (hdx : isD x = true) (hwy : isW y = true) (w : World) :
    Calls Tryd.prog 17 #[.string a, .string b] w fun e w' => e = .returned (.string (a ++ ⟨#[32]⟩ ++ b)) ∧ w' = w := by
  have HWX := Lib.hid (fun V => letter_any x V)
  have HDX := Lib.hid (fun V => digit_any x V)
  have HWY := Lib.hid (fun V => letter_any y V)
  have HDY := Lib.hid (fun V => digit_any y V)
  rw [hwx] at HWX
  rw [hdx] at HDX
  rw [hwy] at HWY
  go_enter Tryd.func17, Tryd.ntmps17
  go_wp2_with (first
    | (go_at_call 21; with_reducible refine (HWX.out _).mono ?_; rintro e w2 ⟨rfl, rfl⟩; clear HWX)
    | (go_at_call 21; with_reducible refine (HWY.out _).mono ?_; rintro e w2 ⟨rfl, rfl⟩; clear HWY)
    | (go_at_call 22; with_reducible refine (HDX.out _).mono ?_; rintro e w2 ⟨rfl, rfl⟩; clear HDX)
    | (go_at_call 22; with_reducible refine (HDY.out _).mono ?_; rintro e w2 ⟨rfl, rfl⟩; clear HDY))
  go_ret
  exact ⟨rfl, rfl⟩
set_option maxRecDepth 100000 in
set_option maxHeartbeats 1000000 in
theorem join_P2Q2 (a b : ByteArray) (k : Nat) (x y : UInt8) (hka : k < a.size) (hkb : 0 < b.size) (hks : (a.size : Int) - 1 = (k : Int)) (ha : a.size ≤ 100000) (hb : b.size ≤ 100000) (hx : a[k]'hka = x) (hy : b[0]'hkb = y) (e1 : a.toList.isEmpty = false) (e2 : b.toList.isEmpty = false) (hwx : isW x = false) (hdx : isD x = true) (hwy : isW y = false) (hdy : isD y = true) (w : World) :
    Calls Tryd.prog 17 #[.string a, .string b] w fun e w' => e = .returned (.string (a ++ ⟨#[32]⟩ ++ b)) ∧ w' = w := by
  have HWX := Lib.hid (fun V => letter_any x V)
  have HDX := Lib.hid (fun V => digit_any x V)
  have HWY := Lib.hid (fun V => letter_any y V)
  have HDY := Lib.hid (fun V => digit_any y V)
  rw [hwx] at HWX
  rw [hdx] at HDX
  rw [hwy] at HWY
  rw [hdy] at HDY
  go_enter Tryd.func17, Tryd.ntmps17
  go_wp2_with (first
    | (go_at_call 21; with_reducible refine (HWX.out _).mono ?_; rintro e w2 ⟨rfl, rfl⟩; clear HWX)
    | (go_at_call 21; with_reducible refine (HWY.out _).mono ?_; rintro e w2 ⟨rfl, rfl⟩; clear HWY)
    | (go_at_call 22; with_reducible refine (HDX.out _).mono ?_; rintro e w2 ⟨rfl, rfl⟩; clear HDX)
    | (go_at_call 22; with_reducible refine (HDY.out _).mono ?_; rintro e w2 ⟨rfl, rfl⟩; clear HDY))
  go_ret
  exact ⟨rfl, rfl⟩
set_option maxRecDepth 100000 in
set_option maxHeartbeats 1000000 in
theorem join_P2Q3E1 (a b : ByteArray) (k : Nat) (x y : UInt8) (hka : k < a.size) (hkb : 0 < b.size) (hks : (a.size : Int) - 1 = (k : Int)) (ha : a.size ≤ 100000) (hb : b.size ≤ 100000) (hx : a[k]'hka = x) (hy : b[0]'hkb = y) (e1 : a.toList.isEmpty = false) (e2 : b.toList.isEmpty = false) (hwx : isW x = false) (hdx : isD x = true) (hwy : isW y = false) (hdy : isD y = false) (h61 : ((y.toNat : Int) == 61) = true) (w : World) :
    Calls Tryd.prog 17 #[.string a, .string b] w fun e w' => e = .returned (.string (a ++ ⟨#[32]⟩ ++ b)) ∧ w' = w := by
  have HWX := Lib.hid (fun V => letter_any x V)
  have HDX := Lib.hid (fun V => digit_any x V)
  have HWY := Lib.hid (fun V => letter_any y V)
  have HDY := Lib.hid (fun V => digit_any y V)
  rw [hwx] at HWX
  rw [hdx] at HDX
  rw [hwy] at HWY
  rw [hdy] at HDY
  go_enter Tryd.func17, Tryd.ntmps17
  go_wp2_with (first
    | (go_at_call 21; with_reducible refine (HWX.out _).mono ?_; rintro e w2 ⟨rfl, rfl⟩; clear HWX)
    | (go_at_call 21; with_reducible refine (HWY.out _).mono ?_; rintro e w2 ⟨rfl, rfl⟩; clear HWY)
    | (go_at_call 22; with_reducible refine (HDX.out _).mono ?_; rintro e w2 ⟨rfl, rfl⟩; clear HDX)
    | (go_at_call 22; with_reducible refine (HDY.out _).mono ?_; rintro e w2 ⟨rfl, rfl⟩; clear HDY))
  go_ret
  exact ⟨rfl, rfl⟩
set_option maxRecDepth 100000 in
set_option maxHeartbeats 1000000 in
theorem join_P2Q3E2 (a b : ByteArray) (k : Nat) (x y : UInt8) (hka : k < a.size) (hkb : 0 < b.size) (hks : (a.size : Int) - 1 = (k : Int)) (ha : a.size ≤ 100000) (hb : b.size ≤ 100000) (hx : a[k]'hka = x) (hy : b[0]'hkb = y) (e1 : a.toList.isEmpty = false) (e2 : b.toList.isEmpty = false) (hwx : isW x = false) (hdx : isD x = true) (hwy : isW y = false) (hdy : isD y = false) (h61 : ((y.toNat : Int) == 61) = false) (h124 : ((y.toNat : Int) == 124) = true) (w : World) :
    Calls Tryd.prog 17 #[.string a, .string b] w fun e w' => e = .returned (.string (a ++ ⟨#[32]⟩ ++ b)) ∧ w' = w := by
  have HWX := Lib.hid (fun V => letter_any x V)
  have HDX := Lib.hid (fun V => digit_any x V)
  have HWY := Lib.hid (fun V => letter_any y V)
  have HDY := Lib.hid (fun V => digit_any y V)
  rw [hwx] at HWX
  rw [hdx] at HDX
  rw [hwy] at HWY
  rw [hdy] at HDY
  go_enter Tryd.func17, Tryd.ntmps17
  go_wp2_with (first
    | (go_at_call 21; with_reducible refine (HWX.out _).mono ?_; rintro e w2 ⟨rfl, rfl⟩; clear HWX)
    | (go_at_call 21; with_reducible refine (HWY.out _).mono ?_; rintro e w2 ⟨rfl, rfl⟩; clear HWY)
    | (go_at_call 22; with_reducible refine (HDX.out _).mono ?_; rintro e w2 ⟨rfl, rfl⟩; clear HDX)
    | (go_at_call 22; with_reducible refine (HDY.out _).mono ?_; rintro e w2 ⟨rfl, rfl⟩; clear HDY))
  go_ret
  exact ⟨rfl, rfl⟩
set_option maxRecDepth 100000 in
set_option maxHeartbeats 1000000 in
theorem join_P2Q3E3 (a b : ByteArray) (k : Nat) (x y : UInt8) (hka : k < a.size) (hkb : 0 < b.size) (hks : (a.size : Int) - 1 = (k : Int)) (ha : a.size ≤ 100000) (hb : b.size ≤ 100000) (hx : a[k]'hka = x) (hy : b[0]'hkb = y) (e1 : a.toList.isEmpty = false) (e2 : b.toList.isEmpty = false) (hwx : isW x = false) (hdx : isD x = true) (hwy : isW y = false) (hdy : isD y = false) (h61 : ((y.toNat : Int) == 61) = false) (h124 : ((y.toNat : Int) == 124) = false) (h38 : ((y.toNat : Int) == 38) = true) (w : World) :
    Calls Tryd.prog 17 #[.string a, .string b] w fun e w' => e = .returned (.string (a ++ ⟨#[32]⟩ ++ b)) ∧ w' = w := by
  have HWX := Lib.hid (fun V => letter_any x V)
  have HDX := Lib.hid (fun V => digit_any x V)
  have HWY := Lib.hid (fun V => letter_any y V)
  have HDY := Lib.hid (fun V => digit_any y V)
  rw [hwx] at HWX
  rw [hdx] at HDX
  rw [hwy] at HWY
  rw [hdy] at HDY
  go_enter Tryd.func17, Tryd.ntmps17
  go_wp2_with (first
    | (go_at_call 21; with_reducible refine (HWX.out _).mono ?_; rintro e w2 ⟨rfl, rfl⟩; clear HWX)
    | (go_at_call 21; with_reducible refine (HWY.out _).mono ?_; rintro e w2 ⟨rfl, rfl⟩; clear HWY)
    | (go_at_call 22; with_reducible refine (HDX.out _).mono ?_; rintro e w2 ⟨rfl, rfl⟩; clear HDX)
    | (go_at_call 22; with_reducible refine (HDY.out _).mono ?_; rintro e w2 ⟨rfl, rfl⟩; clear HDY))
  go_ret
  exact ⟨rfl, rfl⟩
set_option maxRecDepth 100000 in
set_option maxHeartbeats 1000000 in
theorem join_P2Q3E4 (a b : ByteArray) (k : Nat) (x y : UInt8) (hka : k < a.size) (hkb : 0 < b.size) (hks : (a.size : Int) - 1 = (k : Int)) (ha : a.size ≤ 100000) (hb : b.size ≤ 100000) (hx : a[k]'hka = x) (hy : b[0]'hkb = y) (e1 : a.toList.isEmpty = false) (e2 : b.toList.isEmpty = false) (hwx : isW x = false) (hdx : isD x = true) (hwy : isW y = false) (hdy : isD y = false) (h61 : ((y.toNat : Int) == 61) = false) (h124 : ((y.toNat : Int) == 124) = false) (h38 : ((y.toNat : Int) == 38) = false) (w : World) :
    Calls Tryd.prog 17 #[.string a, .string b] w fun e w' => e = .returned (.string (a ++ b)) ∧ w' = w := by
  have HWX := Lib.hid (fun V => letter_any x V)
  have HDX := Lib.hid (fun V => digit_any x V)
  have HWY := Lib.hid (fun V => letter_any y V)
  have HDY := Lib.hid (fun V => digit_any y V)
  rw [hwx] at HWX
  rw [hdx] at HDX
  rw [hwy] at HWY
  rw [hdy] at HDY
  go_enter Tryd.func17, Tryd.ntmps17
  go_wp2_with (first
    | (go_at_call 21; with_reducible refine (HWX.out _).mono ?_; rintro e w2 ⟨rfl, rfl⟩; clear HWX)
    | (go_at_call 21; with_reducible refine (HWY.out _).mono ?_; rintro e w2 ⟨rfl, rfl⟩; clear HWY)
    | (go_at_call 22; with_reducible refine (HDX.out _).mono ?_; rintro e w2 ⟨rfl, rfl⟩; clear HDX)
    | (go_at_call 22; with_reducible refine (HDY.out _).mono ?_; rintro e w2 ⟨rfl, rfl⟩; clear HDY))
  go_ret
  exact ⟨rfl, rfl⟩
set_option maxRecDepth 100000 in
set_option maxHeartbeats 1000000 in
theorem join_P3E1 (a b : ByteArray) (k : Nat) (x y : UInt8) (hka : k < a.size) (hkb : 0 < b.size) (hks : (a.size : Int) - 1 = (k : Int)) (ha : a.size ≤ 100000) (hb : b.size ≤ 100000) (hx : a[k]'hka = x) (hy : b[0]'hkb = y) (e1 : a.toList.isEmpty = false) (e2 : b.toList.isEmpty = false) (hwx : isW x = false) (hdx : isD x = false) (h61 : ((y.toNat : Int) == 61) = true) (w : World) :
    Calls Tryd.prog 17 #[.string a, .string b] w fun e w' => e = .returned (.string (a ++ ⟨#[32]⟩ ++ b)) ∧ w' = w := by
  have HWX := Lib.hid (fun V => letter_any x V)
  have HDX := Lib.hid (fun V => digit_any x V)
  have HWY := Lib.hid (fun V => letter_any y V)
  have HDY := Lib.hid (fun V => digit_any y V)
  rw [hwx] at HWX
  rw [hdx] at HDX
  go_enter Tryd.func17, Tryd.ntmps17
  go_wp2_with (first
    | (go_at_call 21; with_reducible refine (HWX.out _).mono ?_; rintro e w2 ⟨rfl, rfl⟩; clear HWX)
    | (go_at_call 21; with_reducible refine (HWY.out _).mono ?_; rintro e w2 ⟨rfl, rfl⟩; clear HWY)
    | (go_at_call 22; with_reducible refine (HDX.out _).mono ?_; rintro e w2 ⟨rfl, rfl⟩; clear HDX)
    | (go_at_call 22; with_reducible refine (HDY.out _).mono ?_; rintro e w2 ⟨rfl, rfl⟩; clear HDY))
  go_ret
  exact ⟨rfl, rfl⟩
set_option maxRecDepth 100000 in
set_option maxHeartbeats 1000000 in
theorem join_P3E2 (a b : ByteArray) (k : Nat) (x y : UInt8) (hka : k < a.size) (hkb : 0 < b.size) (hks : (a.size : Int) - 1 = (k : Int)) (ha : a.size ≤ 100000) (hb : b.size ≤ 100000) (hx : a[k]'hka = x) (hy : b[0]'hkb = y) (e1 : a.toList.isEmpty = false) (e2 : b.toList.isEmpty = false) (hwx : isW x = false) (hdx : isD x = false) (h61 : ((y.toNat : Int) == 61) = false) (h124 : ((y.toNat : Int) == 124) = true) (w : World) :
    Calls Tryd.prog 17 #[.string a, .string b] w fun e w' => e = .returned (.string (a ++ ⟨#[32]⟩ ++ b)) ∧ w' = w := by
  have HWX := Lib.hid (fun V => letter_any x V)
  have HDX := Lib.hid (fun V => digit_any x V)
  have HWY := Lib.hid (fun V => letter_any y V)
  have HDY := Lib.hid (fun V => digit_any y V)
  rw [hwx] at HWX
  rw [hdx] at HDX
  go_enter Tryd.func17, Tryd.ntmps17
  go_wp2_with (first
    | (go_at_call 21; with_reducible refine (HWX.out _).mono ?_; rintro e w2 ⟨rfl, rfl⟩; clear HWX)
    | (go_at_call 21; with_reducible refine (HWY.out _).mono ?_; rintro e w2 ⟨rfl, rfl⟩; clear HWY)
    | (go_at_call 22; with_reducible refine (HDX.out _).mono ?_; rintro e w2 ⟨rfl, rfl⟩; clear HDX)
    | (go_at_call 22; with_reducible refine (HDY.out _).mono ?_; rintro e w2 ⟨rfl, rfl⟩; clear HDY))
  go_ret
  exact ⟨rfl, rfl⟩
set_option maxRecDepth 100000 in
set_option maxHeartbeats 1000000 in
theorem join_P3E3 (a b : ByteArray) (k : Nat) (x y : UInt8) (hka : k < a.size) (hkb : 0 < b.size) (hks : (a.size : Int) - 1 = (k : Int)) (ha : a.size ≤ 100000) (hb : b.size ≤ 100000) (hx : a[k]'hka = x) (hy : b[0]'hkb = y) (e1 : a.toList.isEmpty = false) (e2 : b.toList.isEmpty = false) (hwx : isW x = false) (hdx : isD x = false) (h61 : ((y.toNat : Int) == 61) = false) (h124 : ((y.toNat : Int) == 124) = false) (h38 : ((y.toNat : Int) == 38) = true) (w : World) :
    Calls Tryd.prog 17 #[.string a, .string b] w fun e w' => e = .returned (.string (a ++ ⟨#[32]⟩ ++ b)) ∧ w' = w := by
  have HWX := Lib.hid (fun V => letter_any x V)
  have HDX := Lib.hid (fun V => digit_any x V)
  have HWY := Lib.hid (fun V => letter_any y V)
  have HDY := Lib.hid (fun V => digit_any y V)
  rw [hwx] at HWX
  rw [hdx] at HDX
  go_enter Tryd.func17, Tryd.ntmps17
  go_wp2_with (first
    | (go_at_call 21; with_reducible refine (HWX.out _).mono ?_; rintro e w2 ⟨rfl, rfl⟩; clear HWX)
    | (go_at_call 21; with_reducible refine (HWY.out _).mono ?_; rintro e w2 ⟨rfl, rfl⟩; clear HWY)
    | (go_at_call 22; with_reducible refine (HDX.out _).mono ?_; rintro e w2 ⟨rfl, rfl⟩; clear HDX)
    | (go_at_call 22; with_reducible refine (HDY.out _).mono ?_; rintro e w2 ⟨rfl, rfl⟩; clear HDY))
  go_ret
  exact ⟨rfl, rfl⟩
set_option maxRecDepth 100000 in
set_option maxHeartbeats 1000000 in
theorem join_P3E4 (a b : ByteArray) (k : Nat) (x y : UInt8) (hka : k < a.size) (hkb : 0 < b.size) (hks : (a.size : Int) - 1 = (k : Int)) (ha : a.size ≤ 100000) (hb : b.size ≤ 100000) (hx : a[k]'hka = x) (hy : b[0]'hkb = y) (e1 : a.toList.isEmpty = false) (e2 : b.toList.isEmpty = false) (hwx : isW x = false) (hdx : isD x = false) (h61 : ((y.toNat : Int) == 61) = false) (h124 : ((y.toNat : Int) == 124) = false) (h38 : ((y.toNat : Int) == 38) = false) (w : World) :
    Calls Tryd.prog 17 #[.string a, .string b] w fun e w' => e = .returned (.string (a ++ b)) ∧ w' = w := by
  have HWX := Lib.hid (fun V => letter_any x V)
  have HDX := Lib.hid (fun V => digit_any x V)
  have HWY := Lib.hid (fun V => letter_any y V)
  have HDY := Lib.hid (fun V => digit_any y V)
  rw [hwx] at HWX
  rw [hdx] at HDX
  go_enter Tryd.func17, Tryd.ntmps17
  go_wp2_with (first
    | (go_at_call 21; with_reducible refine (HWX.out _).mono ?_; rintro e w2 ⟨rfl, rfl⟩; clear HWX)
    | (go_at_call 21; with_reducible refine (HWY.out _).mono ?_; rintro e w2 ⟨rfl, rfl⟩; clear HWY)
    | (go_at_call 22; with_reducible refine (HDX.out _).mono ?_; rintro e w2 ⟨rfl, rfl⟩; clear HDX)
    | (go_at_call 22; with_reducible refine (HDY.out _).mono ?_; rintro e w2 ⟨rfl, rfl⟩; clear HDY))
  go_ret
  exact ⟨rfl, rfl⟩
set_option maxRecDepth 100000 in
set_option maxHeartbeats 16000000 in
theorem join_any (a b : ByteArray) (ha : a.size ≤ 100000) (hb : b.size ≤ 100000) :
    ∃ s : ByteArray, s.size ≤ a.size + b.size + 1 ∧ ∀ w, Calls Tryd.prog 17 #[.string a, .string b] w fun e w' => e = .returned (.string s) ∧ w' = w := by
  have hab : (a ++ b).size = a.size + b.size := ByteArray.size_append
  have habs : (a ++ ⟨#[32]⟩ ++ b).size = a.size + 1 + b.size := by rw [ByteArray.size_append, ByteArray.size_append]; rfl
  have HAB := Lib.hid hab
  have HABS := Lib.hid habs
  clear hab habs
  by_cases h1 : a.size = 0
  · have e1 := emp_of h1
    refine ⟨a ++ b, by have := HAB.out; omega, fun w => ?_⟩
    clear h1
    go_enter Tryd.func17, Tryd.ntmps17
    go_wp2
    go_ret
    exact ⟨rfl, by first | rfl | trivial⟩
  · by_cases h2 : b.size = 0
    · have e1 := emp_not h1
      have e2 := emp_of h2
      refine ⟨a ++ b, by have := HAB.out; omega, fun w => ?_⟩
      clear h1 h2
      go_enter Tryd.func17, Tryd.ntmps17
      go_wp2
      go_ret
      exact ⟨rfl, by first | rfl | trivial⟩
    · have e1 := emp_not h1
      have e2 := emp_not h2
      obtain ⟨k, hk⟩ : ∃ k, k + 1 = a.size := ⟨a.size - 1, by omega⟩
      have hka : k < a.size := by omega
      have hkb : 0 < b.size := by omega
      have hks : (a.size : Int) - 1 = (k : Int) := by omega
      obtain ⟨x, hx⟩ : ∃ x : UInt8, a[k]'hka = x := ⟨_, rfl⟩
      obtain ⟨y, hy⟩ : ∃ y : UInt8, b[0]'hkb = y := ⟨_, rfl⟩
      have P0 : (a ++ b).size ≤ a.size + b.size + 1 := by have := HAB.out; omega
      have P1 : (a ++ ⟨#[32]⟩ ++ b).size ≤ a.size + b.size + 1 := by have := HABS.out; omega
      cases hwx : isW x with
      | true =>
        cases hwy : isW y with
        | true =>
          exact ⟨_, P1, join_P1Q1 a b k x y hka hkb hks ha hb hx hy e1 e2 hwx hwy⟩
        | false =>
          cases hdy : isD y with
          | true =>
            exact ⟨_, P1, join_P1Q2 a b k x y hka hkb hks ha hb hx hy e1 e2 hwx hwy hdy⟩
          | false =>
            cases h61 : ((y.toNat : Int) == 61) with
            | true =>
              exact ⟨_, P1, join_P1Q3E1 a b k x y hka hkb hks ha hb hx hy e1 e2 hwx hwy hdy h61⟩
            | false =>
              cases h124 : ((y.toNat : Int) == 124) with
              | true =>
                exact ⟨_, P1, join_P1Q3E2 a b k x y hka hkb hks ha hb hx hy e1 e2 hwx hwy hdy h61 h124⟩
              | false =>
                cases h38 : ((y.toNat : Int) == 38) with
                | true =>
                  exact ⟨_, P1, join_P1Q3E3 a b k x y hka hkb hks ha hb hx hy e1 e2 hwx hwy hdy h61 h124 h38⟩
                | false =>
                  exact ⟨_, P0, join_P1Q3E4 a b k x y hka hkb hks ha hb hx hy e1 e2 hwx hwy hdy h61 h124 h38⟩
      | false =>
        cases hdx : isD x with
        | true =>
          cases hwy : isW y with
          | true =>
            exact ⟨_, P1, join_P2Q1 a b k x y hka hkb hks ha hb hx hy e1 e2 hwx hdx hwy⟩
          | false =>
            cases hdy : isD y with
            | true =>
              exact ⟨_, P1, join_P2Q2 a b k x y hka hkb hks ha hb hx hy e1 e2 hwx hdx hwy hdy⟩
            | false =>
              cases h61 : ((y.toNat : Int) == 61) with
              | true =>
                exact ⟨_, P1, join_P2Q3E1 a b k x y hka hkb hks ha hb hx hy e1 e2 hwx hdx hwy hdy h61⟩
              | false =>
                cases h124 : ((y.toNat : Int) == 124) with
                | true =>
                  exact ⟨_, P1, join_P2Q3E2 a b k x y hka hkb hks ha hb hx hy e1 e2 hwx hdx hwy hdy h61 h124⟩
                | false =>
                  cases h38 : ((y.toNat : Int) == 38) with
                  | true =>
                    exact ⟨_, P1, join_P2Q3E3 a b k x y hka hkb hks ha hb hx hy e1 e2 hwx hdx hwy hdy h61 h124 h38⟩
                  | false =>
                    exact ⟨_, P0, join_P2Q3E4 a b k x y hka hkb hks ha hb hx hy e1 e2 hwx hdx hwy hdy h61 h124 h38⟩
        | false =>
          cases h61 : ((y.toNat : Int) == 61) with
          | true =>
            exact ⟨_, P1, join_P3E1 a b k x y hka hkb hks ha hb hx hy e1 e2 hwx hdx h61⟩
          | false =>
            cases h124 : ((y.toNat : Int) == 124) with
            | true =>
              exact ⟨_, P1, join_P3E2 a b k x y hka hkb hks ha hb hx hy e1 e2 hwx hdx h61 h124⟩
            | false =>
              cases h38 : ((y.toNat : Int) == 38) with
              | true =>
                exact ⟨_, P1, join_P3E3 a b k x y hka hkb hks ha hb hx hy e1 e2 hwx hdx h61 h124 h38⟩
              | false =>
                exact ⟨_, P0, join_P3E4 a b k x y hka hkb hks ha hb hx hy e1 e2 hwx hdx h61 h124 h38⟩
end Go.Proofs.YtiejhgdjkfhmoaaDoor

namespace Go.Proofs.YtiejhgdjkfhmoaaDoor
open Go Go.RowKit Go.Proofs Go.Proofs.YtiejhgdjkfhmoaaDoor.LX

def shortS (n : Nat) : Value → Bool
  | .string s => decide (s.size ≤ n)
  | _ => false
theorem short_at {C : Array Value} {n m : Nat} (h : C.all (shortS n) = true) (hm : m = C.size) {k : Nat} (hk : k < m) : ∃ s : ByteArray, C[k]? = some (.string s) ∧ s.size ≤ n := by
  have hk : k < C.size := by omega
  have h1 := Array.all_eq_true.1 h k hk
  rw [Array.getElem?_eq_getElem hk]
  cases hc : C[k] with
  | string s =>
    rw [hc] at h1
    exact ⟨s, rfl, by simpa [shortS] using h1⟩
  | _ =>
    rw [hc] at h1
    simp [shortS] at h1
theorem wdiv (n d : Nat) (h : n < 1000000) : wrap64 ((n : Int) / (d : Int)) = ((n / d : Nat) : Int) := by
  rw [← Int.natCast_ediv]
  have : n / d ≤ n := Nat.div_le_self n d
  obtain ⟨q, hq⟩ : ∃ q, n / d = q := ⟨_, rfl⟩
  rw [hq] at this ⊢
  clear hq
  unfold wrap64
  omega
theorem text_nums (n : Nat) (h : n < 1000000) : ∃ r q t u m1 m2 m3 : Nat, r < 36 ∧ q < 40 ∧ t < 36 ∧ u < 8 ∧ wrap64 ((n : Int) / 32) = (m1 : Int) ∧ wrap64 ((n : Int) / 1280) = (m2 : Int) ∧ wrap64 ((n : Int) / 40) = (m3 : Int) ∧ (n : Int) % 32 = (r : Int) ∧ (n : Int).tmod 32 = (r : Int) ∧ (m1 : Int).tmod 40 = (q : Int) ∧ (m2 : Int).tmod 36 = (t : Int) ∧ (m3 : Int).tmod 8 = (u : Int) :=
  ⟨n % 32, n / 32 % 40, n / 1280 % 36, n / 40 % 8, n / 32, n / 1280, n / 40, Nat.lt_trans (Nat.mod_lt _ (by decide)) (by decide), Nat.mod_lt _ (by decide), Nat.mod_lt _ (by decide), Nat.mod_lt _ (by decide), wdiv n 32 h, wdiv n 1280 h, wdiv n 40 h, rfl, rfl, rfl, rfl, rfl⟩
set_option maxRecDepth 100000 in
set_option maxHeartbeats 4000000 in
theorem text_any (len cap : Nat) (A : Option Addr) (zs : List Int) (w : World) (hx : Ints .i64 w.heap.size w A len zs) (hz : ∀ n ∈ zs, I64 n) :
    Calls Tryd.prog 10 #[.slice A len cap] w fun e w' => (∃ s, e = .returned (.string s) ∧ s.size ≤ 1000) ∧ Below w.heap.size w w' := by
  obtain ⟨C1, hC1⟩ : ∃ C : Array Value, #[.string ⟨#[97]⟩, .string ⟨#[98, 49]⟩, .string ⟨#[119, 104, 105, 108, 101]⟩, .string ⟨#[120, 57, 121]⟩, .string ⟨#[97, 98, 99, 100, 101, 102, 103, 104, 105, 106]⟩, .string ⟨#[48]⟩, .string ⟨#[55]⟩, .string ⟨#[52, 50]⟩, .string ⟨#[50, 49, 52, 55, 52, 56, 51, 54, 52, 55]⟩, .string ⟨#[48, 48, 55]⟩, .string ⟨#[124, 124]⟩, .string ⟨#[38, 38]⟩, .string ⟨#[60, 61]⟩, .string ⟨#[62, 61]⟩, .string ⟨#[61, 61]⟩, .string ⟨#[33, 61]⟩, .string ⟨#[123]⟩, .string ⟨#[125]⟩, .string ⟨#[91]⟩, .string ⟨#[93]⟩, .string ⟨#[40]⟩, .string ⟨#[41]⟩, .string ⟨#[61]⟩, .string ⟨#[59]⟩, .string ⟨#[44]⟩, .string ⟨#[60]⟩, .string ⟨#[62]⟩, .string ⟨#[43]⟩, .string ⟨#[45]⟩, .string ⟨#[42]⟩, .string ⟨#[47]⟩, .string ⟨#[33]⟩, .string ⟨#[97, 98, 99, 100, 101, 102, 103, 104, 105, 106, 107]⟩, .string ⟨#[50, 49, 52, 55, 52, 56, 51, 54, 52, 56]⟩, .string ⟨#[124]⟩, .string ⟨#[65]⟩] = C := ⟨_, rfl⟩
  obtain ⟨C2, hC2⟩ : ∃ C : Array Value, #[.string ⟨#[]⟩, .string ⟨#[]⟩, .string ⟨#[]⟩, .string ⟨#[32]⟩, .string ⟨#[10]⟩, .string ⟨#[9]⟩, .string ⟨#[35, 99, 10]⟩, .string ⟨#[35, 32, 125, 32, 10, 32]⟩] = C := ⟨_, rfl⟩
  have q1 : C1.all (shortS 11) = true ∧ C1.size = 36 := by rw [← hC1]; exact ⟨by kernel_rfl, by kernel_rfl⟩
  have q2 : C2.all (shortS 7) = true ∧ C2.size = 8 := by rw [← hC2]; exact ⟨by kernel_rfl, by kernel_rfl⟩
  have HX := Lib.hid hx
  have HZ := Lib.hid hz
  have hlz := hx.len
  clear hx hz
  go_enter Tryd.func10, Tryd.ntmps10
  go_wp2_with fail
  obtain ⟨W2, hW2⟩ : ∃ V, (w.alloc (.cells C1 9)).alloc (.cells C2 9) = V := ⟨_, rfl⟩
  rw [hW2]
  have k1 : W2.heap[w.heap.size]? = some (.cells C1 9 (0, 0)) := by
    rw [← hW2, Below.heap_alloc _ _ _ (by simp)]
    exact World.alloc_heap_new w _
  have k2 : W2.heap[w.heap.size + 1]? = some (.cells C2 9 (0, 0)) := by
    rw [← hW2]
    have := World.alloc_heap_new (w.alloc (.cells C1 9)) (.cells C2 9)
    rw [World.size_alloc] at this
    exact this
  have hB2 : Below w.heap.size w W2 := by rw [← hW2]; exact ((Below.refl _ w).alloc (Nat.le_refl _) _).alloc (by simp) _
  have H1 := Lib.hid k1
  have H2 := Lib.hid k2
  have Q1 := Lib.hid q1
  have Q2 := Lib.hid q2
  have HB2 := Lib.hid hB2
  have hz2 : w.heap.size + 2 = W2.heap.size := by rw [← hW2]; simp
  clear hC1 hC2 hW2 k1 k2 q1 q2 hB2
  go_loopw [5, 6] (fun o i V => ∃ (j : Nat) (s : ByteArray), j ≤ len ∧ j ≤ 30 ∧ i = .int .i64 (j : Int) ∧ o = .string s ∧ s.size ≤ 19 * j ∧ Below W2.heap.size W2 V) (fun _ i _ => len - (intOf i).toNat)
  case atStart => exact ⟨0, ⟨#[]⟩, Nat.zero_le _, by omega, rfl, rfl, by show 0 ≤ 0; omega, Below.refl _ _⟩
  case round =>
    obtain ⟨j, s, hj, hj30, rfl, rfl, hsz, hB⟩ := hrel
    by_cases hlt : j < len
    · by_cases h30 : j < 30
      · obtain ⟨b, off, hA, hb, hc⟩ := HX.out.at_ (by omega)
        have hcell := hc j hlt
        have hcell := (HB2.out.cell (p := ⟨b, off + j, none⟩) hb).trans hcell
        have hcell := (hB.cell (p := ⟨b, off + j, none⟩) (by show b < _; omega)).trans hcell
        have hi64 := HZ.out _ (getD_mem (l := zs) (j := j) (by omega))
        obtain ⟨z, hzz⟩ : ∃ z, zs[j]?.getD 0 = z := ⟨_, rfl⟩
        rw [hzz] at hcell hi64
        have HAR := Lib.hid (around_any z 1000000 hi64 (by omega) (by omega))
        obtain ⟨a0, a1⟩ := around_in z 1000000 (by omega)
        obtain ⟨n, hn⟩ := Int.eq_ofNat_of_zero_le a0
        rw [hn] at HAR a1
        have hn6 : n < 1000000 := by omega
        have e30 : decide ((j : Int) < 30) = true := decide_eq_true (by omega)
        obtain ⟨r, q, t, u, m1, m2, m3, hr36, hq40, ht36, hu8, w1, w2, w3, er, er2, eq, et, eu⟩ := text_nums n hn6
        obtain ⟨sr, hsr, hsr2⟩ := short_at Q1.out.1 Q1.out.2.symm hr36
        obtain ⟨st, hst, hst2⟩ := short_at Q1.out.1 Q1.out.2.symm ht36
        obtain ⟨su, hsu, hsu2⟩ := short_at Q2.out.1 Q2.out.2.symm hu8
        have b1 : wr.heap[w.heap.size]? = some (.cells C1 9 (0, 0)) := (hB.block _ (by omega)).trans H1.out
        have b2 : wr.heap[w.heap.size + 1]? = some (.cells C2 9 (0, 0)) := (hB.block _ (by omega)).trans H2.out
        have cr : wr.cell? ⟨w.heap.size, r, none⟩ = some (.string sr) := by rw [cell_of_row wr _ r C1 _ (0, 0) b1]; exact hsr
        have ct : wr.cell? ⟨w.heap.size, t, none⟩ = some (.string st) := by rw [cell_of_row wr _ t C1 _ (0, 0) b1]; exact hst
        have cu : wr.cell? ⟨w.heap.size + 1, u, none⟩ = some (.string su) := by rw [cell_of_row wr _ u C2 _ (0, 0) b2]; exact hsu
        obtain ⟨jr, hjr, hjr2⟩ := join_any s sr (by omega) (by omega)
        obtain ⟨jt, hjt, hjt2⟩ := join_any s st (by omega) (by omega)
        have HJR := Lib.hid hjr2
        have HJT := Lib.hid hjt2
        clear hjr2 hjt2
        subst hA
        clear hsr hst hsu b1 b2 hn hc hzz hi64 a0 a1 hn6
        by_cases h39 : q = 39
        · have g39 : ((q : Int) == 39) = true := by simp; omega
          clear h39 cr HJR
          go_wp2_with (go_at_call 11; refine (HAR.out _).mono ?_; rintro e w2 ⟨rfl, rfl⟩)
          go_quiet ((go_at_call 17; refine Calls.quiet_of_same (HJT.out _)))
          have hfin : (jt ++ su).size ≤ 19 * (j + 1) := by rw [ByteArray.size_append]; omega
          go_wp2
          go_roundw
          case rel => exact ⟨j + 1, _, by omega, by omega, by go_num, rfl, hfin, below_drewN' hB _⟩
          case measure => simp [intOf]; omega
        · have g39 : ((q : Int) == 39) = false := by simp; omega
          clear h39 ct HJT
          go_wp2_with (go_at_call 11; refine (HAR.out _).mono ?_; rintro e w2 ⟨rfl, rfl⟩)
          go_quiet ((go_at_call 17; refine Calls.quiet_of_same (HJR.out _)))
          have hfin : (jr ++ su).size ≤ 19 * (j + 1) := by rw [ByteArray.size_append]; omega
          go_wp2
          go_roundw
          case rel => exact ⟨j + 1, _, by omega, by omega, by go_num, rfl, hfin, below_drewN' hB _⟩
          case measure => simp [intOf]; omega
      · have e30 : decide ((j : Int) < 30) = false := decide_eq_false (by omega)
        go_wp2
        go_ret
        exact ⟨⟨_, rfl, by omega⟩, HB2.out.trans (hB.mono HB2.out.size)⟩
    · have eL : decide ((j : Int) < (len : Int)) = false := decide_eq_false (by omega)
      go_wp2
      go_ret
      exact ⟨⟨_, rfl, by omega⟩, HB2.out.trans (hB.mono HB2.out.size)⟩
end Go.Proofs.YtiejhgdjkfhmoaaDoor
