/-
  The law's examples hold: 'lives' answers true. No condition.
-/
import Derived.Test.YtligbandpmgmaaaTySg
import Derived.Test.YtligbandpmgmaaaTyTh
namespace Go.Proofs.Ytligbandpmgmaaa
open Go Go.RowKit Go.Proofs Go.Shelf
attribute [local go_sem] Oper.semAt_some

namespace Lv
abbrev one : TY.Nd := .mk 12 1 ⟨#[]⟩ []
abbrev sum : TY.Nd := .mk 18 0 ⟨#[43]⟩ [one, .mk 12 2 ⟨#[]⟩ []]
abbrev less : TY.Nd := .mk 18 0 ⟨#[60]⟩ [sum, .mk 15 0 ⟨#[110, 111, 119]⟩ []]
abbrev draw : TY.Nd := .mk 16 0 ⟨#[]⟩ [.mk 13 1 ⟨#[]⟩ []]
abbrev empty : TY.Nd := .mk 11 0 ⟨#[]⟩ []
abbrev test : TY.Nd := .mk 2 0 ⟨#[]⟩ [one, empty, empty]
abbrev set : TY.Nd := .mk 1 0 ⟨#[118, 97]⟩ [.mk 14 0 ⟨#[119]⟩ []]
end Lv
/-- Whether the program of one statement is right. -/
def oneOk (t : TY.Nd) : Bool := TY.wellP (blk t) && !TY.undec (Nms 10) (blk t)
theorem lv1 : TY.tyOf Lv.less = 2 := by simp only [TY.tyOf_eq, List.map_cons, List.map_nil]; decide +kernel
theorem lv2 : TY.tyOf Lv.draw = 0 := by simp only [TY.tyOf_eq, List.map_cons, List.map_nil]; decide +kernel
theorem lv3 : oneOk Lv.test = false := by simp only [oneOk, TY.wellP_eq, TY.undec_eq, TY.tyOf_eq, List.map_cons, List.map_nil]; decide +kernel
theorem lv4 : oneOk Lv.set = false := by simp only [oneOk, TY.wellP_eq, TY.undec_eq, TY.tyOf_eq, List.map_cons, List.map_nil]; decide +kernel
theorem lv5 : TY.idx ([⟨#[100]⟩] ++ [⟨#[118]⟩]) ⟨#[118]⟩ = 1 := by decide +kernel
theorem one_check {t : TY.Nd} {u : Value} {V : World} (h : OneU V t u) : Calls Try.prog 7 #[u] V fun e w' => e = .returned (.int .i64 (if oneOk t then 0 else 11)) ∧ Below V.heap.size V w' := by
  obtain ⟨Ay, cy, Az, rfl, hS, hH⟩ := h
  have hI := Index_any V V.heap.size none Ay Az 0 cy 1 1 [] (Nms 10) ⟨Nat.le_refl _, by simp [maxLen], .inl ⟨rfl, rfl⟩⟩ hS (by simp [Nms])
  have := Check_any (Nms 10) none Ay Az 0 0 10 cy 1 1 [(0, blk t)] rfl (Nat.le_refl _) (by decide) V V.heap.size hH hI (Nat.le_refl _)
  rw [show ([((0 : Int), blk t)].all fun h => TY.wellP h.2 && !TY.undec (Nms 10) h.2) = oneOk t by simp [oneOk]] at this
  exact this
/-- Objects laid one after another. -/
def lay (W : World) (os : List Obj) : World := os.foldl World.alloc W
theorem lay_size : ∀ (os : List Obj) (W : World), (lay W os).heap.size = W.heap.size + os.length
  | [], W => rfl
  | o :: t, W => by
    show (lay (W.alloc o) t).heap.size = _
    rw [lay_size t, World.size_alloc, List.length_cons]
    omega
theorem lay_below : ∀ (os : List Obj) (W : World), Below W.heap.size W (lay W os)
  | [], W => Below.refl _ _
  | o :: t, W => ((Below.refl W.heap.size W).alloc (Nat.le_refl _) o).trans ((lay_below t (W.alloc o)).mono (by rw [World.size_alloc]; omega))
theorem lay_at : ∀ (os : List Obj) (W : World) (i : Nat) {C : Array Value} {t : TypeId}, os[i]? = some (.cells C t (0, 0)) → (lay W os).heap[W.heap.size + i]? = some (.cells C t (0, 0))
  | [], W, i, C, t, h => by simp at h
  | o :: os, W, 0, C, t, h => by
    injection h with h
    subst h
    exact ((lay_below os (W.alloc _)).block W.heap.size (by rw [World.size_alloc]; omega)).trans (World.alloc_heap_new W _)
  | o :: os, W, i + 1, C, t, h => by
    have := lay_at os (W.alloc o) i (C := C) (t := t) h
    rw [World.size_alloc] at this
    rw [show W.heap.size + (i + 1) = W.heap.size + 1 + i by omega]
    exact this
theorem lay_lt {os : List Obj} {W : World} (i : Nat) (h : i < os.length) : W.heap.size + i < (lay W os).heap.size := by rw [lay_size]; omega

def Lv.os (n : Nat) : List Obj := [.cells #[.int .i64 12, .int .i64 1, .string ⟨#[]⟩, .slice none 0 0] 25, .cells #[.int .i64 12, .int .i64 1, .string ⟨#[]⟩, .slice none 0 0, .int .i64 12, .int .i64 2, .string ⟨#[]⟩, .slice none 0 0] 25, .cells #[.int .i64 18, .int .i64 0, .string ⟨#[43]⟩, .slice (some ⟨n + 1, 0, none⟩) 2 2] 25, .cells #[.int .i64 18, .int .i64 0, .string ⟨#[43]⟩, .slice (some ⟨n + 1, 0, none⟩) 2 2, .int .i64 15, .int .i64 0, .string ⟨#[110, 111, 119]⟩, .slice none 0 0] 25, .cells #[.int .i64 18, .int .i64 0, .string ⟨#[60]⟩, .slice (some ⟨n + 1 + 1 + 1, 0, none⟩) 2 2] 25, .cells #[.int .i64 13, .int .i64 1, .string ⟨#[]⟩, .slice none 0 0] 25, .cells #[.int .i64 16, .int .i64 0, .string ⟨#[]⟩, .slice (some ⟨n + 1 + 1 + 1 + 1 + 1, 0, none⟩) 1 1] 25, .cells #[.int .i64 11, .int .i64 0, .string ⟨#[]⟩, .slice none 0 0] 25, .cells #[.int .i64 12, .int .i64 1, .string ⟨#[]⟩, .slice none 0 0, .int .i64 11, .int .i64 0, .string ⟨#[]⟩, .slice none 0 0, .int .i64 11, .int .i64 0, .string ⟨#[]⟩, .slice none 0 0] 25, .cells #[.int .i64 2, .int .i64 0, .string ⟨#[]⟩, .slice (some ⟨n + 1 + 1 + 1 + 1 + 1 + 1 + 1 + 1, 0, none⟩) 3 3] 25, .cells #[.int .i64 14, .int .i64 0, .string ⟨#[119]⟩, .slice none 0 0] 25, .cells #[.int .i64 1, .int .i64 0, .string ⟨#[118, 97]⟩, .slice (some ⟨n + 1 + 1 + 1 + 1 + 1 + 1 + 1 + 1 + 1 + 1, 0, none⟩) 1 1] 25, .cells #[.string ⟨#[100]⟩] 9, .cells #[.string ⟨#[118]⟩] 9, .cells #[.slice (some ⟨n + 1 + 1 + 1 + 1 + 1 + 1 + 1 + 1 + 1 + 1 + 1 + 1, 0, none⟩) 1 1, .slice (some ⟨n + 1 + 1 + 1 + 1 + 1 + 1 + 1 + 1 + 1 + 1 + 1 + 1 + 1, 0, none⟩) 1 1, .slice none 0 0] 36]
theorem stn_one {V : World} {b : Nat} {s : ByteArray} (hlt : b < V.heap.size) (h : V.heap[b]? = some (.cells #[.string s] 9 (0, 0))) : Stn V.heap.size V (some ⟨b, 0, none⟩) 1 [s] := ⟨Nat.le_refl _, by simp [maxLen], .inr ⟨b, 0, rfl, hlt, fun j x hj => by
  match j, hj with
  | 0, hj =>
    injection hj with hj
    subst hj
    exact cell_of_row V _ 0 _ _ (0, 0) h
  | j + 1, hj => simp at hj⟩⟩
/-- What stands behind the boxes. -/
theorem Lv.laid (W : World) : ∃ V, lay W (Lv.os W.heap.size) = V ∧ Below W.heap.size W V ∧
  ((W.heap.size + 1 + 1 + 1 + 1) < V.heap.size ∧ V.heap[(W.heap.size + 1 + 1 + 1 + 1)]? = some (.cells #[.int .i64 18, .int .i64 0, .string ⟨#[60]⟩, .slice (some ⟨W.heap.size + 1 + 1 + 1, 0, none⟩) 2 2] 25 (0, 0))) ∧
  ((W.heap.size + 1 + 1 + 1 + 1 + 1 + 1) < V.heap.size ∧ V.heap[(W.heap.size + 1 + 1 + 1 + 1 + 1 + 1)]? = some (.cells #[.int .i64 16, .int .i64 0, .string ⟨#[]⟩, .slice (some ⟨W.heap.size + 1 + 1 + 1 + 1 + 1, 0, none⟩) 1 1] 25 (0, 0))) ∧
  ((W.heap.size + 1 + 1 + 1 + 1 + 1 + 1 + 1 + 1 + 1) < V.heap.size ∧ V.heap[(W.heap.size + 1 + 1 + 1 + 1 + 1 + 1 + 1 + 1 + 1)]? = some (.cells #[.int .i64 2, .int .i64 0, .string ⟨#[]⟩, .slice (some ⟨W.heap.size + 1 + 1 + 1 + 1 + 1 + 1 + 1 + 1, 0, none⟩) 3 3] 25 (0, 0))) ∧
  ((W.heap.size + 1 + 1 + 1 + 1 + 1 + 1 + 1 + 1 + 1 + 1 + 1) < V.heap.size ∧ V.heap[(W.heap.size + 1 + 1 + 1 + 1 + 1 + 1 + 1 + 1 + 1 + 1 + 1)]? = some (.cells #[.int .i64 1, .int .i64 0, .string ⟨#[118, 97]⟩, .slice (some ⟨W.heap.size + 1 + 1 + 1 + 1 + 1 + 1 + 1 + 1 + 1 + 1, 0, none⟩) 1 1] 25 (0, 0))) ∧
  ((W.heap.size + 1 + 1 + 1 + 1 + 1 + 1 + 1 + 1 + 1 + 1 + 1 + 1 + 1 + 1) < V.heap.size ∧ V.heap[(W.heap.size + 1 + 1 + 1 + 1 + 1 + 1 + 1 + 1 + 1 + 1 + 1 + 1 + 1 + 1)]? = some (.cells #[.slice (some ⟨W.heap.size + 1 + 1 + 1 + 1 + 1 + 1 + 1 + 1 + 1 + 1 + 1 + 1, 0, none⟩) 1 1, .slice (some ⟨W.heap.size + 1 + 1 + 1 + 1 + 1 + 1 + 1 + 1 + 1 + 1 + 1 + 1 + 1, 0, none⟩) 1 1, .slice none 0 0] 36 (0, 0))) ∧
  NdV V V.heap.size Lv.less (ndv 18 0 ⟨#[60]⟩ (.slice (some ⟨W.heap.size + 1 + 1 + 1, 0, none⟩) 2 2)) ∧ NdV V V.heap.size Lv.draw (ndv 16 0 ⟨#[]⟩ (.slice (some ⟨W.heap.size + 1 + 1 + 1 + 1 + 1, 0, none⟩) 1 1)) ∧ NdV V V.heap.size Lv.test (ndv 2 0 ⟨#[]⟩ (.slice (some ⟨W.heap.size + 1 + 1 + 1 + 1 + 1 + 1 + 1 + 1, 0, none⟩) 3 3)) ∧ NdV V V.heap.size Lv.set (ndv 1 0 ⟨#[118, 97]⟩ (.slice (some ⟨W.heap.size + 1 + 1 + 1 + 1 + 1 + 1 + 1 + 1 + 1 + 1, 0, none⟩) 1 1)) ∧
  Stn V.heap.size V (some ⟨W.heap.size + 1 + 1 + 1 + 1 + 1 + 1 + 1 + 1 + 1 + 1 + 1 + 1, 0, none⟩) 1 [⟨#[100]⟩] ∧ Stn V.heap.size V (some ⟨W.heap.size + 1 + 1 + 1 + 1 + 1 + 1 + 1 + 1 + 1 + 1 + 1 + 1 + 1, 0, none⟩) 1 [⟨#[118]⟩] := by
  refine ⟨_, rfl, lay_below _ _, ⟨(lay_lt (os := Lv.os W.heap.size) 4 (show 4 < 15 by decide)), (lay_at (Lv.os W.heap.size) W 4 rfl)⟩, ⟨(lay_lt (os := Lv.os W.heap.size) 6 (show 6 < 15 by decide)), (lay_at (Lv.os W.heap.size) W 6 rfl)⟩, ⟨(lay_lt (os := Lv.os W.heap.size) 9 (show 9 < 15 by decide)), (lay_at (Lv.os W.heap.size) W 9 rfl)⟩, ⟨(lay_lt (os := Lv.os W.heap.size) 11 (show 11 < 15 by decide)), (lay_at (Lv.os W.heap.size) W 11 rfl)⟩, ⟨(lay_lt (os := Lv.os W.heap.size) 14 (show 14 < 15 by decide)), (lay_at (Lv.os W.heap.size) W 14 rfl)⟩, ?_⟩
  refine ⟨NdV.two (lay_at (Lv.os W.heap.size) W 3 rfl) (lay_lt (os := Lv.os W.heap.size) 3 (show 3 < 15 by decide)) (by decide) (NdV.two (lay_at (Lv.os W.heap.size) W 1 rfl) (lay_lt (os := Lv.os W.heap.size) 1 (show 1 < 15 by decide)) (by decide) (NdV.leaf _ _ _ _ _ (by decide)) (NdV.leaf _ _ _ _ _ (by decide))) (NdV.leaf _ _ _ _ _ (by decide)), NdV.one (lay_at (Lv.os W.heap.size) W 5 rfl) (lay_lt (os := Lv.os W.heap.size) 5 (show 5 < 15 by decide)) (by decide) (NdV.leaf _ _ _ _ _ (by decide)), NdV.three (lay_at (Lv.os W.heap.size) W 8 rfl) (lay_lt (os := Lv.os W.heap.size) 8 (show 8 < 15 by decide)) (by decide) (NdV.leaf _ _ _ _ _ (by decide)) (NdV.leaf _ _ _ _ _ (by decide)) (NdV.leaf _ _ _ _ _ (by decide)), NdV.one (lay_at (Lv.os W.heap.size) W 10 rfl) (lay_lt (os := Lv.os W.heap.size) 10 (show 10 < 15 by decide)) (by decide) (NdV.leaf _ _ _ _ _ (by decide)), ?_, ?_⟩
  · exact stn_one (lay_lt (os := Lv.os W.heap.size) 12 (show 12 < 15 by decide)) (lay_at (Lv.os W.heap.size) W 12 rfl)
  · exact stn_one (lay_lt (os := Lv.os W.heap.size) 13 (show 13 < 15 by decide)) (lay_at (Lv.os W.heap.size) W 13 rfl)
set_option maxRecDepth 100000 in
set_option maxHeartbeats 8000000 in
theorem lives_any (W : World) : Calls Try.prog 9 #[] W fun e w' => e = .returned (.bool true) ∧ Below W.heap.size W w' := by
  obtain ⟨V, hV, bV, ⟨l4, e4⟩, ⟨l6, e6⟩, ⟨l9, e9⟩, ⟨l11, e11⟩, ⟨l14, e14⟩, t2, t3, t4, t5, S1, S2⟩ := Lv.laid W
  have HW := Lib.hid (show (((((((((((((((W.alloc (.cells #[.int .i64 12, .int .i64 1, .string ⟨#[]⟩, .slice none 0 0] 25)).alloc (.cells #[.int .i64 12, .int .i64 1, .string ⟨#[]⟩, .slice none 0 0, .int .i64 12, .int .i64 2, .string ⟨#[]⟩, .slice none 0 0] 25)).alloc (.cells #[.int .i64 18, .int .i64 0, .string ⟨#[43]⟩, .slice (some ⟨W.heap.size + 1, 0, none⟩) 2 2] 25)).alloc (.cells #[.int .i64 18, .int .i64 0, .string ⟨#[43]⟩, .slice (some ⟨W.heap.size + 1, 0, none⟩) 2 2, .int .i64 15, .int .i64 0, .string ⟨#[110, 111, 119]⟩, .slice none 0 0] 25)).alloc (.cells #[.int .i64 18, .int .i64 0, .string ⟨#[60]⟩, .slice (some ⟨W.heap.size + 1 + 1 + 1, 0, none⟩) 2 2] 25)).alloc (.cells #[.int .i64 13, .int .i64 1, .string ⟨#[]⟩, .slice none 0 0] 25)).alloc (.cells #[.int .i64 16, .int .i64 0, .string ⟨#[]⟩, .slice (some ⟨W.heap.size + 1 + 1 + 1 + 1 + 1, 0, none⟩) 1 1] 25)).alloc (.cells #[.int .i64 11, .int .i64 0, .string ⟨#[]⟩, .slice none 0 0] 25)).alloc (.cells #[.int .i64 12, .int .i64 1, .string ⟨#[]⟩, .slice none 0 0, .int .i64 11, .int .i64 0, .string ⟨#[]⟩, .slice none 0 0, .int .i64 11, .int .i64 0, .string ⟨#[]⟩, .slice none 0 0] 25)).alloc (.cells #[.int .i64 2, .int .i64 0, .string ⟨#[]⟩, .slice (some ⟨W.heap.size + 1 + 1 + 1 + 1 + 1 + 1 + 1 + 1, 0, none⟩) 3 3] 25)).alloc (.cells #[.int .i64 14, .int .i64 0, .string ⟨#[119]⟩, .slice none 0 0] 25)).alloc (.cells #[.int .i64 1, .int .i64 0, .string ⟨#[118, 97]⟩, .slice (some ⟨W.heap.size + 1 + 1 + 1 + 1 + 1 + 1 + 1 + 1 + 1 + 1, 0, none⟩) 1 1] 25)).alloc (.cells #[.string ⟨#[100]⟩] 9)).alloc (.cells #[.string ⟨#[118]⟩] 9)).alloc (.cells #[.slice (some ⟨W.heap.size + 1 + 1 + 1 + 1 + 1 + 1 + 1 + 1 + 1 + 1 + 1 + 1, 0, none⟩) 1 1, .slice (some ⟨W.heap.size + 1 + 1 + 1 + 1 + 1 + 1 + 1 + 1 + 1 + 1 + 1 + 1 + 1, 0, none⟩) 1 1, .slice none 0 0] 36)) = V from hV)
  clear hV
  have T1 := Lib.hid (fun (U : World) (hU : Below V.heap.size V U) => TypeOf_any Lv.less U V.heap.size _ (t2.under hU (Nat.le_refl _)) hU.size)
  have T2 := Lib.hid (fun (U : World) (hU : Below V.heap.size V U) => TypeOf_any Lv.draw U V.heap.size _ (t3.under hU (Nat.le_refl _)) hU.size)
  have T3 := Lib.hid (fun (U : World) (hU : Below V.heap.size V U) => Single_any Lv.test U V.heap.size _ (t4.under hU (Nat.le_refl _)) hU.size)
  have T4 := Lib.hid (fun (U : World) (hU : Below V.heap.size V U) => Single_any Lv.set U V.heap.size _ (t5.under hU (Nat.le_refl _)) hU.size)
  have hI := Index_any V V.heap.size (some ⟨W.heap.size + 1 + 1 + 1 + 1 + 1 + 1 + 1 + 1 + 1 + 1 + 1 + 1, 0, none⟩) (some ⟨W.heap.size + 1 + 1 + 1 + 1 + 1 + 1 + 1 + 1 + 1 + 1 + 1 + 1 + 1, 0, none⟩) none 1 1 0 0 [⟨#[100]⟩] [⟨#[118]⟩] S1 S2 (by decide)
  have T5 := Lib.hid (fun (U : World) (hU : Below V.heap.size V U) => Check_any _ _ _ none _ _ _ _ 0 0 [] rfl (Nat.le_refl _) (by decide) U V.heap.size (fun i x h => by simp at h) (fun U2 s hU2 h1 h2 => hI U2 s (hU.trans hU2) h1 h2) hU.size)
  have T6 := Lib.hid (fun (U : World) (hU : Below V.heap.size V U) => hI U ⟨#[118]⟩ hU hU.size (by decide))
  simp only [lv1, lv2, lv5] at T1 T2 T6
  have E6 := Lib.hid (And.intro l6 e6)
  have E9 := Lib.hid (And.intro l9 e9)
  have E11 := Lib.hid (And.intro l11 e11)
  have E14 := Lib.hid (And.intro l14 e14)
  have K0 := Lib.hid bV
  clear bV l4 e4 l6 e6 l9 e9 l11 e11 l14 e14 t2 t3 t4 t5 S1 S2 hI
  go_enter Try.func9, Try.ntmps9
  go_wp2_with fail
  rw [HW.out]
  clear HW
  refine (T1.out _ (Below.refl _ _)).mono ?_
  clear T1
  rintro e v1 ⟨rfl, q1⟩
  have g6_0 := (q1.cell (p := ⟨W.heap.size + 1 + 1 + 1 + 1 + 1 + 1, 0, none⟩) E6.out.1).trans (cell_of_row V _ 0 _ _ (0, 0) E6.out.2)
  have g6_1 := (q1.cell (p := ⟨W.heap.size + 1 + 1 + 1 + 1 + 1 + 1, 1, none⟩) E6.out.1).trans (cell_of_row V _ 1 _ _ (0, 0) E6.out.2)
  have g6_2 := (q1.cell (p := ⟨W.heap.size + 1 + 1 + 1 + 1 + 1 + 1, 2, none⟩) E6.out.1).trans (cell_of_row V _ 2 _ _ (0, 0) E6.out.2)
  have g6_3 := (q1.cell (p := ⟨W.heap.size + 1 + 1 + 1 + 1 + 1 + 1, 3, none⟩) E6.out.1).trans (cell_of_row V _ 3 _ _ (0, 0) E6.out.2)
  replace q1 := Lib.hid q1
  go_wp2_with (first
    | (go_at_call 5; refine (T2.out _ q1.out).mono ?_; clear T2; rintro e v2 ⟨rfl, q2⟩; have q2 := q1.out.trans (q2.mono q1.out.size); have g9_0 := (q2.cell (p := ⟨W.heap.size + 1 + 1 + 1 + 1 + 1 + 1 + 1 + 1 + 1, 0, none⟩) E9.out.1).trans (cell_of_row V _ 0 _ _ (0, 0) E9.out.2); have g9_1 := (q2.cell (p := ⟨W.heap.size + 1 + 1 + 1 + 1 + 1 + 1 + 1 + 1 + 1, 1, none⟩) E9.out.1).trans (cell_of_row V _ 1 _ _ (0, 0) E9.out.2); have g9_2 := (q2.cell (p := ⟨W.heap.size + 1 + 1 + 1 + 1 + 1 + 1 + 1 + 1 + 1, 2, none⟩) E9.out.1).trans (cell_of_row V _ 2 _ _ (0, 0) E9.out.2); have g9_3 := (q2.cell (p := ⟨W.heap.size + 1 + 1 + 1 + 1 + 1 + 1 + 1 + 1 + 1, 3, none⟩) E9.out.1).trans (cell_of_row V _ 3 _ _ (0, 0) E9.out.2); replace q2 := Lib.hid q2)
    | (go_at_call 8; refine (T3.out _ q2.out).mono ?_; clear T3; rintro e v3 ⟨u3, rfl, o3, q3⟩; have C3 := Lib.hid (one_check o3); rw [lv3] at C3; obtain ⟨Ay3, cy3, Az3, rfl, _, _⟩ := o3; replace q3 := Lib.hid (q2.out.trans (q3.mono q2.out.size)))
    | (go_at_call 7; refine C3.out.mono ?_; clear C3; rintro e v4 ⟨rfl, q4⟩; have q4 := q3.out.trans (q4.mono q3.out.size); have g11_0 := (q4.cell (p := ⟨W.heap.size + 1 + 1 + 1 + 1 + 1 + 1 + 1 + 1 + 1 + 1 + 1, 0, none⟩) E11.out.1).trans (cell_of_row V _ 0 _ _ (0, 0) E11.out.2); have g11_1 := (q4.cell (p := ⟨W.heap.size + 1 + 1 + 1 + 1 + 1 + 1 + 1 + 1 + 1 + 1 + 1, 1, none⟩) E11.out.1).trans (cell_of_row V _ 1 _ _ (0, 0) E11.out.2); have g11_2 := (q4.cell (p := ⟨W.heap.size + 1 + 1 + 1 + 1 + 1 + 1 + 1 + 1 + 1 + 1 + 1, 2, none⟩) E11.out.1).trans (cell_of_row V _ 2 _ _ (0, 0) E11.out.2); have g11_3 := (q4.cell (p := ⟨W.heap.size + 1 + 1 + 1 + 1 + 1 + 1 + 1 + 1 + 1 + 1 + 1, 3, none⟩) E11.out.1).trans (cell_of_row V _ 3 _ _ (0, 0) E11.out.2); replace q4 := Lib.hid q4)
    | (go_at_call 8; refine (T4.out _ q4.out).mono ?_; clear T4; rintro e v5 ⟨u5, rfl, o5, q5⟩; have C5 := Lib.hid (one_check o5); rw [lv4] at C5; obtain ⟨Ay5, cy5, Az5, rfl, _, _⟩ := o5; replace q5 := Lib.hid (q4.out.trans (q5.mono q4.out.size)))
    | (go_at_call 7; refine C5.out.mono ?_; clear C5; rintro e v6 ⟨rfl, q6⟩; have q6 := q5.out.trans (q6.mono q5.out.size); have g14_0 := (q6.cell (p := ⟨W.heap.size + 1 + 1 + 1 + 1 + 1 + 1 + 1 + 1 + 1 + 1 + 1 + 1 + 1 + 1, 0, none⟩) E14.out.1).trans (cell_of_row V _ 0 _ _ (0, 0) E14.out.2); have g14_1 := (q6.cell (p := ⟨W.heap.size + 1 + 1 + 1 + 1 + 1 + 1 + 1 + 1 + 1 + 1 + 1 + 1 + 1 + 1, 1, none⟩) E14.out.1).trans (cell_of_row V _ 1 _ _ (0, 0) E14.out.2); have g14_2 := (q6.cell (p := ⟨W.heap.size + 1 + 1 + 1 + 1 + 1 + 1 + 1 + 1 + 1 + 1 + 1 + 1 + 1 + 1, 2, none⟩) E14.out.1).trans (cell_of_row V _ 2 _ _ (0, 0) E14.out.2); replace q6 := Lib.hid q6)
    | (go_at_call 7; refine (T5.out _ q6.out).mono ?_; clear T5; rintro e v7 ⟨rfl, q7⟩; have q7 := q6.out.trans (q7.mono q6.out.size); clear g14_0 g14_1 g14_2; have g14_0 := (q7.cell (p := ⟨W.heap.size + 1 + 1 + 1 + 1 + 1 + 1 + 1 + 1 + 1 + 1 + 1 + 1 + 1 + 1, 0, none⟩) E14.out.1).trans (cell_of_row V _ 0 _ _ (0, 0) E14.out.2); have g14_1 := (q7.cell (p := ⟨W.heap.size + 1 + 1 + 1 + 1 + 1 + 1 + 1 + 1 + 1 + 1 + 1 + 1 + 1 + 1, 1, none⟩) E14.out.1).trans (cell_of_row V _ 1 _ _ (0, 0) E14.out.2); have g14_2 := (q7.cell (p := ⟨W.heap.size + 1 + 1 + 1 + 1 + 1 + 1 + 1 + 1 + 1 + 1 + 1 + 1 + 1 + 1, 2, none⟩) E14.out.1).trans (cell_of_row V _ 2 _ _ (0, 0) E14.out.2); replace q7 := Lib.hid q7)
    | (go_at_call 18; refine (T6.out _ q7.out).mono ?_; clear T6; rintro e v8 ⟨rfl, q8⟩; have q8 := q7.out.trans (q8.mono q7.out.size)))
  go_ret
  exact ⟨rfl, K0.out.trans (q8.mono K0.out.size)⟩
end Go.Proofs.Ytligbandpmgmaaa
