/-
  The reference's put onto a row of answers that is there. No condition but the lengths.
-/
import Derived.Test.YtiokiecnglmbnaaK4
import Derived.Test.YtiokiecnglmbnaaK16
import Derived.Deep.Cut

namespace Go.Proofs.Ytiokiecnglmbnaa
open Go Go.RowKit Go.Proofs
attribute [local go_sem] Oper.semAt_some

namespace TP
def anC (x : An) : List Value := [.int .i64 x.1.c, .int .i64 x.1.h, .int .i64 x.1.t, .int .i64 x.1.k, .int .i64 x.1.i, .int .i64 x.2]
def ansC (l : List An) : List Value := l.flatMap anC
theorem ansC_len (l : List An) : (ansC l).length = l.length * 6 := by
  induction l with
  | nil => rfl
  | cons x t ih =>
    show (anC x ++ ansC t).length = _
    rw [List.length_append, ih, List.length_cons]
    show 6 + _ = _
    omega
theorem ansC_app (l r : List An) : ansC (l ++ r) = ansC l ++ ansC r := by simp [ansC]
theorem ansC_one (l : List An) : ∀ u ∈ ansC l, u.oneCell' = true := by
  intro u hu
  obtain ⟨x, _, h⟩ := List.mem_flatMap.1 hu
  simp [anC] at h
  rcases h with rfl | rfl | rfl | rfl | rfl | rfl <;> rfl
theorem ansC_get : ∀ {l : List An} {i : Nat} {u : Value}, (ansC l)[i]? = some u → ∃ j o x, i = j * 6 + o ∧ o < 6 ∧ l[j]? = some x ∧ (anC x)[o]? = some u
  | [], i, u, h => by simp [ansC] at h
  | x :: t, i, u, h => by
    have h' : (anC x ++ ansC t)[i]? = some u := h
    by_cases hi : i < 6
    · rw [List.getElem?_append_left (by exact hi)] at h'
      exact ⟨0, i, x, by omega, hi, rfl, h'⟩
    · rw [List.getElem?_append_right (by show 6 ≤ i; omega)] at h'
      obtain ⟨j, o, y, h1, h2, h3, h4⟩ := ansC_get (l := t) (i := i - 6) h'
      exact ⟨j + 1, o, y, by omega, h2, by simpa using h3, h4⟩
theorem put_lt {l : List An} {a x : An} {k : Nat} (hx : l[k]? = some x) (h : ltQ x.1 a.1) : l.take k ++ putA (l.drop k) a = l.take (k + 1) ++ putA (l.drop (k + 1)) a := by
  obtain ⟨h1, e⟩ := List.getElem?_eq_some_iff.1 hx
  rw [List.drop_eq_getElem_cons h1, e, List.take_add_one, hx, putA, if_pos h]
  simp
theorem put_at {l : List An} {a x : An} {k : Nat} (hx : l[k]? = some x) (h : ¬ ltQ x.1 a.1) (he : x.1 = a.1) : l.take k ++ putA (l.drop k) a = l := by
  obtain ⟨h1, e⟩ := List.getElem?_eq_some_iff.1 hx
  rw [List.drop_eq_getElem_cons h1, e, putA, if_neg h, if_pos he, ← e, ← List.drop_eq_getElem_cons h1, List.take_append_drop]
theorem put_new {l : List An} {a x : An} {k : Nat} (hx : l[k]? = some x) (h : ¬ ltQ x.1 a.1) (he : x.1 ≠ a.1) : l.take k ++ putA (l.drop k) a = l.take k ++ [a] ++ l.drop k := by
  obtain ⟨h1, e⟩ := List.getElem?_eq_some_iff.1 hx
  rw [List.drop_eq_getElem_cons h1, e, putA, if_neg h, if_neg he]
  simp
end TP
theorem AnAt.get {w : World} {g j o : Nat} {x : TP.An} {u : Value} (h : AnAt w g j x) (hu : (TP.anC x)[o]? = some u) : w.cell? ⟨g, j * 6 + o, none⟩ = some u := by
  obtain ⟨h0, h1, h2, h3, h4, h5⟩ := h
  match o, hu with
  | 0, hu => injection hu with hu; subst hu; exact h0
  | 1, hu => injection hu with hu; subst hu; exact h1
  | 2, hu => injection hu with hu; subst hu; exact h2
  | 3, hu => injection hu with hu; subst hu; exact h3
  | 4, hu => injection hu with hu; subst hu; exact h4
  | 5, hu => injection hu with hu; subst hu; exact h5
theorem src_part {V : World} {g d k : Nat} {l : List TP.An} (hx : ∀ j x, l[j]? = some x → AnAt V g j x) : ∀ j u, (TP.ansC ((l.drop d).take k))[j]? = some u → V.cell? ((⟨g, d * 6, none⟩ : Addr).add j) = some u := fun j u hu => by
  obtain ⟨q, o, x, rfl, _, h3, h4⟩ := TP.ansC_get hu
  rw [List.getElem?_take] at h3
  split at h3
  · rw [List.getElem?_drop] at h3
    have h5 := (hx _ x h3).get h4
    rw [Addr.add_lit, show d * 6 + (q * 6 + o) = (d + q) * 6 + o by omega]
    exact h5
  · cases h3
theorem TP.ansC_at : ∀ {l : List TP.An} {j o : Nat} {x : TP.An}, l[j]? = some x → o < 6 → (TP.ansC l)[j * 6 + o]? = (TP.anC x)[o]?
  | [], j, o, x, h, _ => by simp at h
  | y :: t, 0, o, x, h, ho => by
    simp only [List.getElem?_cons_zero, Option.some.injEq] at h
    subst h
    show (TP.anC y ++ TP.ansC t)[0 * 6 + o]? = _
    rw [Nat.zero_mul, Nat.zero_add, List.getElem?_append_left (by exact ho)]
  | y :: t, j + 1, o, x, h, ho => by
    show (TP.anC y ++ TP.ansC t)[(j + 1) * 6 + o]? = _
    rw [List.getElem?_append_right (by show 6 ≤ _; omega), show (j + 1) * 6 + o - (TP.anC y).length = j * 6 + o by show _ - 6 = _; omega]
    exact TP.ansC_at (by simpa using h) ho
theorem ans_of_own {w : World} {base m c : Nat} {t : TypeId} {B : Option Addr} {L : List TP.An} (h : w.ownsRow base t 6 (.slice B m c) m (TP.ansC L)) (hL : L.length = m) : Ans w B m L ∧ m ≤ c := by
  refine ⟨⟨hL, fun hm => ?_⟩, ?_⟩
  · obtain ⟨g, cap, hv, _, hlt⟩ := h.form hm
    injection hv with hB
    subst hB
    refine ⟨g, rfl, hlt, fun j x hj => ?_⟩
    have key : ∀ o, o < 6 → ∀ u, (TP.anC x)[o]? = some u → w.cell? ⟨g, j * 6 + o, none⟩ = some u := fun o ho u hu => by
      have := h.cells (g := g) rfl (j * 6 + o) u (by rw [TP.ansC_at hj ho]; exact hu)
      rw [Addr.add_lit, Nat.zero_add] at this
      exact this
    exact ⟨key 0 (by omega) _ rfl, key 1 (by omega) _ rfl, key 2 (by omega) _ rfl, key 3 (by omega) _ rfl, key 4 (by omega) _ rfl, key 5 (by omega) _ rfl⟩
  · rcases h.2 with ⟨h1, h2⟩ | ⟨g, cap, cur, h1, _, _, h3, _⟩
    · omega
    · injection h1 with _ _ h6
      omega
theorem info_answer : (Try.prog.info? 71).map (fun i => (i.zero, i.size, i.bytes)) = some (some (.agg #[.int .i64 0, .int .i64 0, .int .i64 0, .int .i64 0, .int .i64 0, .int .i64 0]), 6, 48) := by kernel_rfl
theorem info_split' {P : Program} {t : TypeId} {z : Option Value} {s b : Nat} (h : (P.info? t).map (fun i => (i.zero, i.size, i.bytes)) = some (z, s, b)) : ∃ i, P.info? t = some i ∧ i.zero = z ∧ i.size = s ∧ i.bytes = b := by
  cases hq : P.info? t with
  | none => rw [hq] at h; cases h
  | some i =>
    rw [hq] at h
    simp only [Option.map_some, Option.some.injEq, Prod.mk.injEq] at h
    exact ⟨i, rfl, h.1, h.2.1, h.2.2⟩
set_option maxHeartbeats 4000000 in
set_option maxRecDepth 100000 in
theorem put_some (g n c : Nat) (a : TP.An) {l : List TP.An} (w : World) (hg : g < w.heap.size) (hl : l.length = n) (hx : ∀ j x, l[j]? = some x → AnAt w g j x) (hnc : n ≤ c) (bn : n ≤ 100000) :
    Calls Try.prog 44 #[.slice (some ⟨g, 0, none⟩) n c, anV a] w fun e w' => (∃ B m c', e = .returned (.slice B m c') ∧ m ≤ c' ∧ Ans w' B m (TP.putA l a)) ∧ Below w.heap.size w w' := by
  obtain ⟨i0, hi0, hz0, hs0, hb0⟩ := info_split' info_answer
  obtain ⟨U, hU⟩ : ∃ U, w.alloc (.cells #[.int .i64 a.1.c, .int .i64 a.1.h, .int .i64 a.1.t, .int .i64 a.1.k, .int .i64 a.1.i, .int .i64 a.2] 71) = U := ⟨_, rfl⟩
  have hb : Below w.heap.size w U := hU ▸ one_box w _
  have hlu : w.heap.size < U.heap.size := by rw [← hU]; simp
  have k1 : U.heap[w.heap.size]? = some (.cells #[.int .i64 a.1.c, .int .i64 a.1.h, .int .i64 a.1.t, .int .i64 a.1.k, .int .i64 a.1.i, .int .i64 a.2] 71 (0, 0)) := by rw [← hU]; exact new_at rfl
  have HK := Lib.hid (fun (V : World) (hV : Below U.heap.size U V) => show AnAt V w.heap.size 0 a from (show AnAt U w.heap.size 0 a from ⟨cell_of_row _ _ 0 _ _ (0, 0) k1, cell_of_row _ _ 1 _ _ (0, 0) k1, cell_of_row _ _ 2 _ _ (0, 0) k1, cell_of_row _ _ 3 _ _ (0, 0) k1, cell_of_row _ _ 4 _ _ (0, 0) k1, cell_of_row _ _ 5 _ _ (0, 0) k1⟩).keep hlu hV)
  have HX := Lib.hid (fun (V : World) (hV : Below U.heap.size U V) (j : Nat) (x : TP.An) (h : l[j]? = some x) => ((hx j x h).keep hg hb).keep (show g < U.heap.size by omega) hV)
  have HB := Lib.hid hb
  have HL := Lib.hid hl
  clear k1 hb hx hl
  go_enter Try.func44, Try.ntmps44
  go_wp2_with fail
  clear hU
  go_loopw [5] (fun i V => ∃ k : Nat, k ≤ n ∧ i = .int .i64 (k : Int) ∧ Hid (TP.putA l a = l.take k ++ TP.putA (l.drop k) a) ∧ Hid (Below U.heap.size U V)) (fun i _ => n - (intOf i).toNat)
  case atStart => exact ⟨0, by omega, rfl, rfl, Below.refl _ _⟩
  case round =>
    obtain ⟨k, hk, rfl, HQ, HV⟩ := hrel
    by_cases hin : k < n
    · have dk : decide (k < n) = true := decide_eq_true hin
      obtain ⟨x, hx⟩ : ∃ x, l[k]? = some x := ⟨_, List.getElem?_eq_getElem (by rw [HL.out]; exact hin)⟩
      have HXK := Lib.hid (fun (V : World) (hV : Below U.heap.size U V) => HX.out V hV k x hx)
      have HXX := Lib.hid hx
      obtain ⟨b, hb⟩ : ∃ b, decide (NM.lexL (NM.quL x.1) (NM.quL a.1) < 0) = b := ⟨_, rfl⟩
      have HC := Lib.hid (fun V => show Calls Try.prog 60 #[quV x.1, quV a.1] V fun e w' => e = .returned (.int .i64 (NM.lexL (NM.quL x.1) (NM.quL a.1))) ∧ Below V.heap.size V w' from cmpQueR_any x.1.c x.1.h x.1.t x.1.k x.1.i a.1.c a.1.h a.1.t a.1.k a.1.i V)
      have HBB := Lib.hid hb
      obtain ⟨r, hr⟩ : ∃ r, NM.lexL (NM.quL x.1) (NM.quL a.1) = r := ⟨_, rfl⟩
      rw [hr] at HC hb
      clear hx hr
      go_wp2_with fail
      refine RgX.region 15 (fun i => ( 7 + i)) (fun ix_ => match ix_ with | 0 => .v (.int .i64 (k : Int)) | 1 => .v (.slice (some ⟨g, 0, none⟩) n c) | 2 => .v (.int .i64 (n : Int)) | 3 => .v (.bool true) | 4 => .v (.bool true) | 5 => .v (.slice (some ⟨g, 0, none⟩) n c) | 6 => .v (.int .i64 (k : Int)) | 7 => .v (.pointer (some ⟨g, k * 6, none⟩)) | 8 => .v (.pointer (some ⟨g, k * 6, none⟩)) | 9 => .v (.agg #[.int .i64 x.1.c, .int .i64 x.1.h, .int .i64 x.1.t, .int .i64 x.1.k, .int .i64 x.1.i]) | 10 => .v (.pointer (some ⟨w.heap.size, 0, none⟩)) | 11 => .v (.agg #[.int .i64 a.1.c, .int .i64 a.1.h, .int .i64 a.1.t, .int .i64 a.1.k, .int .i64 a.1.i]) | 12 => .v (.int .i64 r) | 13 => .v (.bool b) | 14 => .v (.bool b) | _ => .any) (by kernel_rfl) rfl (by kernel_rfl)  (fun i hi => by show ( 7 + i) < 51; (repeat' split) <;> omega) (fun i j hi hj => by show ( 7 + i) = ( 7 + j) → i = j; (repeat' split) <;> omega) ?step ?fin
      case step =>
        intro L_ A_ w3 ix op_ hI ho hdep
        have hi : ix < 15 := (Array.getElem?_eq_some_iff.1 ho).1
        have hcase : ix = 0 ∨ ix = 1 ∨ ix = 2 ∨ ix = 3 ∨ ix = 4 ∨ ix = 5 ∨ ix = 6 ∨ ix = 7 ∨ ix = 8 ∨ ix = 9 ∨ ix = 10 ∨ ix = 11 ∨ ix = 12 ∨ ix = 13 ∨ ix = 14 := by omega
        have hh := hI.held
        clear hi
        rcases hcase with rfl | rfl | rfl | rfl | rfl | rfl | rfl | rfl | rfl | rfl | rfl | rfl | rfl | rfl | rfl
        · simp only [List.getElem?_toArray, List.getElem?_cons_zero, Option.some.injEq] at ho
          subst ho
          refine ⟨rfl, ?_⟩
          have e5 : A_.tmps[5]?.getD undef = .int .i64 (k : Int) := by rw [hI.low 5 (by decide)]; rfl
          clear hI hdep
          exact .run rfl (.int .i64 (k : Int)) w3 (by simp [execOp, go_sem, Act.eval, e5]) (Below.refl _ _) rfl
        · simp only [List.getElem?_toArray, List.getElem?_cons_succ, List.getElem?_cons_zero, Option.some.injEq] at ho
          subst ho
          refine ⟨rfl, ?_⟩
          have e0 : A_.tmps[0]?.getD undef = .slice (some ⟨g, 0, none⟩) n c := by rw [hI.low 0 (by decide)]; rfl
          clear hI hdep
          exact .run rfl (.slice (some ⟨g, 0, none⟩) n c) w3 (by simp [execOp, go_sem, Act.eval, e0]) (Below.refl _ _) rfl
        · simp only [List.getElem?_toArray, List.getElem?_cons_succ, List.getElem?_cons_zero, Option.some.injEq] at ho
          subst ho
          refine ⟨rfl, ?_⟩
          have e8 : A_.tmps[8]?.getD undef = .slice (some ⟨g, 0, none⟩) n c := getD_of (hI.val_ (i := 1) rfl rfl (by decide) (hdep ⟨1, .data⟩ (by simp) rfl))
          clear hI hdep
          exact .run rfl (.int .i64 (n : Int)) w3 (by simp [go_sem, Act.eval, e8]) (Below.refl _ _) rfl
        · simp only [List.getElem?_toArray, List.getElem?_cons_succ, List.getElem?_cons_zero, Option.some.injEq] at ho
          subst ho
          refine ⟨rfl, ?_⟩
          have e7 : A_.tmps[7]?.getD undef = .int .i64 (k : Int) := getD_of (hI.val_ (i := 0) rfl rfl (by decide) (hdep ⟨0, .data⟩ (by simp) rfl))
          have e9 : A_.tmps[9]?.getD undef = .int .i64 (n : Int) := getD_of (hI.val_ (i := 2) rfl rfl (by decide) (hdep ⟨2, .data⟩ (by simp) rfl))
          clear hI hdep
          exact .run rfl (.bool true) w3 (by simp [execOp, go_sem, Act.eval, *]) (Below.refl _ _) rfl
        · simp only [List.getElem?_toArray, List.getElem?_cons_succ, List.getElem?_cons_zero, Option.some.injEq] at ho
          subst ho
          refine ⟨rfl, ?_⟩
          have e10 : A_.tmps[10]?.getD undef = .bool true := getD_of (hI.val_ (i := 3) rfl rfl (by decide) (hdep ⟨3, .data⟩ (by simp) rfl))
          clear hI hdep
          exact .run rfl (.bool true) w3 (by simp [execOp, go_sem, Act.eval, e10]) (Below.refl _ _) rfl
        · simp only [List.getElem?_toArray, List.getElem?_cons_succ, List.getElem?_cons_zero, Option.some.injEq] at ho
          subst ho
          refine ⟨rfl, ?_⟩
          have q11 : A_.tmps[11]? = some (.bool true) := hI.val_ (i := 4) rfl rfl (by decide) (hdep ⟨4, .guard⟩ (by simp) rfl)
          have e0 : A_.tmps[0]?.getD undef = .slice (some ⟨g, 0, none⟩) n c := by rw [hI.low 0 (by decide)]; rfl
          clear hI hdep
          exact .run ((wanted_some rfl rfl q11).trans rfl) (.slice (some ⟨g, 0, none⟩) n c) w3 (by simp [execOp, go_sem, Act.eval, e0]) (Below.refl _ _) rfl
        · simp only [List.getElem?_toArray, List.getElem?_cons_succ, List.getElem?_cons_zero, Option.some.injEq] at ho
          subst ho
          refine ⟨rfl, ?_⟩
          have q11 : A_.tmps[11]? = some (.bool true) := hI.val_ (i := 4) rfl rfl (by decide) (hdep ⟨4, .guard⟩ (by simp) rfl)
          have e5 : A_.tmps[5]?.getD undef = .int .i64 (k : Int) := by rw [hI.low 5 (by decide)]; rfl
          clear hI hdep
          exact .run ((wanted_some rfl rfl q11).trans rfl) (.int .i64 (k : Int)) w3 (by simp [execOp, go_sem, Act.eval, e5]) (Below.refl _ _) rfl
        · simp only [List.getElem?_toArray, List.getElem?_cons_succ, List.getElem?_cons_zero, Option.some.injEq] at ho
          subst ho
          refine ⟨rfl, ?_⟩
          have q11 : A_.tmps[11]? = some (.bool true) := hI.val_ (i := 4) rfl rfl (by decide) (hdep ⟨4, .guard⟩ (by simp) rfl)
          have e12 : A_.tmps[12]?.getD undef = .slice (some ⟨g, 0, none⟩) n c := getD_of (hI.val_ (i := 5) rfl rfl (by decide) (hdep ⟨5, .data⟩ (by simp) rfl))
          have e13 : A_.tmps[13]?.getD undef = .int .i64 (k : Int) := getD_of (hI.val_ (i := 6) rfl rfl (by decide) (hdep ⟨6, .data⟩ (by simp) rfl))
          clear hI hdep
          exact .run ((wanted_some rfl rfl q11).trans rfl) (.pointer (some ⟨g, k * 6, none⟩)) w3 (by simp [execOp, go_sem, Act.eval, e12, e13]; omega) (Below.refl _ _) rfl
        · simp only [List.getElem?_toArray, List.getElem?_cons_succ, List.getElem?_cons_zero, Option.some.injEq] at ho
          subst ho
          refine ⟨rfl, ?_⟩
          have q11 : A_.tmps[11]? = some (.bool true) := hI.val_ (i := 4) rfl rfl (by decide) (hdep ⟨4, .guard⟩ (by simp) rfl)
          have e14 : A_.tmps[14]?.getD undef = .pointer (some ⟨g, k * 6, none⟩) := getD_of (hI.val_ (i := 7) rfl rfl (by decide) (hdep ⟨7, .data⟩ (by simp) rfl))
          clear hI hdep
          exact .run ((wanted_some rfl rfl q11).trans rfl) (.pointer (some ⟨g, k * 6, none⟩)) w3 (by simp [execOp, go_sem, Act.eval, e14]) (Below.refl _ _) rfl
        · simp only [List.getElem?_toArray, List.getElem?_cons_succ, List.getElem?_cons_zero, Option.some.injEq] at ho
          subst ho
          refine ⟨rfl, ?_⟩
          have q11 : A_.tmps[11]? = some (.bool true) := hI.val_ (i := 4) rfl rfl (by decide) (hdep ⟨4, .guard⟩ (by simp) rfl)
          have e15 : A_.tmps[15]?.getD undef = .pointer (some ⟨g, k * 6, none⟩) := getD_of (hI.val_ (i := 8) rfl rfl (by decide) (hdep ⟨8, .data⟩ (by simp) rfl))
          clear hI hdep
          obtain ⟨x0, x1, x2, x3, x4, x5⟩ := HXK.out w3 (HV.out.trans (hh.mono HV.out.size))
          exact .run ((wanted_some rfl rfl q11).trans rfl) (.agg #[.int .i64 x.1.c, .int .i64 x.1.h, .int .i64 x.1.t, .int .i64 x.1.k, .int .i64 x.1.i]) w3 (by simp [execOp, go_sem, Act.eval, *]) (Below.refl _ _) rfl
        · simp only [List.getElem?_toArray, List.getElem?_cons_succ, List.getElem?_cons_zero, Option.some.injEq] at ho
          subst ho
          refine ⟨rfl, ?_⟩
          have q11 : A_.tmps[11]? = some (.bool true) := hI.val_ (i := 4) rfl rfl (by decide) (hdep ⟨4, .guard⟩ (by simp) rfl)
          have e3 : A_.tmps[3]?.getD undef = .pointer (some ⟨w.heap.size, 0, none⟩) := by rw [hI.low 3 (by decide)]; rfl
          clear hI hdep
          exact .run ((wanted_some rfl rfl q11).trans rfl) (.pointer (some ⟨w.heap.size, 0, none⟩)) w3 (by simp [execOp, go_sem, Act.eval, e3]) (Below.refl _ _) rfl
        · simp only [List.getElem?_toArray, List.getElem?_cons_succ, List.getElem?_cons_zero, Option.some.injEq] at ho
          subst ho
          refine ⟨rfl, ?_⟩
          have q11 : A_.tmps[11]? = some (.bool true) := hI.val_ (i := 4) rfl rfl (by decide) (hdep ⟨4, .guard⟩ (by simp) rfl)
          have e17 : A_.tmps[17]?.getD undef = .pointer (some ⟨w.heap.size, 0, none⟩) := getD_of (hI.val_ (i := 10) rfl rfl (by decide) (hdep ⟨10, .data⟩ (by simp) rfl))
          clear hI hdep
          obtain ⟨p0, p1, p2, p3, p4, p5⟩ := HK.out w3 (HV.out.trans (hh.mono HV.out.size))
          exact .run ((wanted_some rfl rfl q11).trans rfl) (.agg #[.int .i64 a.1.c, .int .i64 a.1.h, .int .i64 a.1.t, .int .i64 a.1.k, .int .i64 a.1.i]) w3 (by simp [execOp, go_sem, Act.eval, *]) (Below.refl _ _) rfl
        · simp only [List.getElem?_toArray, List.getElem?_cons_succ, List.getElem?_cons_zero, Option.some.injEq] at ho
          subst ho
          refine ⟨rfl, ?_⟩
          have q11 : A_.tmps[11]? = some (.bool true) := hI.val_ (i := 4) rfl rfl (by decide) (hdep ⟨4, .guard⟩ (by simp) rfl)
          have e16 : A_.tmps[16]?.getD undef = .agg #[.int .i64 x.1.c, .int .i64 x.1.h, .int .i64 x.1.t, .int .i64 x.1.k, .int .i64 x.1.i] := getD_of (hI.val_ (i := 9) rfl rfl (by decide) (hdep ⟨9, .data⟩ (by simp) rfl))
          have e18 : A_.tmps[18]?.getD undef = .agg #[.int .i64 a.1.c, .int .i64 a.1.h, .int .i64 a.1.t, .int .i64 a.1.k, .int .i64 a.1.i] := getD_of (hI.val_ (i := 11) rfl rfl (by decide) (hdep ⟨11, .data⟩ (by simp) rfl))
          clear hI hdep
          exact .call ((wanted_some rfl rfl q11).trans rfl) 60 #[.agg #[.int .i64 x.1.c, .int .i64 x.1.h, .int .i64 x.1.t, .int .i64 x.1.k, .int .i64 x.1.i], .agg #[.int .i64 a.1.c, .int .i64 a.1.h, .int .i64 a.1.t, .int .i64 a.1.k, .int .i64 a.1.i]] (by simp [go_sem, Act.eval, e16, e18]) ((HC.out w3).mono fun _ _ ⟨h1_, h2_⟩ => ⟨⟨_, h1_, rfl⟩, h2_⟩)
        · simp only [List.getElem?_toArray, List.getElem?_cons_succ, List.getElem?_cons_zero, Option.some.injEq] at ho
          subst ho
          refine ⟨rfl, ?_⟩
          have q11 : A_.tmps[11]? = some (.bool true) := hI.val_ (i := 4) rfl rfl (by decide) (hdep ⟨4, .guard⟩ (by simp) rfl)
          have e19 : A_.tmps[19]?.getD undef = .int .i64 r := getD_of (hI.val_ (i := 12) rfl rfl (by decide) (hdep ⟨12, .data⟩ (by simp) rfl))
          clear hI hdep
          exact .run ((wanted_some rfl rfl q11).trans rfl) (.bool b) w3 (by simp [execOp, go_sem, Act.eval, *]) (Below.refl _ _) rfl
        · simp only [List.getElem?_toArray, List.getElem?_cons_succ, List.getElem?_cons_zero, Option.some.injEq] at ho
          subst ho
          refine ⟨rfl, ?_⟩
          have e11 : A_.tmps[11]?.getD undef = .bool true := getD_of (hI.val_ (i := 4) rfl rfl (by decide) (hdep ⟨4, .data⟩ (by simp) rfl))
          have e20 : A_.tmps[20]?.getD undef = .bool b := getD_of (hI.val_ (i := 13) rfl rfl (by decide) (hdep ⟨13, .data⟩ (by simp) rfl))
          clear hI hdep
          exact .run rfl (.bool b) w3 (by simp [execOp, go_sem, Act.eval, e11, e20]) (Below.refl _ _) rfl
      case fin =>
      intro A_ w3 hs hd hlow hS hok
      obtain rfl : A_ = ⟨#[.slice (some ⟨g, 0, none⟩) n c, anV a, undef, .pointer (some ⟨w.heap.size, 0, none⟩), .slice none 0 0, .int .i64 (k : Int), undef, .int .i64 (k : Int), .slice (some ⟨g, 0, none⟩) n c, .int .i64 (n : Int), .bool true, .bool true, .slice (some ⟨g, 0, none⟩) n c, .int .i64 (k : Int), .pointer (some ⟨g, k * 6, none⟩), .pointer (some ⟨g, k * 6, none⟩), .agg #[.int .i64 x.1.c, .int .i64 x.1.h, .int .i64 x.1.t, .int .i64 x.1.k, .int .i64 x.1.i], .pointer (some ⟨w.heap.size, 0, none⟩), .agg #[.int .i64 a.1.c, .int .i64 a.1.h, .int .i64 a.1.t, .int .i64 a.1.k, .int .i64 a.1.i], .int .i64 r, .bool b, .bool b, u22, u23, undef, undef, undef, undef, undef, undef, undef, undef, undef, undef, undef, undef, undef, undef, undef, undef, undef, undef, undef, undef, undef, undef, undef, undef, undef, undef, undef], []⟩ := act_ext hd hs (fun j hj => match j, hj with | 0, _ => (hlow 0 (by decide)).trans rfl | 1, _ => (hlow 1 (by decide)).trans rfl | 2, _ => (hlow 2 (by decide)).trans rfl | 3, _ => (hlow 3 (by decide)).trans rfl | 4, _ => (hlow 4 (by decide)).trans rfl | 5, _ => (hlow 5 (by decide)).trans rfl | 6, _ => (hlow 6 (by decide)).trans rfl | 7, _ => RgX.val_at (hok 0 7 _ (by decide) rfl rfl) | 8, _ => RgX.val_at (hok 1 8 _ (by decide) rfl rfl) | 9, _ => RgX.val_at (hok 2 9 _ (by decide) rfl rfl) | 10, _ => RgX.val_at (hok 3 10 _ (by decide) rfl rfl) | 11, _ => RgX.val_at (hok 4 11 _ (by decide) rfl rfl) | 12, _ => RgX.val_at (hok 5 12 _ (by decide) rfl rfl) | 13, _ => RgX.val_at (hok 6 13 _ (by decide) rfl rfl) | 14, _ => RgX.val_at (hok 7 14 _ (by decide) rfl rfl) | 15, _ => RgX.val_at (hok 8 15 _ (by decide) rfl rfl) | 16, _ => RgX.val_at (hok 9 16 _ (by decide) rfl rfl) | 17, _ => RgX.val_at (hok 10 17 _ (by decide) rfl rfl) | 18, _ => RgX.val_at (hok 11 18 _ (by decide) rfl rfl) | 19, _ => RgX.val_at (hok 12 19 _ (by decide) rfl rfl) | 20, _ => RgX.val_at (hok 13 20 _ (by decide) rfl rfl) | 21, _ => RgX.val_at (hok 14 21 _ (by decide) rfl rfl) | 22, _ => (hlow 22 (by decide)).trans rfl | 23, _ => (hlow 23 (by decide)).trans rfl | 24, _ => (hlow 24 (by decide)).trans rfl | 25, _ => (hlow 25 (by decide)).trans rfl | 26, _ => (hlow 26 (by decide)).trans rfl | 27, _ => (hlow 27 (by decide)).trans rfl | 28, _ => (hlow 28 (by decide)).trans rfl | 29, _ => (hlow 29 (by decide)).trans rfl | 30, _ => (hlow 30 (by decide)).trans rfl | 31, _ => (hlow 31 (by decide)).trans rfl | 32, _ => (hlow 32 (by decide)).trans rfl | 33, _ => (hlow 33 (by decide)).trans rfl | 34, _ => (hlow 34 (by decide)).trans rfl | 35, _ => (hlow 35 (by decide)).trans rfl | 36, _ => (hlow 36 (by decide)).trans rfl | 37, _ => (hlow 37 (by decide)).trans rfl | 38, _ => (hlow 38 (by decide)).trans rfl | 39, _ => (hlow 39 (by decide)).trans rfl | 40, _ => (hlow 40 (by decide)).trans rfl | 41, _ => (hlow 41 (by decide)).trans rfl | 42, _ => (hlow 42 (by decide)).trans rfl | 43, _ => (hlow 43 (by decide)).trans rfl | 44, _ => (hlow 44 (by decide)).trans rfl | 45, _ => (hlow 45 (by decide)).trans rfl | 46, _ => (hlow 46 (by decide)).trans rfl | 47, _ => (hlow 47 (by decide)).trans rfl | 48, _ => (hlow 48 (by decide)).trans rfl | 49, _ => (hlow 49 (by decide)).trans rfl | 50, _ => (hlow 50 (by decide)).trans rfl | n + 51, h => absurd h (by show ¬ n + 51 < 51; omega))
      clear hs hd hlow hok 
      have HV3 := Lib.hid (HV.out.trans (hS.mono HV.out.size))
      clear hS HV
      cases b with
      | true =>
        have HN := Lib.hid (HQ.out.trans (TP.put_lt HXX.out (of_decide_eq_true HBB.out)))
        clear HQ
        go_wp2_with fail
        go_roundw
        case rel => exact ⟨k + 1, by omega, by go_num, HN, HV3⟩
        case measure => simp [intOf]; omega
      | false =>
        have hnl : ¬ TP.ltQ x.1 a.1 := of_decide_eq_false HBB.out
        obtain ⟨x0, x1, x2, x3, x4, x5⟩ := HXK.out w3 HV3.out
        obtain ⟨p0, p1, p2, p3, p4, p5⟩ := HK.out w3 HV3.out
        have heq : ∀ V, (binOp .eql 30 (quV x.1) (quV a.1)).run Try.prog V = .ok (.bool (decide (x.1 = a.1))) V := fun V => eqQ_any x.1 a.1 V
        by_cases hxa : x.1 = a.1
        · have dq : decide (x.1 = a.1) = true := decide_eq_true hxa
          simp only [dq] at heq
          have HN := Lib.hid (HQ.out.trans (TP.put_at HXX.out hnl hxa))
          clear HQ hxa dq
          go_wp2_with (go_quiet (fail))
          go_ret
          have hb3 : Below U.heap.size U (w3.drewN nq) := HV3.out.trans ((drewN_below w3 nq).mono HV3.out.size)
          have hsz := hb3.size
          exact ⟨⟨_, n, c, rfl, hnc, by rw [HN.out]; exact ⟨HL.out, fun _ => ⟨g, rfl, by omega, fun j x h => HX.out _ hb3 j x h⟩⟩⟩, HB.out.trans (hb3.mono HB.out.size)⟩
        · have dq : decide (x.1 = a.1) = false := decide_eq_false hxa
          simp only [dq] at heq
          have HN := Lib.hid (HQ.out.trans (TP.put_new HXX.out hnl hxa))
          clear HQ hxa dq
          go_upto_region 7 with (go_quiet (fail))
          clear heq x0 x1 x2 x3 x4 x5 HC HBB HXK hb
          have hv6 : Below U.heap.size U (w3.drewN nq) := HV3.out.trans ((drewN_below w3 nq).mono HV3.out.size)
          obtain ⟨w6, h6⟩ : ∃ W, W = w3.drewN nq := ⟨_, rfl⟩
          rw [← h6] at hv6 ⊢
          have HV6 := Lib.hid hv6
          clear hv6
          clear p0 p1 p2 p3 p4 p5 h6
          have s6 := HV6.out.size
          have hkc : k ≤ c := by omega
          go_upto_region 9 with (at_builtin; refine RgX.wpList_append_any rfl _ _ 24 rfl U.heap.size 71 i0 _ 6 48 Try.underlying24 hi0 hz0 hs0 hb0 rfl (by decide) (.slice none 0 0) 0 [] rfl (World.ownsRow_nil _ _ _ _) (some ⟨g, 0, none⟩) k c (TP.ansC ((l.drop 0).take k)) rfl (by rw [TP.ansC_len, List.drop_zero, List.length_take, HL.out]; congr 1; omega) (.inr ⟨_, rfl, src_part (d := 0) (fun j x h => HX.out w6 HV6.out j x h)⟩) (TP.ansC_one _) (by simp only [maxLen]; omega) (by omega) s6 ?_; intro B7 c7 w7 own7 gr7)
          have hb7 := HV6.out.grown gr7 s6 (fun b e => by cases e)
          obtain ⟨p0, p1, p2, p3, p4, p5⟩ := HK.out w7 hb7
          have s7 := hb7.size
          have HX7 := Lib.hid (fun j x h => HX.out w7 hb7 j x h)
          have HV7 := Lib.hid hb7
          clear hb7 gr7
          rw [Nat.zero_add, List.nil_append] at own7
          have own7' := own7.alloc (.cells (TP.anC a).toArray 71)
          go_upto_region 10 with (at_builtin; refine RgX.wpList_append_any rfl _ _ 24 rfl U.heap.size 71 i0 _ 6 48 Try.underlying24 hi0 hz0 hs0 hb0 rfl (by decide) _ _ _ rfl own7' (some ⟨w7.heap.size, 0, none⟩) 1 1 (TP.anC a) rfl rfl (.inr ⟨_, rfl, World.news_of_block (World.alloc_heap_new w7 _)⟩) (fun u hu => by simp [TP.anC] at hu; rcases hu with rfl | rfl | rfl | rfl | rfl | rfl <;> rfl) (by simp only [maxLen]; omega) (by omega) (by simp; omega) ?_; intro B8 c8 w8 own8 gr8)
          have hb8 := (HV7.out.alloc s7 (.cells (TP.anC a).toArray 71)).grown gr8 (by simp; omega) (fun b e => (own7'.lt b e).1)
          have s8 := hb8.size
          have HV8 := Lib.hid hb8
          clear hb8 gr8 p0 p1 p2 p3 p4 p5 own7 own7'
          go_wp2_with (at_builtin; refine RgX.wpList_append_any rfl _ _ 24 rfl U.heap.size 71 i0 _ 6 48 Try.underlying24 hi0 hz0 hs0 hb0 rfl (by decide) _ _ _ rfl own8 (some ⟨g, k * 6, none⟩) (n - k) (c - k) (TP.ansC ((l.drop k).take (n - k))) rfl (by rw [TP.ansC_len, List.length_take, List.length_drop, HL.out, Nat.min_self]) (.inr ⟨_, rfl, src_part (fun j x h => HX.out w8 HV8.out j x h)⟩) (TP.ansC_one _) (by simp only [maxLen]; omega) (by omega) s8 ?_; intro B9 c9 w9 own9 gr9)
          have hL := HL.out
          have hb9 := HV8.out.grown gr9 s8 (fun b e => (own8.lt b e).1)
          have hlist : TP.ansC ((l.drop 0).take k) ++ TP.anC a ++ TP.ansC ((l.drop k).take (n - k)) = TP.ansC (TP.putA l a) := by
            rw [HN.out, TP.ansC_app, TP.ansC_app, List.drop_zero, List.take_of_length_le (l := l.drop k) (by rw [List.length_drop]; omega)]
            simp [TP.ansC]
          rw [hlist] at own9
          obtain ⟨hans, hcap⟩ := ans_of_own own9 (by rw [HN.out, List.length_append, List.length_append, List.length_take, List.length_drop]; simp; omega)
          go_ret
          exact ⟨⟨B9, _, c9, rfl, hcap, hans⟩, HB.out.trans (hb9.mono HB.out.size)⟩
    · have dk : decide (k < n) = false := decide_eq_false hin
      have HN := Lib.hid (show TP.putA l a = l.take k ++ [a] ++ l.drop k from by rw [HQ.out, List.drop_eq_nil_of_le (by have := HL.out; omega), List.append_nil]; rfl)
      clear HQ
      go_upto_region 7 with (go_quiet (fail))
      have hv6 : Below U.heap.size U (wr.drewN nq) := HV.out.trans ((drewN_below wr nq).mono HV.out.size)
      obtain ⟨w6, h6⟩ : ∃ W, W = wr.drewN nq := ⟨_, rfl⟩
      rw [← h6] at hv6 ⊢
      have HV6 := Lib.hid hv6
      clear hv6
      clear h6
      have s6 := HV6.out.size
      have hkc : k ≤ c := by omega
      go_upto_region 9 with (at_builtin; refine RgX.wpList_append_any rfl _ _ 24 rfl U.heap.size 71 i0 _ 6 48 Try.underlying24 hi0 hz0 hs0 hb0 rfl (by decide) (.slice none 0 0) 0 [] rfl (World.ownsRow_nil _ _ _ _) (some ⟨g, 0, none⟩) k c (TP.ansC ((l.drop 0).take k)) rfl (by rw [TP.ansC_len, List.drop_zero, List.length_take, HL.out]; congr 1; omega) (.inr ⟨_, rfl, src_part (d := 0) (fun j x h => HX.out w6 HV6.out j x h)⟩) (TP.ansC_one _) (by simp only [maxLen]; omega) (by omega) s6 ?_; intro B7 c7 w7 own7 gr7)
      have hb7 := HV6.out.grown gr7 s6 (fun b e => by cases e)
      obtain ⟨p0, p1, p2, p3, p4, p5⟩ := HK.out w7 hb7
      have s7 := hb7.size
      have HX7 := Lib.hid (fun j x h => HX.out w7 hb7 j x h)
      have HV7 := Lib.hid hb7
      clear hb7 gr7
      rw [Nat.zero_add, List.nil_append] at own7
      have own7' := own7.alloc (.cells (TP.anC a).toArray 71)
      go_upto_region 10 with (at_builtin; refine RgX.wpList_append_any rfl _ _ 24 rfl U.heap.size 71 i0 _ 6 48 Try.underlying24 hi0 hz0 hs0 hb0 rfl (by decide) _ _ _ rfl own7' (some ⟨w7.heap.size, 0, none⟩) 1 1 (TP.anC a) rfl rfl (.inr ⟨_, rfl, World.news_of_block (World.alloc_heap_new w7 _)⟩) (fun u hu => by simp [TP.anC] at hu; rcases hu with rfl | rfl | rfl | rfl | rfl | rfl <;> rfl) (by simp only [maxLen]; omega) (by omega) (by simp; omega) ?_; intro B8 c8 w8 own8 gr8)
      have hb8 := (HV7.out.alloc s7 (.cells (TP.anC a).toArray 71)).grown gr8 (by simp; omega) (fun b e => (own7'.lt b e).1)
      have s8 := hb8.size
      have HV8 := Lib.hid hb8
      clear hb8 gr8 p0 p1 p2 p3 p4 p5 own7 own7'
      by_cases hkc2 : k < c
      · go_wp2_with (at_builtin; refine RgX.wpList_append_any rfl _ _ 24 rfl U.heap.size 71 i0 _ 6 48 Try.underlying24 hi0 hz0 hs0 hb0 rfl (by decide) _ _ _ rfl own8 (some ⟨g, k * 6, none⟩) (n - k) (c - k) (TP.ansC ((l.drop k).take (n - k))) rfl (by rw [TP.ansC_len, List.length_take, List.length_drop, HL.out, Nat.min_self]) (.inr ⟨_, rfl, src_part (fun j x h => HX.out w8 HV8.out j x h)⟩) (TP.ansC_one _) (by simp only [maxLen]; omega) (by omega) s8 ?_; intro B9 c9 w9 own9 gr9)
        have hL := HL.out
        have hb9 := HV8.out.grown gr9 s8 (fun b e => (own8.lt b e).1)
        have hlist : TP.ansC ((l.drop 0).take k) ++ TP.anC a ++ TP.ansC ((l.drop k).take (n - k)) = TP.ansC (TP.putA l a) := by
          rw [HN.out, TP.ansC_app, TP.ansC_app, List.drop_zero, List.take_of_length_le (l := l.drop k) (by rw [List.length_drop]; omega)]
          simp [TP.ansC]
        rw [hlist] at own9
        obtain ⟨hans, hcap⟩ := ans_of_own own9 (by rw [HN.out, List.length_append, List.length_append, List.length_take, List.length_drop]; simp; omega)
        go_ret
        exact ⟨⟨B9, _, c9, rfl, hcap, hans⟩, HB.out.trans (hb9.mono HB.out.size)⟩
      · have hkc3 : k = c := by omega
        go_wp2_with (at_builtin; refine RgX.wpList_append_any rfl _ _ 24 rfl U.heap.size 71 i0 _ 6 48 Try.underlying24 hi0 hz0 hs0 hb0 rfl (by decide) _ _ _ rfl own8 (some ⟨g, 0, none⟩) 0 0 [] rfl rfl (.inr ⟨_, rfl, fun j u h => by simp at h⟩) (fun u h => by simp at h) (by simp only [maxLen]; omega) (by omega) s8 ?_; intro B9 c9 w9 own9 gr9)
        have hL := HL.out
        have hb9 := HV8.out.grown gr9 s8 (fun b e => (own8.lt b e).1)
        have hlist : TP.ansC ((l.drop 0).take k) ++ TP.anC a ++ [] = TP.ansC (TP.putA l a) := by
          rw [HN.out, TP.ansC_app, TP.ansC_app, List.drop_zero, show l.drop k = [] from List.drop_eq_nil_of_le (by omega)]
          simp [TP.ansC]
        rw [hlist] at own9
        obtain ⟨hans, hcap⟩ := ans_of_own own9 (by rw [HN.out, List.length_append, List.length_append, List.length_take, List.length_drop]; simp; omega)
        go_ret
        exact ⟨⟨B9, c + 1, c9, rfl, by omega, by rw [show c + 1 = k + 1 + 0 by omega]; exact hans⟩, HB.out.trans (hb9.mono HB.out.size)⟩
end Go.Proofs.Ytiokiecnglmbnaa
