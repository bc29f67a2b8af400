/-
  The walk of NamesSteps: the program orders two steps as the reference does. Condition: the listed tables and variables stand (TN).
-/
import Derived.Test.YtggallpnbbidfaaGreatDoorNmSc
import Derived.Test.YtggallpnbbidfaaGreatDoorNmL
import Derived.Test.YtggallpnbbidfaaGreatDoorLaidN
import Derived.Deep.Cut
namespace Go.Proofs.YtggallpnbbidfaaGreatDoor.LawNamesSteps
open Go Go.RowKit Go.Proofs Go.Proofs.YtggallpnbbidfaaGreatDoor
attribute [local go_sem] Oper.semAt_some

theorem step_at {A : Option Addr} {n c : Nat} {z : List Int} (w : World) (hz : Ints .i64 w.heap.size w A n z) (h64 : ∀ x ∈ z, I64 x) {ek en ea ec eh et ei ep : Int} {m : Nat} {l : List (NM.Qu × Int)} (hE : NM.stepEv z = ⟨ek, en, ea, ⟨ec, eh, et, ei, ep⟩⟩) (hm : NM.stepN z = m) (hl : NM.stepAsks z (NM.stepN z) = l) :
    Calls Tryz.prog 6 #[.slice A n c] w fun e w' => ∃ B c', e = .returned (.agg #[.int .i64 ek, .int .i64 en, .int .i64 ea, .int .i64 ec, .int .i64 eh, .int .i64 et, .int .i64 ei, .int .i64 ep, .slice B m c', .bool false, .slice none 0 0]) ∧ AsksOwn w' w.heap.size B m c' l ∧ Below w.heap.size w w' := by
  refine (stepOf_any w hz h64).mono ?_
  rintro e w' ⟨B, c', he, ho, hb⟩
  rw [hE, hm] at he
  rw [hl, hm] at ho
  exact ⟨B, c', he, ho, hb⟩
theorem cs_eq (e f : NM.Ev) (l r : List (NM.Qu × Int)) : NM.orI (NM.lexL (NM.evL e) (NM.evL f)) (NM.cmpAsks l r) = NM.lexL (NM.stepL e l) (NM.stepL f r) := NM.step_eq e f l r
theorem own_cap {w : World} {base m c : Nat} {B : Option Addr} {l : List (NM.Qu × Int)} (h : AsksOwn w base B m c l) : m ≤ c ∧ ((B = none ∧ c = 0) ∨ ∃ g, B = some ⟨g, 0, none⟩) := by
  rcases h.2.2 with ⟨h1, h2⟩ | ⟨g, cap, cur, h1, _, _, h3, _⟩
  · injection h1 with h1 h4 h5
    exact ⟨by omega, .inl ⟨h1, h5⟩⟩
  · injection h1 with h1 h4 h5
    exact ⟨by omega, .inr ⟨g, h1⟩⟩
theorem own_blk {w : World} {base m c : Nat} {B : Option Addr} {l : List (NM.Qu × Int)} (h : AsksOwn w base B m c l) (hm : 0 < m) : ∃ g cur, B = some ⟨g, 0, none⟩ ∧ base ≤ g ∧ w.heap[g]? = some (.cells cur 38 (0, 0)) ∧ cur.size = c * 7 := by
  rcases h.2.2 with ⟨h1, h2⟩ | ⟨g, cap, cur, h1, h2, h3, _, _, h4, _⟩
  · omega
  · injection h1 with h1 h5 h6
    exact ⟨g, cur, h1, h2, h3, by rw [h6]; exact h4⟩
theorem asks_take {w : World} {B : Option Addr} {m : Nat} {l : List (NM.Qu × Int)} (h : Asks w B m l) {q : Nat} (hq : q ≤ m) : Asks w B q (l.take q) := by
  refine ⟨by rw [List.length_take, h.1]; omega, fun h0 => ?_⟩
  obtain ⟨g, e, hg, hx⟩ := h.2 (by omega)
  refine ⟨g, e, hg, fun j x hj => hx j x ?_⟩
  rw [List.getElem?_take] at hj
  split at hj
  · exact hj
  · cases hj
theorem seg_get {cur : Array Value} {off : Nat} {v : Value} (hs : off + 1 ≤ cur.size) (i : Nat) : ((cur.toList.take off ++ [v] ++ cur.toList.drop (off + 1)).toArray)[i]? = if i = off then some v else cur[i]? := by
  have h1 : (cur.toList.take off).length = off := by rw [List.length_take, Array.length_toList]; omega
  rw [List.getElem?_toArray, List.append_assoc]
  by_cases h : i < off
  · rw [if_neg (by omega), List.getElem?_append_left (by omega), List.getElem?_take, if_pos h, Array.getElem?_toList]
  · rw [List.getElem?_append_right (by omega), h1]
    by_cases e : i = off
    · rw [if_pos e, e, Nat.sub_self]
      rfl
    · obtain ⟨d, rfl⟩ : ∃ d, i = off + 1 + d := ⟨i - off - 1, by omega⟩
      rw [if_neg e, show off + 1 + d - off = d + 1 by omega, List.singleton_append, List.getElem?_cons_succ, List.getElem?_drop, Array.getElem?_toList]
theorem seg_size {cur : Array Value} {off : Nat} {v : Value} (hs : off + 1 ≤ cur.size) : ((cur.toList.take off ++ [v] ++ cur.toList.drop (off + 1)).toArray).size = cur.size := by
  simp only [List.size_toArray, List.length_append, List.length_take, List.length_drop, Array.length_toList, List.length_cons, List.length_nil]
  omega
theorem asks_put {w w' : World} {g m : Nat} {l : List (NM.Qu × Int)} {cur : Array Value} {t : TypeId} {off : Nat} {v : Int} (hA : Asks w (some ⟨g, 0, none⟩) m l) (hm : 0 < m) (hg : w.heap[g]? = some (.cells cur t (0, 0))) (hs : off + 1 ≤ cur.size)
    (h' : w'.heap[g]? = some (.cells ((cur.toList.take off ++ [Value.int .i64 v] ++ cur.toList.drop (off + 1)).toArray) t (0, 0))) : ∃ l', Asks w' (some ⟨g, 0, none⟩) m l' := by
  obtain ⟨g2, e, hgl, hx⟩ := hA.2 hm
  injection e with e
  injection e with e
  subst e
  have put : ∀ {i : Nat} {y : Int}, w.cell? ⟨g, i, none⟩ = some (.int .i64 y) → ∃ y', w'.cell? ⟨g, i, none⟩ = some (.int .i64 y') := fun {i y} h => by
    rw [cell_of_row w' g i _ _ (0, 0) h', seg_get hs]
    rw [cell_of_row w g i _ _ (0, 0) hg] at h
    split
    · exact ⟨v, rfl⟩
    · exact ⟨y, h⟩
  have at_ : ∀ j : Nat, ∃ x : NM.Qu × Int, j < m → AskAt w' g j x := fun j => by
    by_cases hj : j < m
    · obtain ⟨x, hxj⟩ : ∃ x, l[j]? = some x := ⟨_, List.getElem?_eq_getElem (by rw [hA.1]; exact hj)⟩
      obtain ⟨r, h0, h1, h2, h3, h4, h5, h6⟩ := hx j x hxj
      obtain ⟨y0, k0⟩ := put h0
      obtain ⟨y1, k1⟩ := put h1
      obtain ⟨y2, k2⟩ := put h2
      obtain ⟨y3, k3⟩ := put h3
      obtain ⟨y4, k4⟩ := put h4
      obtain ⟨y5, k5⟩ := put h5
      obtain ⟨y6, k6⟩ := put h6
      exact ⟨(⟨y0, y1, y2, y3, y4⟩, y6), fun _ => ⟨y5, k0, k1, k2, k3, k4, k5, k6⟩⟩
    · exact ⟨(⟨0, 0, 0, 0, 0⟩, 0), fun h => absurd h hj⟩
  refine ⟨(List.range m).map fun j => Classical.choose (at_ j), by simp, fun _ => ⟨g, rfl, heap_lt h', fun j x hj => ?_⟩⟩
  rw [List.getElem?_map] at hj
  by_cases h : j < m
  · rw [List.getElem?_range h] at hj
    injection hj with hj
    rw [← hj]
    exact Classical.choose_spec (at_ j) h
  · rw [List.getElem?_eq_none (by simpa using h)] at hj
    cases hj
theorem blk_keep {w v : World} {b : Nat} {o : Obj} (h : w.heap[b]? = some o) (hb : Below w.heap.size w v) : v.heap[b]? = some o := (hb.block b (heap_lt h)).trans h
theorem size_int : (Tryz.prog.info? 3).map (·.size) = some 1 := by kernel_rfl
theorem size_bool : (Tryz.prog.info? 4).map (·.size) = some 1 := by kernel_rfl
theorem size_msgs : (Tryz.prog.info? 30).map (·.size) = some 1 := by kernel_rfl
set_option maxHeartbeats 8000000 in
set_option maxRecDepth 100000 in
theorem walk (A1 : Option Addr) (n1 k1 : Nat) (z1 : List Int) (A2 : Option Addr) (n2 k2 : Nat) (z2 : List Int) (cut nn : Int) (w : World) (w1 : Row .i64 w A1 n1 k1 z1) (w2 : Row .i64 w A2 n2 k2 z2) (wc : I64 cut) (wn : I64 nn) (hT : TN w) :
    Calls Tryz.prog 3 #[.slice A1 n1 k1, .slice A2 n2 k2, .int .i64 cut, .int .i64 nn] w fun e w' => e = .returned (.bool true) ∧ Below w.heap.size w w' := by
  have HL := Lib.hid (fun (V : World) (hV : Below w.heap.size w V) => lives_any V (hT.below hV))
  obtain ⟨i1, _, _, q1⟩ := w1.ints
  obtain ⟨i2, _, _, q2⟩ := w2.ints
  clear w1 w2 hT
  obtain ⟨⟨ek1, en1, ea1, ⟨ec1, eh1, et1, ei1, ep1⟩⟩, hE1⟩ : ∃ E, NM.stepEv (z1.take n1) = E := ⟨_, rfl⟩
  obtain ⟨m1, hm1⟩ : ∃ m, NM.stepN (z1.take n1) = m := ⟨_, rfl⟩
  obtain ⟨l1, hl1⟩ : ∃ l, NM.stepAsks (z1.take n1) (NM.stepN (z1.take n1)) = l := ⟨_, rfl⟩
  have hm1le : m1 ≤ 3 := hm1 ▸ NM.stepN_le _
  have H1 := Lib.hid (fun (V : World) (hV : Below w.heap.size w V) => step_at (c := k1) V ((i1.below hV).more hV.size) (i64_of q1) hE1 hm1 hl1)
  clear i1 q1 hE1 hm1 hl1
  obtain ⟨⟨ek2, en2, ea2, ⟨ec2, eh2, et2, ei2, ep2⟩⟩, hE2⟩ : ∃ E, NM.stepEv (z2.take n2) = E := ⟨_, rfl⟩
  obtain ⟨m2, hm2⟩ : ∃ m, NM.stepN (z2.take n2) = m := ⟨_, rfl⟩
  obtain ⟨l2, hl2⟩ : ∃ l, NM.stepAsks (z2.take n2) (NM.stepN (z2.take n2)) = l := ⟨_, rfl⟩
  have hm2le : m2 ≤ 3 := hm2 ▸ NM.stepN_le _
  have H2 := Lib.hid (fun (V : World) (hV : Below w.heap.size w V) => step_at (c := k2) V ((i2.below hV).more hV.size) (i64_of q2) hE2 hm2 hl2)
  clear i2 q2 hE2 hm2 hl2
  have HAC := Lib.hid (fun V => (around_any cut ((m1 : Int) + 1) wc (by omega) (by omega) V).mono fun e w' (h : e = _ ∧ V = w') => (show e = .returned (.int .i64 (NM.arI cut ((m1 : Int) + 1))) ∧ Below V.heap.size V w' from ⟨h.1, h.2 ▸ Below.refl _ _⟩))
  have hq0 := NM.arI_in cut ((m1 : Int) + 1) (by omega)
  obtain ⟨q, hq⟩ : ∃ q : Nat, NM.arI cut ((m1 : Int) + 1) = (q : Int) := ⟨(NM.arI cut ((m1 : Int) + 1)).toNat, by omega⟩
  rw [hq] at HAC hq0
  have HAN := Lib.hid (fun V => (around_any nn 4 wn (by omega) (by omega) V).mono fun e w' (h : e = _ ∧ V = w') => (show e = .returned (.int .i64 (NM.arI nn 4)) ∧ Below V.heap.size V w' from ⟨h.1, h.2 ▸ Below.refl _ _⟩))
  obtain ⟨a4, ha4⟩ : ∃ a4, NM.arI nn 4 = a4 := ⟨_, rfl⟩
  rw [ha4] at HAN
  have hqm : q ≤ m1 := by omega
  clear hq ha4 hq0 wc wn
  go_enter Tryz.func3, Tryz.ntmps3
  go_wp2_with fail
  refine (H1.out _ (Below.refl _ _)).mono ?_
  rintro e v1 ⟨B1, c1, rfl, ao1, hb1⟩
  have AO1 := Lib.hid (And.intro ao1 hb1)
  clear ao1 hb1
  go_wp2_with (refine RgX.wpList_store_seg rfl 32 _ _ rfl v1.heap.size 0 (.agg #[.int .i64 ek1, .int .i64 en1, .int .i64 ea1, .int .i64 ec1, .int .i64 eh1, .int .i64 et1, .int .i64 ei1, .int .i64 ep1, .slice B1 m1 c1, .bool false, .slice none 0 0]) rfl rfl 32 #[.int .i64 0, .int .i64 0, .int .i64 0, .int .i64 0, .int .i64 0, .int .i64 0, .int .i64 0, .int .i64 0, .slice none 0 0, .bool false, .slice none 0 0] (new_at rfl) (by rw [size_step]; rfl) (by show 0 + 11 ≤ 11; omega) (by simp [Value.cells, Value.oneCell']) #[.int .i64 ek1, .int .i64 en1, .int .i64 ea1, .int .i64 ec1, .int .i64 eh1, .int .i64 et1, .int .i64 ei1, .int .i64 ep1, .slice B1 m1 c1, .bool false, .slice none 0 0] rfl ?_; intro u1 kb1 ho1 hz1 hx1)
  have hsz1 : u1.heap.size = v1.heap.size + 1 := by rw [hz1]; simp
  have hbu1 : Below v1.heap.size v1 u1 := (one_box v1 _).trans hx1
  obtain ⟨ao1, hb1⟩ := AO1.out
  have HB1 := Lib.hid (show Below w.heap.size w u1 from hb1.trans (hbu1.mono hb1.size))
  have HX1 := Lib.hid (And.intro ao1 (And.intro hb1 (And.intro hbu1 kb1)))
  clear ao1 hb1 hbu1 kb1 ho1 hz1 hx1 AO1
  refine (H2.out _ HB1.out).mono ?_
  rintro e v2 ⟨B2, c2, rfl, ao2, hb2⟩
  have AO2 := Lib.hid (And.intro ao2 hb2)
  clear ao2 hb2
  go_wp2_with (refine RgX.wpList_store_seg rfl 32 _ _ rfl v2.heap.size 0 (.agg #[.int .i64 ek2, .int .i64 en2, .int .i64 ea2, .int .i64 ec2, .int .i64 eh2, .int .i64 et2, .int .i64 ei2, .int .i64 ep2, .slice B2 m2 c2, .bool false, .slice none 0 0]) rfl rfl 32 #[.int .i64 0, .int .i64 0, .int .i64 0, .int .i64 0, .int .i64 0, .int .i64 0, .int .i64 0, .int .i64 0, .slice none 0 0, .bool false, .slice none 0 0] (new_at rfl) (by rw [size_step]; rfl) (by show 0 + 11 ≤ 11; omega) (by simp [Value.cells, Value.oneCell']) #[.int .i64 ek2, .int .i64 en2, .int .i64 ea2, .int .i64 ec2, .int .i64 eh2, .int .i64 et2, .int .i64 ei2, .int .i64 ep2, .slice B2 m2 c2, .bool false, .slice none 0 0] rfl ?_; intro u2 kb2 ho2 hz2 hx2)
  have hsz2 : u2.heap.size = v2.heap.size + 1 := by rw [hz2]; simp
  have hbu2 : Below v2.heap.size v2 u2 := (one_box v2 _).trans hx2
  obtain ⟨ao2, hb2⟩ := AO2.out
  have HB2 := Lib.hid (show Below w.heap.size w u2 from (HB1.out.trans (hb2.mono HB1.out.size)).trans (hbu2.mono (by have := HB1.out.size; have := hb2.size; omega)))
  have HX2 := Lib.hid (And.intro ao2 (And.intro hb2 (And.intro hbu2 kb2)))
  clear ao2 hb2 hbu2 kb2 ho2 hz2 hx2 AO2
  refine (H1.out _ HB2.out).mono ?_
  rintro e v3 ⟨B3, c3, rfl, ao3, hb3⟩
  have AO3 := Lib.hid (And.intro ao3 hb3)
  clear ao3 hb3
  go_wp2_with (refine RgX.wpList_store_seg rfl 32 _ _ rfl v3.heap.size 0 (.agg #[.int .i64 ek1, .int .i64 en1, .int .i64 ea1, .int .i64 ec1, .int .i64 eh1, .int .i64 et1, .int .i64 ei1, .int .i64 ep1, .slice B3 m1 c3, .bool false, .slice none 0 0]) rfl rfl 32 #[.int .i64 0, .int .i64 0, .int .i64 0, .int .i64 0, .int .i64 0, .int .i64 0, .int .i64 0, .int .i64 0, .slice none 0 0, .bool false, .slice none 0 0] (new_at rfl) (by rw [size_step]; rfl) (by show 0 + 11 ≤ 11; omega) (by simp [Value.cells, Value.oneCell']) #[.int .i64 ek1, .int .i64 en1, .int .i64 ea1, .int .i64 ec1, .int .i64 eh1, .int .i64 et1, .int .i64 ei1, .int .i64 ep1, .slice B3 m1 c3, .bool false, .slice none 0 0] rfl ?_; intro u3 kb3 ho3 hz3 hx3)
  have hsz3 : u3.heap.size = v3.heap.size + 1 := by rw [hz3]; simp
  have hbu3 : Below v3.heap.size v3 u3 := (one_box v3 _).trans hx3
  obtain ⟨ao3, hb3⟩ := AO3.out
  have HB3 := Lib.hid (show Below w.heap.size w u3 from (HB2.out.trans (hb3.mono HB2.out.size)).trans (hbu3.mono (by have := HB2.out.size; have := hb3.size; omega)))
  have HX3 := Lib.hid (And.intro ao3 (And.intro hb3 (And.intro hbu3 kb3)))
  clear ao3 hb3 hbu3 kb3 ho3 hz3 hx3 AO3
  have HC3 := Lib.hid (fun (V : World) (hV : Below u3.heap.size u3 V) => row11 ((hV.block _ (by omega)).trans HX3.out.2.2.2))
  have hq1 : IntKind.i64.wrap ((m1 : Int) + 1) = (m1 : Int) + 1 := IntWalk.i64_in _ (by omega)
  have HQ1 := Lib.hid hq1
  clear hq1
  refine RgX.tail 10 (fun i => ( 19 + i)) (fun ix_ => match ix_ with | 0 => .v (.pointer (some ⟨v3.heap.size, 8, none⟩)) | 1 => .v (.slice B3 m1 c3) | 2 => .v (.int .i64 cut) | 3 => .v (.pointer (some ⟨v3.heap.size, 8, none⟩)) | 4 => .v (.slice B3 m1 c3) | 5 => .v (.int .i64 (m1 : Int)) | 6 => .v (.int .i64 ((m1 : Int) + 1)) | 7 => .v (.int .i64 (q : Int)) | 8 => .v (.slice B3 q c3) | 9 => .v (.pointer (some ⟨v3.heap.size, 8, none⟩)) | _ => .any) _ (by kernel_rfl) rfl rfl (by kernel_rfl) (by kernel_rfl) (fun i hi => by show ( 19 + i) < 91; (repeat' split) <;> omega) (fun i j hi hj => by show ( 19 + i) = ( 19 + j) → i = j; (repeat' split) <;> omega) ?step ?fin
  case step =>
    intro L_ A_ w3 ix op_ hi hI ho hdep
    have hcase : ix = 0 ∨ ix = 1 ∨ ix = 2 ∨ ix = 3 ∨ ix = 4 ∨ ix = 5 ∨ ix = 6 ∨ ix = 7 ∨ ix = 8 ∨ ix = 9 := by omega
    have hh := hI.held
    clear hi
    rcases hcase with rfl | rfl | rfl | rfl | rfl | rfl | rfl | rfl | rfl | rfl
    · simp only [List.getElem?_toArray, List.getElem?_cons_zero, Option.some.injEq] at ho
      subst ho
      refine ⟨rfl, ?_⟩
      have e11 : A_.tmps[11]?.getD undef = .pointer (some ⟨v3.heap.size, 0, none⟩) := by rw [hI.low 11 (by decide)]; rfl
      clear hI hdep
      exact .run rfl (.pointer (some ⟨v3.heap.size, 8, none⟩)) w3 (by simp [execOp, go_sem, Act.eval, e11]) (Below.refl _ _) rfl
    · simp only [List.getElem?_toArray, List.getElem?_cons_succ, List.getElem?_cons_zero, Option.some.injEq] at ho
      subst ho
      refine ⟨rfl, ?_⟩
      have e19 : A_.tmps[19]?.getD undef = .pointer (some ⟨v3.heap.size, 8, none⟩) := getD_of (hI.val_ (i := 0) rfl rfl (by decide) (hdep ⟨0, .data⟩ (by simp) rfl))
      clear hI hdep
      obtain ⟨d0, d1, d2, d3, d4, d5, d6, d7, d8, d9, d10⟩ := HC3.out w3 hh
      exact .run rfl (.slice B3 m1 c3) w3 (by simp [execOp, go_sem, Act.eval, *]) (Below.refl _ _) rfl
    · simp only [List.getElem?_toArray, List.getElem?_cons_succ, List.getElem?_cons_zero, Option.some.injEq] at ho
      subst ho
      refine ⟨rfl, ?_⟩
      have e2 : A_.tmps[2]?.getD undef = .int .i64 cut := by rw [hI.low 2 (by decide)]; rfl
      clear hI hdep
      exact .run rfl (.int .i64 cut) w3 (by simp [execOp, go_sem, Act.eval, e2]) (Below.refl _ _) rfl
    · simp only [List.getElem?_toArray, List.getElem?_cons_succ, List.getElem?_cons_zero, Option.some.injEq] at ho
      subst ho
      refine ⟨rfl, ?_⟩
      have e11 : A_.tmps[11]?.getD undef = .pointer (some ⟨v3.heap.size, 0, none⟩) := by rw [hI.low 11 (by decide)]; rfl
      clear hI hdep
      exact .run rfl (.pointer (some ⟨v3.heap.size, 8, none⟩)) w3 (by simp [execOp, go_sem, Act.eval, e11]) (Below.refl _ _) rfl
    · simp only [List.getElem?_toArray, List.getElem?_cons_succ, List.getElem?_cons_zero, Option.some.injEq] at ho
      subst ho
      refine ⟨rfl, ?_⟩
      have e22 : A_.tmps[22]?.getD undef = .pointer (some ⟨v3.heap.size, 8, none⟩) := getD_of (hI.val_ (i := 3) rfl rfl (by decide) (hdep ⟨3, .data⟩ (by simp) rfl))
      clear hI hdep
      obtain ⟨d0, d1, d2, d3, d4, d5, d6, d7, d8, d9, d10⟩ := HC3.out w3 hh
      exact .run rfl (.slice B3 m1 c3) w3 (by simp [execOp, go_sem, Act.eval, *]) (Below.refl _ _) rfl
    · simp only [List.getElem?_toArray, List.getElem?_cons_succ, List.getElem?_cons_zero, Option.some.injEq] at ho
      subst ho
      refine ⟨rfl, ?_⟩
      have e23 : A_.tmps[23]?.getD undef = .slice B3 m1 c3 := getD_of (hI.val_ (i := 4) rfl rfl (by decide) (hdep ⟨4, .data⟩ (by simp) rfl))
      clear hI hdep
      exact .run rfl (.int .i64 (m1 : Int)) w3 (by simp [go_sem, Act.eval, e23]) (Below.refl _ _) rfl
    · simp only [List.getElem?_toArray, List.getElem?_cons_succ, List.getElem?_cons_zero, Option.some.injEq] at ho
      subst ho
      refine ⟨rfl, ?_⟩
      have e24 : A_.tmps[24]?.getD undef = .int .i64 (m1 : Int) := getD_of (hI.val_ (i := 5) rfl rfl (by decide) (hdep ⟨5, .data⟩ (by simp) rfl))
      clear hI hdep
      have h9 := HQ1.out
      exact .run rfl (.int .i64 ((m1 : Int) + 1)) w3 (by simp [execOp, go_sem, Act.eval, e24, h9]) (Below.refl _ _) rfl
    · simp only [List.getElem?_toArray, List.getElem?_cons_succ, List.getElem?_cons_zero, Option.some.injEq] at ho
      subst ho
      refine ⟨rfl, ?_⟩
      have e21 : A_.tmps[21]?.getD undef = .int .i64 cut := getD_of (hI.val_ (i := 2) rfl rfl (by decide) (hdep ⟨2, .data⟩ (by simp) rfl))
      have e25 : A_.tmps[25]?.getD undef = .int .i64 ((m1 : Int) + 1) := getD_of (hI.val_ (i := 6) rfl rfl (by decide) (hdep ⟨6, .data⟩ (by simp) rfl))
      clear hI hdep
      exact .call rfl 7 #[.int .i64 cut, .int .i64 ((m1 : Int) + 1)] (by simp [go_sem, Act.eval, e21, e25]) ((HAC.out w3).mono fun _ _ ⟨h1_, h2_⟩ => ⟨⟨_, h1_, rfl⟩, h2_⟩)
    · simp only [List.getElem?_toArray, List.getElem?_cons_succ, List.getElem?_cons_zero, Option.some.injEq] at ho
      subst ho
      refine ⟨rfl, ?_⟩
      have e20 : A_.tmps[20]?.getD undef = .slice B3 m1 c3 := getD_of (hI.val_ (i := 1) rfl rfl (by decide) (hdep ⟨1, .data⟩ (by simp) rfl))
      have e26 : A_.tmps[26]?.getD undef = .int .i64 (q : Int) := getD_of (hI.val_ (i := 7) rfl rfl (by decide) (hdep ⟨7, .data⟩ (by simp) rfl))
      clear hI hdep
      obtain ⟨hmc, hB⟩ := own_cap HX3.out.1
      have g1 : (0 : Int) ≤ q := by omega
      have g2 : (q : Int) ≤ c3 := by omega
      rcases hB with ⟨rfl, rfl⟩ | ⟨g, rfl⟩
      · (have h0 : q = 0 := (by omega)); subst h0; exact .run rfl (.slice none 0 0) w3 (by simp [execOp, go_sem, Act.eval, e20, e26]) (Below.refl _ _) rfl
      · exact .run rfl (.slice (some ⟨g, 0, none⟩) q c3) w3 (by simp [execOp, go_sem, Act.eval, e20, e26, g1, g2]) (Below.refl _ _) rfl
    · simp only [List.getElem?_toArray, List.getElem?_cons_succ, List.getElem?_cons_zero, Option.some.injEq] at ho
      subst ho
      refine ⟨rfl, ?_⟩
      have e11 : A_.tmps[11]?.getD undef = .pointer (some ⟨v3.heap.size, 0, none⟩) := by rw [hI.low 11 (by decide)]; rfl
      clear hI hdep
      exact .run rfl (.pointer (some ⟨v3.heap.size, 8, none⟩)) w3 (by simp [execOp, go_sem, Act.eval, e11]) (Below.refl _ _) rfl
  case fin =>
  intro A_ w3 hs hd hlow hS hok
  obtain rfl : A_ = ⟨#[.slice A1 n1 k1, .slice A2 n2 k2, .int .i64 cut, .int .i64 nn, undef, undef, undef, undef, .bool false, .pointer (some ⟨v1.heap.size, 0, none⟩), .pointer (some ⟨v2.heap.size, 0, none⟩), .pointer (some ⟨v3.heap.size, 0, none⟩), undef, .slice A1 n1 k1, .agg #[.int .i64 ek1, .int .i64 en1, .int .i64 ea1, .int .i64 ec1, .int .i64 eh1, .int .i64 et1, .int .i64 ei1, .int .i64 ep1, .slice B1 m1 c1, .bool false, .slice none 0 0], .slice A2 n2 k2, .agg #[.int .i64 ek2, .int .i64 en2, .int .i64 ea2, .int .i64 ec2, .int .i64 eh2, .int .i64 et2, .int .i64 ei2, .int .i64 ep2, .slice B2 m2 c2, .bool false, .slice none 0 0], .slice A1 n1 k1, .agg #[.int .i64 ek1, .int .i64 en1, .int .i64 ea1, .int .i64 ec1, .int .i64 eh1, .int .i64 et1, .int .i64 ei1, .int .i64 ep1, .slice B3 m1 c3, .bool false, .slice none 0 0], .pointer (some ⟨v3.heap.size, 8, none⟩), .slice B3 m1 c3, .int .i64 cut, .pointer (some ⟨v3.heap.size, 8, none⟩), .slice B3 m1 c3, .int .i64 (m1 : Int), .int .i64 ((m1 : Int) + 1), .int .i64 (q : Int), .slice B3 q c3, .pointer (some ⟨v3.heap.size, 8, none⟩), undef, undef, undef, undef, undef, undef, undef, undef, undef, undef, undef, undef, undef, undef, undef, undef, undef, undef, undef, undef, undef, undef, undef, undef, undef, undef, undef, undef, undef, undef, undef, undef, undef, undef, undef, undef, undef, undef, undef, undef, undef, undef, undef, undef, undef, undef, undef, undef, undef, undef, undef, undef, undef, undef, undef, undef, undef, undef, undef, undef, undef, undef], []⟩ := act_ext hd hs (fun j hj => match j, hj with | 0, _ => (hlow 0 (by decide)).trans rfl | 1, _ => (hlow 1 (by decide)).trans rfl | 2, _ => (hlow 2 (by decide)).trans rfl | 3, _ => (hlow 3 (by decide)).trans rfl | 4, _ => (hlow 4 (by decide)).trans rfl | 5, _ => (hlow 5 (by decide)).trans rfl | 6, _ => (hlow 6 (by decide)).trans rfl | 7, _ => (hlow 7 (by decide)).trans rfl | 8, _ => (hlow 8 (by decide)).trans rfl | 9, _ => (hlow 9 (by decide)).trans rfl | 10, _ => (hlow 10 (by decide)).trans rfl | 11, _ => (hlow 11 (by decide)).trans rfl | 12, _ => (hlow 12 (by decide)).trans rfl | 13, _ => (hlow 13 (by decide)).trans rfl | 14, _ => (hlow 14 (by decide)).trans rfl | 15, _ => (hlow 15 (by decide)).trans rfl | 16, _ => (hlow 16 (by decide)).trans rfl | 17, _ => (hlow 17 (by decide)).trans rfl | 18, _ => (hlow 18 (by decide)).trans rfl | 19, _ => RgX.val_at (hok 0 19 _ (by decide) rfl rfl) | 20, _ => RgX.val_at (hok 1 20 _ (by decide) rfl rfl) | 21, _ => RgX.val_at (hok 2 21 _ (by decide) rfl rfl) | 22, _ => RgX.val_at (hok 3 22 _ (by decide) rfl rfl) | 23, _ => RgX.val_at (hok 4 23 _ (by decide) rfl rfl) | 24, _ => RgX.val_at (hok 5 24 _ (by decide) rfl rfl) | 25, _ => RgX.val_at (hok 6 25 _ (by decide) rfl rfl) | 26, _ => RgX.val_at (hok 7 26 _ (by decide) rfl rfl) | 27, _ => RgX.val_at (hok 8 27 _ (by decide) rfl rfl) | 28, _ => RgX.val_at (hok 9 28 _ (by decide) rfl rfl) | 29, _ => (hlow 29 (by decide)).trans rfl | 30, _ => (hlow 30 (by decide)).trans rfl | 31, _ => (hlow 31 (by decide)).trans rfl | 32, _ => (hlow 32 (by decide)).trans rfl | 33, _ => (hlow 33 (by decide)).trans rfl | 34, _ => (hlow 34 (by decide)).trans rfl | 35, _ => (hlow 35 (by decide)).trans rfl | 36, _ => (hlow 36 (by decide)).trans rfl | 37, _ => (hlow 37 (by decide)).trans rfl | 38, _ => (hlow 38 (by decide)).trans rfl | 39, _ => (hlow 39 (by decide)).trans rfl | 40, _ => (hlow 40 (by decide)).trans rfl | 41, _ => (hlow 41 (by decide)).trans rfl | 42, _ => (hlow 42 (by decide)).trans rfl | 43, _ => (hlow 43 (by decide)).trans rfl | 44, _ => (hlow 44 (by decide)).trans rfl | 45, _ => (hlow 45 (by decide)).trans rfl | 46, _ => (hlow 46 (by decide)).trans rfl | 47, _ => (hlow 47 (by decide)).trans rfl | 48, _ => (hlow 48 (by decide)).trans rfl | 49, _ => (hlow 49 (by decide)).trans rfl | 50, _ => (hlow 50 (by decide)).trans rfl | 51, _ => (hlow 51 (by decide)).trans rfl | 52, _ => (hlow 52 (by decide)).trans rfl | 53, _ => (hlow 53 (by decide)).trans rfl | 54, _ => (hlow 54 (by decide)).trans rfl | 55, _ => (hlow 55 (by decide)).trans rfl | 56, _ => (hlow 56 (by decide)).trans rfl | 57, _ => (hlow 57 (by decide)).trans rfl | 58, _ => (hlow 58 (by decide)).trans rfl | 59, _ => (hlow 59 (by decide)).trans rfl | 60, _ => (hlow 60 (by decide)).trans rfl | 61, _ => (hlow 61 (by decide)).trans rfl | 62, _ => (hlow 62 (by decide)).trans rfl | 63, _ => (hlow 63 (by decide)).trans rfl | 64, _ => (hlow 64 (by decide)).trans rfl | 65, _ => (hlow 65 (by decide)).trans rfl | 66, _ => (hlow 66 (by decide)).trans rfl | 67, _ => (hlow 67 (by decide)).trans rfl | 68, _ => (hlow 68 (by decide)).trans rfl | 69, _ => (hlow 69 (by decide)).trans rfl | 70, _ => (hlow 70 (by decide)).trans rfl | 71, _ => (hlow 71 (by decide)).trans rfl | 72, _ => (hlow 72 (by decide)).trans rfl | 73, _ => (hlow 73 (by decide)).trans rfl | 74, _ => (hlow 74 (by decide)).trans rfl | 75, _ => (hlow 75 (by decide)).trans rfl | 76, _ => (hlow 76 (by decide)).trans rfl | 77, _ => (hlow 77 (by decide)).trans rfl | 78, _ => (hlow 78 (by decide)).trans rfl | 79, _ => (hlow 79 (by decide)).trans rfl | 80, _ => (hlow 80 (by decide)).trans rfl | 81, _ => (hlow 81 (by decide)).trans rfl | 82, _ => (hlow 82 (by decide)).trans rfl | 83, _ => (hlow 83 (by decide)).trans rfl | 84, _ => (hlow 84 (by decide)).trans rfl | 85, _ => (hlow 85 (by decide)).trans rfl | 86, _ => (hlow 86 (by decide)).trans rfl | 87, _ => (hlow 87 (by decide)).trans rfl | 88, _ => (hlow 88 (by decide)).trans rfl | 89, _ => (hlow 89 (by decide)).trans rfl | 90, _ => (hlow 90 (by decide)).trans rfl | n + 91, h => absurd h (by show ¬ n + 91 < 91; omega))
  clear hs hd hlow hok 
  have hs3 := hS.size
  refine RgX.wpList_store_seg rfl 29 _ _ rfl v3.heap.size 8 (.slice B3 q c3) rfl rfl 32 _ ((hS.block _ (by omega)).trans HX3.out.2.2.2) (by rw [size_asks]; rfl) (by show 8 + 1 ≤ 11; omega) (by simp [Value.cells, Value.oneCell']) #[.int .i64 ek1, .int .i64 en1, .int .i64 ea1, .int .i64 ec1, .int .i64 eh1, .int .i64 et1, .int .i64 ei1, .int .i64 ep1, .slice B3 q c3, .bool false, .slice none 0 0] rfl ?_
  intro W4 k4 ho4 hz4 hb4
  have HB4 := Lib.hid (show Below w.heap.size w W4 from (HB3.out.trans (hS.mono HB3.out.size)).trans (hb4.mono (by have := HB2.out.size; have := HX3.out.2.1.size; omega)))
  have H34 := Lib.hid (show Below v3.heap.size v3 W4 from (HX3.out.2.2.1.trans (hS.mono (by omega))).trans hb4)
  have K4 := Lib.hid k4
  have hz4' : u3.heap.size ≤ W4.heap.size := by omega
  clear k4 ho4 hz4 hb4 hS hs3
  go_wp2_with fail
  refine (H1.out _ HB4.out).mono ?_
  rintro e v5 ⟨B5, c5, rfl, ao5, hb5⟩
  have AO5 := Lib.hid (And.intro ao5 hb5)
  clear ao5 hb5
  go_upto_region 6 with (refine RgX.wpList_store_seg rfl 32 _ _ rfl v5.heap.size 0 (.agg #[.int .i64 ek1, .int .i64 en1, .int .i64 ea1, .int .i64 ec1, .int .i64 eh1, .int .i64 et1, .int .i64 ei1, .int .i64 ep1, .slice B5 m1 c5, .bool false, .slice none 0 0]) rfl rfl 32 #[.int .i64 0, .int .i64 0, .int .i64 0, .int .i64 0, .int .i64 0, .int .i64 0, .int .i64 0, .int .i64 0, .slice none 0 0, .bool false, .slice none 0 0] (new_at rfl) (by rw [size_step]; rfl) (by show 0 + 11 ≤ 11; omega) (by simp [Value.cells, Value.oneCell']) #[.int .i64 ek1, .int .i64 en1, .int .i64 ea1, .int .i64 ec1, .int .i64 eh1, .int .i64 et1, .int .i64 ei1, .int .i64 ep1, .slice B5 m1 c5, .bool false, .slice none 0 0] rfl ?_; intro u5 kb5 ho5 hz5 hx5)
  have hsz5 : u5.heap.size = v5.heap.size + 1 := by rw [hz5]; simp
  have hbu5 : Below v5.heap.size v5 u5 := (one_box v5 _).trans hx5
  obtain ⟨ao5, hb5⟩ := AO5.out
  have HB5 := Lib.hid (show Below w.heap.size w u5 from (HB4.out.trans (hb5.mono HB4.out.size)).trans (hbu5.mono (by have := HB4.out.size; have := hb5.size; omega)))
  have HX5 := Lib.hid (And.intro ao5 (And.intro hb5 (And.intro hbu5 kb5)))
  clear ao5 hb5 hbu5 kb5 ho5 hz5 hx5 AO5
  have hk5 := HX5.out.2.2.2
  go_upto_region 7 with (refine RgX.wpList_store_seg rfl 4 _ _ rfl v5.heap.size 9 (.bool true) rfl rfl 32 _ hk5 (by rw [size_bool]; rfl) (by show 9 + 1 ≤ 11; omega) (by simp [Value.cells, Value.oneCell']) #[.int .i64 ek1, .int .i64 en1, .int .i64 ea1, .int .i64 ec1, .int .i64 eh1, .int .i64 et1, .int .i64 ei1, .int .i64 ep1, .slice B5 m1 c5, .bool true, .slice none 0 0] rfl ?_; intro u6 k6 ho6 hz6 hb6)
  have HZ6 := Lib.hid hz6
  clear hz6
  have k6' : (u6.alloc (.cells #[.int .i64 0, .int .i64 0, .int .i64 0, .int .i64 nn, .int .i64 0] 26)).heap[v5.heap.size]? = some (.cells #[.int .i64 ek1, .int .i64 en1, .int .i64 ea1, .int .i64 ec1, .int .i64 eh1, .int .i64 et1, .int .i64 ei1, .int .i64 ep1, .slice B5 m1 c5, .bool true, .slice none 0 0] 32 (0, 0)) := (heap_alloc_old u6 _ (heap_lt k6)).trans k6
  go_upto_region 8 with (refine RgX.wpList_store_seg rfl 30 _ _ rfl v5.heap.size 10 (.slice (some ⟨u6.heap.size, 0, none⟩) 1 1) rfl rfl 32 _ k6' (by rw [size_msgs]; rfl) (by show 10 + 1 ≤ 11; omega) (by simp [Value.cells, Value.oneCell']) #[.int .i64 ek1, .int .i64 en1, .int .i64 ea1, .int .i64 ec1, .int .i64 eh1, .int .i64 et1, .int .i64 ei1, .int .i64 ep1, .slice B5 m1 c5, .bool true, .slice (some ⟨u6.heap.size, 0, none⟩) 1 1] rfl ?_; intro u7 k7 ho7 hz7 hb7)
  have hz6 := HZ6.out
  have hz7' : u7.heap.size = u6.heap.size + 1 := by rw [hz7]; simp
  have H57 := Lib.hid (show Below v5.heap.size v5 u7 from (HX5.out.2.2.1.trans hb6).trans (((Below.refl v5.heap.size u6).alloc (by omega) _).trans hb7))
  have s4 := HB4.out.size
  have s5 := HX5.out.2.1.size
  have HB7 := Lib.hid (show Below w.heap.size w u7 from (HB4.out.trans (HX5.out.2.1.mono s4)).trans (H57.out.mono (by omega)))
  have H47 := Lib.hid (show Below W4.heap.size W4 u7 from HX5.out.2.1.trans (H57.out.mono s5))
  have X7 := Lib.hid (show Asks u7 B5 m1 l1 from HX5.out.1.asks.keep H57.out)
  have K7 := Lib.hid k7
  clear hk5 k6 ho6 hz6 hb6 k6' ho7 hz7 hb7
  obtain ⟨r0, r1, r2, r3, r4, r5, r6, r7, r8, r9, r10⟩ := row11 k7
  clear k7
  by_cases hm : 0 < m1
  · have dm : decide (0 < m1) = true := decide_eq_true hm
    obtain ⟨m0, hm0⟩ : ∃ m0, m0 + 1 = m1 := ⟨m1 - 1, by omega⟩
    obtain ⟨g5, cur, hB5, hg5, hcur, hcs⟩ := own_blk HX5.out.1 hm
    have hcap := (own_cap HX5.out.1).1
    subst hB5
    have hgl : g5 < v5.heap.size := heap_lt hcur
    have hcur7 : u7.heap[g5]? = some (.cells cur 38 (0, 0)) := blk_keep hcur H57.out
    have HC7 := Lib.hid (fun (V : World) (hV : Below u7.heap.size u7 V) => row11 (blk_keep K7.out hV))
    have hw1 : IntKind.i64.wrap ((m1 : Int) - 1) = (m0 : Int) := by rw [IntWalk.i64_in _ (by omega)]; omega
    have HW1 := Lib.hid hw1
    clear hw1 hcur
    go_wp2_with fail
    clear r0 r1 r2 r3 r4 r5 r6 r7 r8 r9 r10
    refine RgX.tail 10 (fun i => ( 40 + i)) (fun ix_ => match ix_ with | 0 => .v (.pointer (some ⟨v5.heap.size, 8, none⟩)) | 1 => .v (.slice (some ⟨g5, 0, none⟩) m1 c5) | 2 => .v (.pointer (some ⟨v5.heap.size, 8, none⟩)) | 3 => .v (.slice (some ⟨g5, 0, none⟩) m1 c5) | 4 => .v (.int .i64 (m1 : Int)) | 5 => .v (.int .i64 (m0 : Int)) | 6 => .v (.int .i64 nn) | 7 => .v (.int .i64 a4) | 8 => .v (.pointer (some ⟨g5, m0 * 7, none⟩)) | 9 => .v (.pointer (some ⟨g5, m0 * 7 + 6, none⟩)) | _ => .any) _ (by kernel_rfl) rfl rfl (by kernel_rfl) (by kernel_rfl) (fun i hi => by show ( 40 + i) < 91; (repeat' split) <;> omega) (fun i j hi hj => by show ( 40 + i) = ( 40 + j) → i = j; (repeat' split) <;> omega) ?step ?fin
    case step =>
      intro L_ A_ w3 ix op_ hi hI ho hdep
      have hcase : ix = 0 ∨ ix = 1 ∨ ix = 2 ∨ ix = 3 ∨ ix = 4 ∨ ix = 5 ∨ ix = 6 ∨ ix = 7 ∨ ix = 8 ∨ ix = 9 := by omega
      have hh := hI.held
      clear hi
      rcases hcase with rfl | rfl | rfl | rfl | rfl | rfl | rfl | rfl | rfl | rfl
      · simp only [List.getElem?_toArray, List.getElem?_cons_zero, Option.some.injEq] at ho
        subst ho
        refine ⟨rfl, ?_⟩
        have e12 : A_.tmps[12]?.getD undef = .pointer (some ⟨v5.heap.size, 0, none⟩) := by rw [hI.low 12 (by decide)]; rfl
        clear hI hdep
        exact .run rfl (.pointer (some ⟨v5.heap.size, 8, none⟩)) w3 (by simp [execOp, go_sem, Act.eval, e12]) (Below.refl _ _) rfl
      · simp only [List.getElem?_toArray, List.getElem?_cons_succ, List.getElem?_cons_zero, Option.some.injEq] at ho
        subst ho
        refine ⟨rfl, ?_⟩
        have e40 : A_.tmps[40]?.getD undef = .pointer (some ⟨v5.heap.size, 8, none⟩) := getD_of (hI.val_ (i := 0) rfl rfl (by decide) (hdep ⟨0, .data⟩ (by simp) rfl))
        clear hI hdep
        obtain ⟨d0, d1, d2, d3, d4, d5, d6, d7, d8, d9, d10⟩ := HC7.out w3 hh
        exact .run rfl (.slice (some ⟨g5, 0, none⟩) m1 c5) w3 (by simp [execOp, go_sem, Act.eval, *]) (Below.refl _ _) rfl
      · simp only [List.getElem?_toArray, List.getElem?_cons_succ, List.getElem?_cons_zero, Option.some.injEq] at ho
        subst ho
        refine ⟨rfl, ?_⟩
        have e12 : A_.tmps[12]?.getD undef = .pointer (some ⟨v5.heap.size, 0, none⟩) := by rw [hI.low 12 (by decide)]; rfl
        clear hI hdep
        exact .run rfl (.pointer (some ⟨v5.heap.size, 8, none⟩)) w3 (by simp [execOp, go_sem, Act.eval, e12]) (Below.refl _ _) rfl
      · simp only [List.getElem?_toArray, List.getElem?_cons_succ, List.getElem?_cons_zero, Option.some.injEq] at ho
        subst ho
        refine ⟨rfl, ?_⟩
        have e42 : A_.tmps[42]?.getD undef = .pointer (some ⟨v5.heap.size, 8, none⟩) := getD_of (hI.val_ (i := 2) rfl rfl (by decide) (hdep ⟨2, .data⟩ (by simp) rfl))
        clear hI hdep
        obtain ⟨d0, d1, d2, d3, d4, d5, d6, d7, d8, d9, d10⟩ := HC7.out w3 hh
        exact .run rfl (.slice (some ⟨g5, 0, none⟩) m1 c5) w3 (by simp [execOp, go_sem, Act.eval, *]) (Below.refl _ _) rfl
      · simp only [List.getElem?_toArray, List.getElem?_cons_succ, List.getElem?_cons_zero, Option.some.injEq] at ho
        subst ho
        refine ⟨rfl, ?_⟩
        have e43 : A_.tmps[43]?.getD undef = .slice (some ⟨g5, 0, none⟩) m1 c5 := getD_of (hI.val_ (i := 3) rfl rfl (by decide) (hdep ⟨3, .data⟩ (by simp) rfl))
        clear hI hdep
        exact .run rfl (.int .i64 (m1 : Int)) w3 (by simp [go_sem, Act.eval, e43]) (Below.refl _ _) rfl
      · simp only [List.getElem?_toArray, List.getElem?_cons_succ, List.getElem?_cons_zero, Option.some.injEq] at ho
        subst ho
        refine ⟨rfl, ?_⟩
        have e44 : A_.tmps[44]?.getD undef = .int .i64 (m1 : Int) := getD_of (hI.val_ (i := 4) rfl rfl (by decide) (hdep ⟨4, .data⟩ (by simp) rfl))
        clear hI hdep
        have h9 := HW1.out
        exact .run rfl (.int .i64 (m0 : Int)) w3 (by simp [execOp, go_sem, Act.eval, e44, h9]) (Below.refl _ _) rfl
      · simp only [List.getElem?_toArray, List.getElem?_cons_succ, List.getElem?_cons_zero, Option.some.injEq] at ho
        subst ho
        refine ⟨rfl, ?_⟩
        have e3 : A_.tmps[3]?.getD undef = .int .i64 nn := by rw [hI.low 3 (by decide)]; rfl
        clear hI hdep
        exact .run rfl (.int .i64 nn) w3 (by simp [execOp, go_sem, Act.eval, e3]) (Below.refl _ _) rfl
      · simp only [List.getElem?_toArray, List.getElem?_cons_succ, List.getElem?_cons_zero, Option.some.injEq] at ho
        subst ho
        refine ⟨rfl, ?_⟩
        have e46 : A_.tmps[46]?.getD undef = .int .i64 nn := getD_of (hI.val_ (i := 6) rfl rfl (by decide) (hdep ⟨6, .data⟩ (by simp) rfl))
        clear hI hdep
        exact .call rfl 7 #[.int .i64 nn, .int .i64 4] (by simp [go_sem, Act.eval, e46]) ((HAN.out w3).mono fun _ _ ⟨h1_, h2_⟩ => ⟨⟨_, h1_, rfl⟩, h2_⟩)
      · simp only [List.getElem?_toArray, List.getElem?_cons_succ, List.getElem?_cons_zero, Option.some.injEq] at ho
        subst ho
        refine ⟨rfl, ?_⟩
        have e41 : A_.tmps[41]?.getD undef = .slice (some ⟨g5, 0, none⟩) m1 c5 := getD_of (hI.val_ (i := 1) rfl rfl (by decide) (hdep ⟨1, .data⟩ (by simp) rfl))
        have e45 : A_.tmps[45]?.getD undef = .int .i64 (m0 : Int) := getD_of (hI.val_ (i := 5) rfl rfl (by decide) (hdep ⟨5, .data⟩ (by simp) rfl))
        clear hI hdep
        exact .run rfl (.pointer (some ⟨g5, m0 * 7, none⟩)) w3 (by simp [execOp, go_sem, Act.eval, e41, e45]; omega) (Below.refl _ _) rfl
      · simp only [List.getElem?_toArray, List.getElem?_cons_succ, List.getElem?_cons_zero, Option.some.injEq] at ho
        subst ho
        refine ⟨rfl, ?_⟩
        have e48 : A_.tmps[48]?.getD undef = .pointer (some ⟨g5, m0 * 7, none⟩) := getD_of (hI.val_ (i := 8) rfl rfl (by decide) (hdep ⟨8, .data⟩ (by simp) rfl))
        clear hI hdep
        exact .run rfl (.pointer (some ⟨g5, m0 * 7 + 6, none⟩)) w3 (by simp [execOp, go_sem, Act.eval, e48]) (Below.refl _ _) rfl
    case fin =>
    intro A_ w3 hs hd hlow hS hok
    obtain rfl : A_ = ⟨#[.slice A1 n1 k1, .slice A2 n2 k2, .int .i64 cut, .int .i64 nn, undef, undef, undef, undef, .bool false, .pointer (some ⟨v1.heap.size, 0, none⟩), .pointer (some ⟨v2.heap.size, 0, none⟩), .pointer (some ⟨v3.heap.size, 0, none⟩), .pointer (some ⟨v5.heap.size, 0, none⟩), .slice A1 n1 k1, .agg #[.int .i64 ek1, .int .i64 en1, .int .i64 ea1, .int .i64 ec1, .int .i64 eh1, .int .i64 et1, .int .i64 ei1, .int .i64 ep1, .slice B1 m1 c1, .bool false, .slice none 0 0], .slice A2 n2 k2, .agg #[.int .i64 ek2, .int .i64 en2, .int .i64 ea2, .int .i64 ec2, .int .i64 eh2, .int .i64 et2, .int .i64 ei2, .int .i64 ep2, .slice B2 m2 c2, .bool false, .slice none 0 0], .slice A1 n1 k1, .agg #[.int .i64 ek1, .int .i64 en1, .int .i64 ea1, .int .i64 ec1, .int .i64 eh1, .int .i64 et1, .int .i64 ei1, .int .i64 ep1, .slice B3 m1 c3, .bool false, .slice none 0 0], .pointer (some ⟨v3.heap.size, 8, none⟩), .slice B3 m1 c3, .int .i64 cut, .pointer (some ⟨v3.heap.size, 8, none⟩), .slice B3 m1 c3, .int .i64 (m1 : Int), .int .i64 ((m1 : Int) + 1), .int .i64 (q : Int), .slice B3 q c3, .pointer (some ⟨v3.heap.size, 8, none⟩), .slice A1 n1 k1, .agg #[.int .i64 ek1, .int .i64 en1, .int .i64 ea1, .int .i64 ec1, .int .i64 eh1, .int .i64 et1, .int .i64 ei1, .int .i64 ep1, .slice (some ⟨g5, 0, none⟩) m1 c5, .bool false, .slice none 0 0], .pointer (some ⟨v5.heap.size, 9, none⟩), .int .i64 nn, .agg #[.int .i64 0, .int .i64 0, .int .i64 0, .int .i64 nn, .int .i64 0], .slice (some ⟨u6.heap.size, 0, none⟩) 1 1, .pointer (some ⟨v5.heap.size, 10, none⟩), .pointer (some ⟨v5.heap.size, 8, none⟩), .slice (some ⟨g5, 0, none⟩) m1 c5, .int .i64 (m1 : Int), .bool true, .pointer (some ⟨v5.heap.size, 8, none⟩), .slice (some ⟨g5, 0, none⟩) m1 c5, .pointer (some ⟨v5.heap.size, 8, none⟩), .slice (some ⟨g5, 0, none⟩) m1 c5, .int .i64 (m1 : Int), .int .i64 (m0 : Int), .int .i64 nn, .int .i64 a4, .pointer (some ⟨g5, m0 * 7, none⟩), .pointer (some ⟨g5, m0 * 7 + 6, none⟩), undef, undef, undef, undef, undef, undef, undef, undef, undef, undef, undef, undef, undef, undef, undef, undef, undef, undef, undef, undef, undef, undef, undef, undef, undef, undef, undef, undef, undef, undef, undef, undef, undef, undef, undef, undef, undef, undef, undef, undef, undef], []⟩ := act_ext hd hs (fun j hj => match j, hj with | 0, _ => (hlow 0 (by decide)).trans rfl | 1, _ => (hlow 1 (by decide)).trans rfl | 2, _ => (hlow 2 (by decide)).trans rfl | 3, _ => (hlow 3 (by decide)).trans rfl | 4, _ => (hlow 4 (by decide)).trans rfl | 5, _ => (hlow 5 (by decide)).trans rfl | 6, _ => (hlow 6 (by decide)).trans rfl | 7, _ => (hlow 7 (by decide)).trans rfl | 8, _ => (hlow 8 (by decide)).trans rfl | 9, _ => (hlow 9 (by decide)).trans rfl | 10, _ => (hlow 10 (by decide)).trans rfl | 11, _ => (hlow 11 (by decide)).trans rfl | 12, _ => (hlow 12 (by decide)).trans rfl | 13, _ => (hlow 13 (by decide)).trans rfl | 14, _ => (hlow 14 (by decide)).trans rfl | 15, _ => (hlow 15 (by decide)).trans rfl | 16, _ => (hlow 16 (by decide)).trans rfl | 17, _ => (hlow 17 (by decide)).trans rfl | 18, _ => (hlow 18 (by decide)).trans rfl | 19, _ => (hlow 19 (by decide)).trans rfl | 20, _ => (hlow 20 (by decide)).trans rfl | 21, _ => (hlow 21 (by decide)).trans rfl | 22, _ => (hlow 22 (by decide)).trans rfl | 23, _ => (hlow 23 (by decide)).trans rfl | 24, _ => (hlow 24 (by decide)).trans rfl | 25, _ => (hlow 25 (by decide)).trans rfl | 26, _ => (hlow 26 (by decide)).trans rfl | 27, _ => (hlow 27 (by decide)).trans rfl | 28, _ => (hlow 28 (by decide)).trans rfl | 29, _ => (hlow 29 (by decide)).trans rfl | 30, _ => (hlow 30 (by decide)).trans rfl | 31, _ => (hlow 31 (by decide)).trans rfl | 32, _ => (hlow 32 (by decide)).trans rfl | 33, _ => (hlow 33 (by decide)).trans rfl | 34, _ => (hlow 34 (by decide)).trans rfl | 35, _ => (hlow 35 (by decide)).trans rfl | 36, _ => (hlow 36 (by decide)).trans rfl | 37, _ => (hlow 37 (by decide)).trans rfl | 38, _ => (hlow 38 (by decide)).trans rfl | 39, _ => (hlow 39 (by decide)).trans rfl | 40, _ => RgX.val_at (hok 0 40 _ (by decide) rfl rfl) | 41, _ => RgX.val_at (hok 1 41 _ (by decide) rfl rfl) | 42, _ => RgX.val_at (hok 2 42 _ (by decide) rfl rfl) | 43, _ => RgX.val_at (hok 3 43 _ (by decide) rfl rfl) | 44, _ => RgX.val_at (hok 4 44 _ (by decide) rfl rfl) | 45, _ => RgX.val_at (hok 5 45 _ (by decide) rfl rfl) | 46, _ => RgX.val_at (hok 6 46 _ (by decide) rfl rfl) | 47, _ => RgX.val_at (hok 7 47 _ (by decide) rfl rfl) | 48, _ => RgX.val_at (hok 8 48 _ (by decide) rfl rfl) | 49, _ => RgX.val_at (hok 9 49 _ (by decide) rfl rfl) | 50, _ => (hlow 50 (by decide)).trans rfl | 51, _ => (hlow 51 (by decide)).trans rfl | 52, _ => (hlow 52 (by decide)).trans rfl | 53, _ => (hlow 53 (by decide)).trans rfl | 54, _ => (hlow 54 (by decide)).trans rfl | 55, _ => (hlow 55 (by decide)).trans rfl | 56, _ => (hlow 56 (by decide)).trans rfl | 57, _ => (hlow 57 (by decide)).trans rfl | 58, _ => (hlow 58 (by decide)).trans rfl | 59, _ => (hlow 59 (by decide)).trans rfl | 60, _ => (hlow 60 (by decide)).trans rfl | 61, _ => (hlow 61 (by decide)).trans rfl | 62, _ => (hlow 62 (by decide)).trans rfl | 63, _ => (hlow 63 (by decide)).trans rfl | 64, _ => (hlow 64 (by decide)).trans rfl | 65, _ => (hlow 65 (by decide)).trans rfl | 66, _ => (hlow 66 (by decide)).trans rfl | 67, _ => (hlow 67 (by decide)).trans rfl | 68, _ => (hlow 68 (by decide)).trans rfl | 69, _ => (hlow 69 (by decide)).trans rfl | 70, _ => (hlow 70 (by decide)).trans rfl | 71, _ => (hlow 71 (by decide)).trans rfl | 72, _ => (hlow 72 (by decide)).trans rfl | 73, _ => (hlow 73 (by decide)).trans rfl | 74, _ => (hlow 74 (by decide)).trans rfl | 75, _ => (hlow 75 (by decide)).trans rfl | 76, _ => (hlow 76 (by decide)).trans rfl | 77, _ => (hlow 77 (by decide)).trans rfl | 78, _ => (hlow 78 (by decide)).trans rfl | 79, _ => (hlow 79 (by decide)).trans rfl | 80, _ => (hlow 80 (by decide)).trans rfl | 81, _ => (hlow 81 (by decide)).trans rfl | 82, _ => (hlow 82 (by decide)).trans rfl | 83, _ => (hlow 83 (by decide)).trans rfl | 84, _ => (hlow 84 (by decide)).trans rfl | 85, _ => (hlow 85 (by decide)).trans rfl | 86, _ => (hlow 86 (by decide)).trans rfl | 87, _ => (hlow 87 (by decide)).trans rfl | 88, _ => (hlow 88 (by decide)).trans rfl | 89, _ => (hlow 89 (by decide)).trans rfl | 90, _ => (hlow 90 (by decide)).trans rfl | n + 91, h => absurd h (by show ¬ n + 91 < 91; omega))
    clear hs hd hlow hok 
    have hsz9 : m0 * 7 + 6 + 1 ≤ cur.size := by omega
    have hcur9 : w3.heap[g5]? = some (.cells cur 38 (0, 0)) := blk_keep hcur7 hS
    refine RgX.wpList_store_seg rfl 3 _ _ rfl g5 (m0 * 7 + 6) (.int .i64 a4) rfl rfl 38 cur hcur9 (by rw [size_int]; rfl) hsz9 (by simp [Value.cells, Value.oneCell']) ((cur.toList.take (m0 * 7 + 6) ++ [Value.int .i64 a4] ++ cur.toList.drop (m0 * 7 + 6 + 1)).toArray) rfl ?_
    intro u9 k9 ho9 hz9 hb9
    have hne : v5.heap.size ≠ g5 := by omega
    have q9 : u9.heap[v5.heap.size]? = _ := (ho9 _ hne).trans (blk_keep K7.out hS)
    obtain ⟨r0, r1, r2, r3, r4, r5, r6, r7, r8, r9, r10⟩ := row11 q9
    obtain ⟨la, xa⟩ := asks_put (X7.out.keep hS) hm hcur9 hsz9 k9
    have hsz10 : 5 + 1 ≤ ((cur.toList.take (m0 * 7 + 6) ++ [Value.int .i64 a4] ++ cur.toList.drop (m0 * 7 + 6 + 1)).toArray).size := by rw [seg_size hsz9]; omega
    have hs9 := hS.size
    have HB9 := Lib.hid (show Below w.heap.size w u9 from (HB7.out.trans (hS.mono HB7.out.size)).trans (hb9.mono (by omega)))
    have H49 := Lib.hid (show Below W4.heap.size W4 u9 from (H47.out.trans (hS.mono H47.out.size)).trans (hb9.mono hg5))
    have Q9 := Lib.hid q9
    have XA := Lib.hid xa
    have K9 := Lib.hid k9
    clear hS hcur7 hcur9 ho9 hb9 q9 xa k9 H47 HB7
    generalize ((cur.toList.take (m0 * 7 + 6) ++ [Value.int .i64 a4] ++ cur.toList.drop (m0 * 7 + 6 + 1)).toArray) = cur2 at *
    go_wp2_with (refine RgX.wpList_store_seg rfl 3 _ _ rfl g5 5 (.int .i64 2) rfl rfl 38 cur2 K9.out (by rw [size_int]; rfl) hsz10 (by simp [Value.cells, Value.oneCell']) ((cur2.toList.take 5 ++ [Value.int .i64 2] ++ cur2.toList.drop (5 + 1)).toArray) rfl ?_; intro u10 k10 ho10 hz10 hb10)
    obtain ⟨lb, xb⟩ := asks_put XA.out hm K9.out hsz10 k10
    have XF := Lib.hid xb
    have KF := Lib.hid (show u10.heap[v5.heap.size]? = _ from (ho10 _ hne).trans Q9.out)
    have HBF := Lib.hid (show Below w.heap.size w u10 from HB9.out.trans (hb10.mono (by omega)))
    have H4F := Lib.hid (show Below W4.heap.size W4 u10 from H49.out.trans (hb10.mono hg5))
    clear xb k10 ho10 hz10 hb10 r0 r1 r2 r3 r4 r5 r6 r7 r8 r9 r10
    obtain ⟨a1, _, d1, kb1⟩ := HX1.out
    obtain ⟨a2, b2, d2, kb2⟩ := HX2.out
    obtain ⟨a3, b3, d3, kb3⟩ := HX3.out
    have x1 : Asks u10 B1 m1 l1 := (((((a1.asks.keep d1).keep b2).keep d2).keep b3).keep H34.out).keep H4F.out
    have x2 : Asks u10 B2 m2 l2 := (((a2.asks.keep d2).keep b3).keep H34.out).keep H4F.out
    have x4 : Asks u10 B3 q (l1.take q) := asks_take ((a3.asks.keep H34.out).keep H4F.out) hqm
    have x7 := XF.out
    have y1 := blk_keep (blk_keep (blk_keep (blk_keep (blk_keep kb1 b2) d2) b3) H34.out) H4F.out
    have y2 := blk_keep (blk_keep (blk_keep kb2 b3) H34.out) H4F.out
    have y4 := blk_keep K4.out H4F.out
    have y7 := KF.out
    have HK := Lib.hid (fun (V : World) (hV : Below u10.heap.size u10 V) => And.intro (row11 (blk_keep y1 hV)) (And.intro (row11 (blk_keep y2 hV)) (And.intro (row11 (blk_keep y4 hV)) (row11 (blk_keep y7 hV)))))
    have HP12 := Lib.hid (fun (V : World) (hV : Below u10.heap.size u10 V) => cmpStep_any ek1 en1 ea1 ec1 eh1 et1 ei1 ep1 ek2 en2 ea2 ec2 eh2 et2 ei2 ep2 B1 B2 none none m1 c1 m2 c2 0 0 0 0 false false V (x1.keep hV) (x2.keep hV) (by omega) (by omega))
    simp only [cs_eq] at HP12
    have HR12 := Lib.hid (fun (V : World) (hV : Below u10.heap.size u10 V) => cmpStepR_any ek1 en1 ea1 ec1 eh1 et1 ei1 ep1 ek2 en2 ea2 ec2 eh2 et2 ei2 ep2 B1 B2 none none m1 c1 m2 c2 0 0 0 0 false false V (x1.keep hV) (x2.keep hV) (by omega) (by omega))
    generalize NM.lexL (NM.stepL ⟨ek1, en1, ea1, ⟨ec1, eh1, et1, ei1, ep1⟩⟩ l1) (NM.stepL ⟨ek2, en2, ea2, ⟨ec2, eh2, et2, ei2, ep2⟩⟩ l2) = r12 at HP12 HR12
    have HP14 := Lib.hid (fun (V : World) (hV : Below u10.heap.size u10 V) => cmpStep_any ek1 en1 ea1 ec1 eh1 et1 ei1 ep1 ek1 en1 ea1 ec1 eh1 et1 ei1 ep1 B1 B3 none none m1 c1 q c3 0 0 0 0 false false V (x1.keep hV) (x4.keep hV) (by omega) (by omega))
    simp only [cs_eq] at HP14
    have HR14 := Lib.hid (fun (V : World) (hV : Below u10.heap.size u10 V) => cmpStepR_any ek1 en1 ea1 ec1 eh1 et1 ei1 ep1 ek1 en1 ea1 ec1 eh1 et1 ei1 ep1 B1 B3 none none m1 c1 q c3 0 0 0 0 false false V (x1.keep hV) (x4.keep hV) (by omega) (by omega))
    generalize NM.lexL (NM.stepL ⟨ek1, en1, ea1, ⟨ec1, eh1, et1, ei1, ep1⟩⟩ l1) (NM.stepL ⟨ek1, en1, ea1, ⟨ec1, eh1, et1, ei1, ep1⟩⟩ (l1.take q)) = r14 at HP14 HR14
    have HP41 := Lib.hid (fun (V : World) (hV : Below u10.heap.size u10 V) => cmpStep_any ek1 en1 ea1 ec1 eh1 et1 ei1 ep1 ek1 en1 ea1 ec1 eh1 et1 ei1 ep1 B3 B1 none none q c3 m1 c1 0 0 0 0 false false V (x4.keep hV) (x1.keep hV) (by omega) (by omega))
    simp only [cs_eq] at HP41
    have HR41 := Lib.hid (fun (V : World) (hV : Below u10.heap.size u10 V) => cmpStepR_any ek1 en1 ea1 ec1 eh1 et1 ei1 ep1 ek1 en1 ea1 ec1 eh1 et1 ei1 ep1 B3 B1 none none q c3 m1 c1 0 0 0 0 false false V (x4.keep hV) (x1.keep hV) (by omega) (by omega))
    generalize NM.lexL (NM.stepL ⟨ek1, en1, ea1, ⟨ec1, eh1, et1, ei1, ep1⟩⟩ (l1.take q)) (NM.stepL ⟨ek1, en1, ea1, ⟨ec1, eh1, et1, ei1, ep1⟩⟩ l1) = r41 at HP41 HR41
    have HP17 := Lib.hid (fun (V : World) (hV : Below u10.heap.size u10 V) => cmpStep_any ek1 en1 ea1 ec1 eh1 et1 ei1 ep1 ek1 en1 ea1 ec1 eh1 et1 ei1 ep1 B1 (some ⟨g5, 0, none⟩) none (some ⟨u6.heap.size, 0, none⟩) m1 c1 m1 c5 0 0 1 1 false true V (x1.keep hV) (x7.keep hV) (by omega) (by omega))
    simp only [cs_eq] at HP17
    have HR17 := Lib.hid (fun (V : World) (hV : Below u10.heap.size u10 V) => cmpStepR_any ek1 en1 ea1 ec1 eh1 et1 ei1 ep1 ek1 en1 ea1 ec1 eh1 et1 ei1 ep1 B1 (some ⟨g5, 0, none⟩) none (some ⟨u6.heap.size, 0, none⟩) m1 c1 m1 c5 0 0 1 1 false true V (x1.keep hV) (x7.keep hV) (by omega) (by omega))
    generalize NM.lexL (NM.stepL ⟨ek1, en1, ea1, ⟨ec1, eh1, et1, ei1, ep1⟩⟩ l1) (NM.stepL ⟨ek1, en1, ea1, ⟨ec1, eh1, et1, ei1, ep1⟩⟩ lb) = r17 at HP17 HR17
    clear HX1 HX2 HX3 HX5 H34 H4F K4 KF XF x1 x2 x4 x7 y1 y2 y4 y7 a1 d1 kb1 a2 b2 d2 kb2 a3 b3 d3 kb3
    go_wp2_with fail
    refine RgX.region 38 (fun i => (if i = 37 then 8 else 54 + i)) (fun ix_ => match ix_ with | 0 => .v (.agg #[.int .i64 ek1, .int .i64 en1, .int .i64 ea1, .int .i64 ec1, .int .i64 eh1, .int .i64 et1, .int .i64 ei1, .int .i64 ep1, .slice B1 m1 c1, .bool false, .slice none 0 0]) | 1 => .v (.agg #[.int .i64 ek2, .int .i64 en2, .int .i64 ea2, .int .i64 ec2, .int .i64 eh2, .int .i64 et2, .int .i64 ei2, .int .i64 ep2, .slice B2 m2 c2, .bool false, .slice none 0 0]) | 2 => .v (.int .i64 r12) | 3 => .v (.agg #[.int .i64 ek1, .int .i64 en1, .int .i64 ea1, .int .i64 ec1, .int .i64 eh1, .int .i64 et1, .int .i64 ei1, .int .i64 ep1, .slice B1 m1 c1, .bool false, .slice none 0 0]) | 4 => .v (.agg #[.int .i64 ek2, .int .i64 en2, .int .i64 ea2, .int .i64 ec2, .int .i64 eh2, .int .i64 et2, .int .i64 ei2, .int .i64 ep2, .slice B2 m2 c2, .bool false, .slice none 0 0]) | 5 => .v (.int .i64 r12) | 6 => .v (.bool true) | 7 => .v (.bool true) | 8 => .v (.agg #[.int .i64 ek1, .int .i64 en1, .int .i64 ea1, .int .i64 ec1, .int .i64 eh1, .int .i64 et1, .int .i64 ei1, .int .i64 ep1, .slice B1 m1 c1, .bool false, .slice none 0 0]) | 9 => .v (.agg #[.int .i64 ek1, .int .i64 en1, .int .i64 ea1, .int .i64 ec1, .int .i64 eh1, .int .i64 et1, .int .i64 ei1, .int .i64 ep1, .slice B3 q c3, .bool false, .slice none 0 0]) | 10 => .v (.int .i64 r14) | 11 => .v (.agg #[.int .i64 ek1, .int .i64 en1, .int .i64 ea1, .int .i64 ec1, .int .i64 eh1, .int .i64 et1, .int .i64 ei1, .int .i64 ep1, .slice B1 m1 c1, .bool false, .slice none 0 0]) | 12 => .v (.agg #[.int .i64 ek1, .int .i64 en1, .int .i64 ea1, .int .i64 ec1, .int .i64 eh1, .int .i64 et1, .int .i64 ei1, .int .i64 ep1, .slice B3 q c3, .bool false, .slice none 0 0]) | 13 => .v (.int .i64 r14) | 14 => .v (.bool true) | 15 => .v (.bool true) | 16 => .v (.bool true) | 17 => .v (.agg #[.int .i64 ek1, .int .i64 en1, .int .i64 ea1, .int .i64 ec1, .int .i64 eh1, .int .i64 et1, .int .i64 ei1, .int .i64 ep1, .slice B3 q c3, .bool false, .slice none 0 0]) | 18 => .v (.agg #[.int .i64 ek1, .int .i64 en1, .int .i64 ea1, .int .i64 ec1, .int .i64 eh1, .int .i64 et1, .int .i64 ei1, .int .i64 ep1, .slice B1 m1 c1, .bool false, .slice none 0 0]) | 19 => .v (.int .i64 r41) | 20 => .v (.agg #[.int .i64 ek1, .int .i64 en1, .int .i64 ea1, .int .i64 ec1, .int .i64 eh1, .int .i64 et1, .int .i64 ei1, .int .i64 ep1, .slice B3 q c3, .bool false, .slice none 0 0]) | 21 => .v (.agg #[.int .i64 ek1, .int .i64 en1, .int .i64 ea1, .int .i64 ec1, .int .i64 eh1, .int .i64 et1, .int .i64 ei1, .int .i64 ep1, .slice B1 m1 c1, .bool false, .slice none 0 0]) | 22 => .v (.int .i64 r41) | 23 => .v (.bool true) | 24 => .v (.bool true) | 25 => .v (.bool true) | 26 => .v (.agg #[.int .i64 ek1, .int .i64 en1, .int .i64 ea1, .int .i64 ec1, .int .i64 eh1, .int .i64 et1, .int .i64 ei1, .int .i64 ep1, .slice B1 m1 c1, .bool false, .slice none 0 0]) | 27 => .v (.agg #[.int .i64 ek1, .int .i64 en1, .int .i64 ea1, .int .i64 ec1, .int .i64 eh1, .int .i64 et1, .int .i64 ei1, .int .i64 ep1, .slice (some ⟨g5, 0, none⟩) m1 c5, .bool true, .slice (some ⟨u6.heap.size, 0, none⟩) 1 1]) | 28 => .v (.int .i64 r17) | 29 => .v (.agg #[.int .i64 ek1, .int .i64 en1, .int .i64 ea1, .int .i64 ec1, .int .i64 eh1, .int .i64 et1, .int .i64 ei1, .int .i64 ep1, .slice B1 m1 c1, .bool false, .slice none 0 0]) | 30 => .v (.agg #[.int .i64 ek1, .int .i64 en1, .int .i64 ea1, .int .i64 ec1, .int .i64 eh1, .int .i64 et1, .int .i64 ei1, .int .i64 ep1, .slice (some ⟨g5, 0, none⟩) m1 c5, .bool true, .slice (some ⟨u6.heap.size, 0, none⟩) 1 1]) | 31 => .v (.int .i64 r17) | 32 => .v (.bool true) | 33 => .v (.bool true) | 34 => .v (.bool true) | 35 => .v (.bool true) | 36 => .v (.bool true) | 37 => .v (.bool true) | _ => .any) (by kernel_rfl) rfl (by kernel_rfl)  (fun i hi => by show (if i = 37 then 8 else 54 + i) < 91; (repeat' split) <;> omega) (fun i j hi hj => by show (if i = 37 then 8 else 54 + i) = (if j = 37 then 8 else 54 + j) → i = j; (repeat' split) <;> omega) ?step ?fin
    case step =>
      intro L_ A_ w3 ix op_ hI ho hdep
      have hi : ix < 38 := (Array.getElem?_eq_some_iff.1 ho).1
      have hcase : ix = 0 ∨ ix = 1 ∨ ix = 2 ∨ ix = 3 ∨ ix = 4 ∨ ix = 5 ∨ ix = 6 ∨ ix = 7 ∨ ix = 8 ∨ ix = 9 ∨ ix = 10 ∨ ix = 11 ∨ ix = 12 ∨ ix = 13 ∨ ix = 14 ∨ ix = 15 ∨ ix = 16 ∨ ix = 17 ∨ ix = 18 ∨ ix = 19 ∨ ix = 20 ∨ ix = 21 ∨ ix = 22 ∨ ix = 23 ∨ ix = 24 ∨ ix = 25 ∨ ix = 26 ∨ ix = 27 ∨ ix = 28 ∨ ix = 29 ∨ ix = 30 ∨ ix = 31 ∨ ix = 32 ∨ ix = 33 ∨ ix = 34 ∨ ix = 35 ∨ ix = 36 ∨ ix = 37 := by omega
      have hh := hI.held
      clear hi
      rcases hcase with rfl | rfl | rfl | rfl | rfl | rfl | rfl | rfl | rfl | rfl | rfl | rfl | rfl | rfl | rfl | rfl | rfl | rfl | rfl | rfl | rfl | rfl | rfl | rfl | rfl | rfl | rfl | rfl | rfl | rfl | rfl | rfl | rfl | rfl | rfl | rfl | rfl | rfl
      · simp only [List.getElem?_toArray, List.getElem?_cons_zero, Option.some.injEq] at ho
        subst ho
        refine ⟨rfl, ?_⟩
        have e9 : A_.tmps[9]?.getD undef = .pointer (some ⟨v1.heap.size, 0, none⟩) := by rw [hI.low 9 (by decide)]; rfl
        clear hI hdep
        obtain ⟨⟨d0, d1, d2, d3, d4, d5, d6, d7, d8, d9, d10⟩, ⟨f0, f1, f2, f3, f4, f5, f6, f7, f8, f9, f10⟩, ⟨p0, p1, p2, p3, p4, p5, p6, p7, p8, p9, p10⟩, s0, s1, s2, s3, s4, s5, s6, s7, s8, s9, s10⟩ := HK.out w3 hh
        exact .run rfl (.agg #[.int .i64 ek1, .int .i64 en1, .int .i64 ea1, .int .i64 ec1, .int .i64 eh1, .int .i64 et1, .int .i64 ei1, .int .i64 ep1, .slice B1 m1 c1, .bool false, .slice none 0 0]) w3 (by simp [execOp, go_sem, Act.eval, *]) (Below.refl _ _) rfl
      · simp only [List.getElem?_toArray, List.getElem?_cons_succ, List.getElem?_cons_zero, Option.some.injEq] at ho
        subst ho
        refine ⟨rfl, ?_⟩
        have e10 : A_.tmps[10]?.getD undef = .pointer (some ⟨v2.heap.size, 0, none⟩) := by rw [hI.low 10 (by decide)]; rfl
        clear hI hdep
        obtain ⟨⟨d0, d1, d2, d3, d4, d5, d6, d7, d8, d9, d10⟩, ⟨f0, f1, f2, f3, f4, f5, f6, f7, f8, f9, f10⟩, ⟨p0, p1, p2, p3, p4, p5, p6, p7, p8, p9, p10⟩, s0, s1, s2, s3, s4, s5, s6, s7, s8, s9, s10⟩ := HK.out w3 hh
        exact .run rfl (.agg #[.int .i64 ek2, .int .i64 en2, .int .i64 ea2, .int .i64 ec2, .int .i64 eh2, .int .i64 et2, .int .i64 ei2, .int .i64 ep2, .slice B2 m2 c2, .bool false, .slice none 0 0]) w3 (by simp [execOp, go_sem, Act.eval, *]) (Below.refl _ _) rfl
      · simp only [List.getElem?_toArray, List.getElem?_cons_succ, List.getElem?_cons_zero, Option.some.injEq] at ho
        subst ho
        refine ⟨rfl, ?_⟩
        have e54 : A_.tmps[54]?.getD undef = .agg #[.int .i64 ek1, .int .i64 en1, .int .i64 ea1, .int .i64 ec1, .int .i64 eh1, .int .i64 et1, .int .i64 ei1, .int .i64 ep1, .slice B1 m1 c1, .bool false, .slice none 0 0] := getD_of (hI.val_ (i := 0) rfl rfl (by decide) (hdep ⟨0, .data⟩ (by simp) rfl))
        have e55 : A_.tmps[55]?.getD undef = .agg #[.int .i64 ek2, .int .i64 en2, .int .i64 ea2, .int .i64 ec2, .int .i64 eh2, .int .i64 et2, .int .i64 ei2, .int .i64 ep2, .slice B2 m2 c2, .bool false, .slice none 0 0] := getD_of (hI.val_ (i := 1) rfl rfl (by decide) (hdep ⟨1, .data⟩ (by simp) rfl))
        clear hI hdep
        exact .call rfl 8 #[.agg #[.int .i64 ek1, .int .i64 en1, .int .i64 ea1, .int .i64 ec1, .int .i64 eh1, .int .i64 et1, .int .i64 ei1, .int .i64 ep1, .slice B1 m1 c1, .bool false, .slice none 0 0], .agg #[.int .i64 ek2, .int .i64 en2, .int .i64 ea2, .int .i64 ec2, .int .i64 eh2, .int .i64 et2, .int .i64 ei2, .int .i64 ep2, .slice B2 m2 c2, .bool false, .slice none 0 0]] (by simp [go_sem, Act.eval, e54, e55]) ((HP12.out w3 hh).mono fun _ _ ⟨h1_, h2_⟩ => ⟨⟨_, h1_, rfl⟩, h2_⟩)
      · simp only [List.getElem?_toArray, List.getElem?_cons_succ, List.getElem?_cons_zero, Option.some.injEq] at ho
        subst ho
        refine ⟨rfl, ?_⟩
        have e9 : A_.tmps[9]?.getD undef = .pointer (some ⟨v1.heap.size, 0, none⟩) := by rw [hI.low 9 (by decide)]; rfl
        clear hI hdep
        obtain ⟨⟨d0, d1, d2, d3, d4, d5, d6, d7, d8, d9, d10⟩, ⟨f0, f1, f2, f3, f4, f5, f6, f7, f8, f9, f10⟩, ⟨p0, p1, p2, p3, p4, p5, p6, p7, p8, p9, p10⟩, s0, s1, s2, s3, s4, s5, s6, s7, s8, s9, s10⟩ := HK.out w3 hh
        exact .run rfl (.agg #[.int .i64 ek1, .int .i64 en1, .int .i64 ea1, .int .i64 ec1, .int .i64 eh1, .int .i64 et1, .int .i64 ei1, .int .i64 ep1, .slice B1 m1 c1, .bool false, .slice none 0 0]) w3 (by simp [execOp, go_sem, Act.eval, *]) (Below.refl _ _) rfl
      · simp only [List.getElem?_toArray, List.getElem?_cons_succ, List.getElem?_cons_zero, Option.some.injEq] at ho
        subst ho
        refine ⟨rfl, ?_⟩
        have e10 : A_.tmps[10]?.getD undef = .pointer (some ⟨v2.heap.size, 0, none⟩) := by rw [hI.low 10 (by decide)]; rfl
        clear hI hdep
        obtain ⟨⟨d0, d1, d2, d3, d4, d5, d6, d7, d8, d9, d10⟩, ⟨f0, f1, f2, f3, f4, f5, f6, f7, f8, f9, f10⟩, ⟨p0, p1, p2, p3, p4, p5, p6, p7, p8, p9, p10⟩, s0, s1, s2, s3, s4, s5, s6, s7, s8, s9, s10⟩ := HK.out w3 hh
        exact .run rfl (.agg #[.int .i64 ek2, .int .i64 en2, .int .i64 ea2, .int .i64 ec2, .int .i64 eh2, .int .i64 et2, .int .i64 ei2, .int .i64 ep2, .slice B2 m2 c2, .bool false, .slice none 0 0]) w3 (by simp [execOp, go_sem, Act.eval, *]) (Below.refl _ _) rfl
      · simp only [List.getElem?_toArray, List.getElem?_cons_succ, List.getElem?_cons_zero, Option.some.injEq] at ho
        subst ho
        refine ⟨rfl, ?_⟩
        have e57 : A_.tmps[57]?.getD undef = .agg #[.int .i64 ek1, .int .i64 en1, .int .i64 ea1, .int .i64 ec1, .int .i64 eh1, .int .i64 et1, .int .i64 ei1, .int .i64 ep1, .slice B1 m1 c1, .bool false, .slice none 0 0] := getD_of (hI.val_ (i := 3) rfl rfl (by decide) (hdep ⟨3, .data⟩ (by simp) rfl))
        have e58 : A_.tmps[58]?.getD undef = .agg #[.int .i64 ek2, .int .i64 en2, .int .i64 ea2, .int .i64 ec2, .int .i64 eh2, .int .i64 et2, .int .i64 ei2, .int .i64 ep2, .slice B2 m2 c2, .bool false, .slice none 0 0] := getD_of (hI.val_ (i := 4) rfl rfl (by decide) (hdep ⟨4, .data⟩ (by simp) rfl))
        clear hI hdep
        exact .call rfl 9 #[.agg #[.int .i64 ek1, .int .i64 en1, .int .i64 ea1, .int .i64 ec1, .int .i64 eh1, .int .i64 et1, .int .i64 ei1, .int .i64 ep1, .slice B1 m1 c1, .bool false, .slice none 0 0], .agg #[.int .i64 ek2, .int .i64 en2, .int .i64 ea2, .int .i64 ec2, .int .i64 eh2, .int .i64 et2, .int .i64 ei2, .int .i64 ep2, .slice B2 m2 c2, .bool false, .slice none 0 0]] (by simp [go_sem, Act.eval, e57, e58]) ((HR12.out w3 hh).mono fun _ _ ⟨h1_, h2_⟩ => ⟨⟨_, h1_, rfl⟩, h2_⟩)
      · simp only [List.getElem?_toArray, List.getElem?_cons_succ, List.getElem?_cons_zero, Option.some.injEq] at ho
        subst ho
        refine ⟨rfl, ?_⟩
        have e56 : A_.tmps[56]?.getD undef = .int .i64 r12 := getD_of (hI.val_ (i := 2) rfl rfl (by decide) (hdep ⟨2, .data⟩ (by simp) rfl))
        have e59 : A_.tmps[59]?.getD undef = .int .i64 r12 := getD_of (hI.val_ (i := 5) rfl rfl (by decide) (hdep ⟨5, .data⟩ (by simp) rfl))
        clear hI hdep
        exact .run rfl (.bool true) w3 (by simp [execOp, go_sem, Act.eval, *]) (Below.refl _ _) rfl
      · simp only [List.getElem?_toArray, List.getElem?_cons_succ, List.getElem?_cons_zero, Option.some.injEq] at ho
        subst ho
        refine ⟨rfl, ?_⟩
        have e60 : A_.tmps[60]?.getD undef = .bool true := getD_of (hI.val_ (i := 6) rfl rfl (by decide) (hdep ⟨6, .data⟩ (by simp) rfl))
        clear hI hdep
        exact .run rfl (.bool true) w3 (by simp [execOp, go_sem, Act.eval, e60]) (Below.refl _ _) rfl
      · simp only [List.getElem?_toArray, List.getElem?_cons_succ, List.getElem?_cons_zero, Option.some.injEq] at ho
        subst ho
        refine ⟨rfl, ?_⟩
        have q61 : A_.tmps[61]? = some (.bool true) := hI.val_ (i := 7) rfl rfl (by decide) (hdep ⟨7, .guard⟩ (by simp) rfl)
        have e9 : A_.tmps[9]?.getD undef = .pointer (some ⟨v1.heap.size, 0, none⟩) := by rw [hI.low 9 (by decide)]; rfl
        clear hI hdep
        obtain ⟨⟨d0, d1, d2, d3, d4, d5, d6, d7, d8, d9, d10⟩, ⟨f0, f1, f2, f3, f4, f5, f6, f7, f8, f9, f10⟩, ⟨p0, p1, p2, p3, p4, p5, p6, p7, p8, p9, p10⟩, s0, s1, s2, s3, s4, s5, s6, s7, s8, s9, s10⟩ := HK.out w3 hh
        exact .run ((wanted_some rfl rfl q61).trans rfl) (.agg #[.int .i64 ek1, .int .i64 en1, .int .i64 ea1, .int .i64 ec1, .int .i64 eh1, .int .i64 et1, .int .i64 ei1, .int .i64 ep1, .slice B1 m1 c1, .bool false, .slice none 0 0]) w3 (by simp [execOp, go_sem, Act.eval, *]) (Below.refl _ _) rfl
      · simp only [List.getElem?_toArray, List.getElem?_cons_succ, List.getElem?_cons_zero, Option.some.injEq] at ho
        subst ho
        refine ⟨rfl, ?_⟩
        have q61 : A_.tmps[61]? = some (.bool true) := hI.val_ (i := 7) rfl rfl (by decide) (hdep ⟨7, .guard⟩ (by simp) rfl)
        have e11 : A_.tmps[11]?.getD undef = .pointer (some ⟨v3.heap.size, 0, none⟩) := by rw [hI.low 11 (by decide)]; rfl
        clear hI hdep
        obtain ⟨⟨d0, d1, d2, d3, d4, d5, d6, d7, d8, d9, d10⟩, ⟨f0, f1, f2, f3, f4, f5, f6, f7, f8, f9, f10⟩, ⟨p0, p1, p2, p3, p4, p5, p6, p7, p8, p9, p10⟩, s0, s1, s2, s3, s4, s5, s6, s7, s8, s9, s10⟩ := HK.out w3 hh
        exact .run ((wanted_some rfl rfl q61).trans rfl) (.agg #[.int .i64 ek1, .int .i64 en1, .int .i64 ea1, .int .i64 ec1, .int .i64 eh1, .int .i64 et1, .int .i64 ei1, .int .i64 ep1, .slice B3 q c3, .bool false, .slice none 0 0]) w3 (by simp [execOp, go_sem, Act.eval, *]) (Below.refl _ _) rfl
      · simp only [List.getElem?_toArray, List.getElem?_cons_succ, List.getElem?_cons_zero, Option.some.injEq] at ho
        subst ho
        refine ⟨rfl, ?_⟩
        have q61 : A_.tmps[61]? = some (.bool true) := hI.val_ (i := 7) rfl rfl (by decide) (hdep ⟨7, .guard⟩ (by simp) rfl)
        have e62 : A_.tmps[62]?.getD undef = .agg #[.int .i64 ek1, .int .i64 en1, .int .i64 ea1, .int .i64 ec1, .int .i64 eh1, .int .i64 et1, .int .i64 ei1, .int .i64 ep1, .slice B1 m1 c1, .bool false, .slice none 0 0] := getD_of (hI.val_ (i := 8) rfl rfl (by decide) (hdep ⟨8, .data⟩ (by simp) rfl))
        have e63 : A_.tmps[63]?.getD undef = .agg #[.int .i64 ek1, .int .i64 en1, .int .i64 ea1, .int .i64 ec1, .int .i64 eh1, .int .i64 et1, .int .i64 ei1, .int .i64 ep1, .slice B3 q c3, .bool false, .slice none 0 0] := getD_of (hI.val_ (i := 9) rfl rfl (by decide) (hdep ⟨9, .data⟩ (by simp) rfl))
        clear hI hdep
        exact .call ((wanted_some rfl rfl q61).trans rfl) 8 #[.agg #[.int .i64 ek1, .int .i64 en1, .int .i64 ea1, .int .i64 ec1, .int .i64 eh1, .int .i64 et1, .int .i64 ei1, .int .i64 ep1, .slice B1 m1 c1, .bool false, .slice none 0 0], .agg #[.int .i64 ek1, .int .i64 en1, .int .i64 ea1, .int .i64 ec1, .int .i64 eh1, .int .i64 et1, .int .i64 ei1, .int .i64 ep1, .slice B3 q c3, .bool false, .slice none 0 0]] (by simp [go_sem, Act.eval, e62, e63]) ((HP14.out w3 hh).mono fun _ _ ⟨h1_, h2_⟩ => ⟨⟨_, h1_, rfl⟩, h2_⟩)
      · simp only [List.getElem?_toArray, List.getElem?_cons_succ, List.getElem?_cons_zero, Option.some.injEq] at ho
        subst ho
        refine ⟨rfl, ?_⟩
        have q61 : A_.tmps[61]? = some (.bool true) := hI.val_ (i := 7) rfl rfl (by decide) (hdep ⟨7, .guard⟩ (by simp) rfl)
        have e9 : A_.tmps[9]?.getD undef = .pointer (some ⟨v1.heap.size, 0, none⟩) := by rw [hI.low 9 (by decide)]; rfl
        clear hI hdep
        obtain ⟨⟨d0, d1, d2, d3, d4, d5, d6, d7, d8, d9, d10⟩, ⟨f0, f1, f2, f3, f4, f5, f6, f7, f8, f9, f10⟩, ⟨p0, p1, p2, p3, p4, p5, p6, p7, p8, p9, p10⟩, s0, s1, s2, s3, s4, s5, s6, s7, s8, s9, s10⟩ := HK.out w3 hh
        exact .run ((wanted_some rfl rfl q61).trans rfl) (.agg #[.int .i64 ek1, .int .i64 en1, .int .i64 ea1, .int .i64 ec1, .int .i64 eh1, .int .i64 et1, .int .i64 ei1, .int .i64 ep1, .slice B1 m1 c1, .bool false, .slice none 0 0]) w3 (by simp [execOp, go_sem, Act.eval, *]) (Below.refl _ _) rfl
      · simp only [List.getElem?_toArray, List.getElem?_cons_succ, List.getElem?_cons_zero, Option.some.injEq] at ho
        subst ho
        refine ⟨rfl, ?_⟩
        have q61 : A_.tmps[61]? = some (.bool true) := hI.val_ (i := 7) rfl rfl (by decide) (hdep ⟨7, .guard⟩ (by simp) rfl)
        have e11 : A_.tmps[11]?.getD undef = .pointer (some ⟨v3.heap.size, 0, none⟩) := by rw [hI.low 11 (by decide)]; rfl
        clear hI hdep
        obtain ⟨⟨d0, d1, d2, d3, d4, d5, d6, d7, d8, d9, d10⟩, ⟨f0, f1, f2, f3, f4, f5, f6, f7, f8, f9, f10⟩, ⟨p0, p1, p2, p3, p4, p5, p6, p7, p8, p9, p10⟩, s0, s1, s2, s3, s4, s5, s6, s7, s8, s9, s10⟩ := HK.out w3 hh
        exact .run ((wanted_some rfl rfl q61).trans rfl) (.agg #[.int .i64 ek1, .int .i64 en1, .int .i64 ea1, .int .i64 ec1, .int .i64 eh1, .int .i64 et1, .int .i64 ei1, .int .i64 ep1, .slice B3 q c3, .bool false, .slice none 0 0]) w3 (by simp [execOp, go_sem, Act.eval, *]) (Below.refl _ _) rfl
      · simp only [List.getElem?_toArray, List.getElem?_cons_succ, List.getElem?_cons_zero, Option.some.injEq] at ho
        subst ho
        refine ⟨rfl, ?_⟩
        have q61 : A_.tmps[61]? = some (.bool true) := hI.val_ (i := 7) rfl rfl (by decide) (hdep ⟨7, .guard⟩ (by simp) rfl)
        have e65 : A_.tmps[65]?.getD undef = .agg #[.int .i64 ek1, .int .i64 en1, .int .i64 ea1, .int .i64 ec1, .int .i64 eh1, .int .i64 et1, .int .i64 ei1, .int .i64 ep1, .slice B1 m1 c1, .bool false, .slice none 0 0] := getD_of (hI.val_ (i := 11) rfl rfl (by decide) (hdep ⟨11, .data⟩ (by simp) rfl))
        have e66 : A_.tmps[66]?.getD undef = .agg #[.int .i64 ek1, .int .i64 en1, .int .i64 ea1, .int .i64 ec1, .int .i64 eh1, .int .i64 et1, .int .i64 ei1, .int .i64 ep1, .slice B3 q c3, .bool false, .slice none 0 0] := getD_of (hI.val_ (i := 12) rfl rfl (by decide) (hdep ⟨12, .data⟩ (by simp) rfl))
        clear hI hdep
        exact .call ((wanted_some rfl rfl q61).trans rfl) 9 #[.agg #[.int .i64 ek1, .int .i64 en1, .int .i64 ea1, .int .i64 ec1, .int .i64 eh1, .int .i64 et1, .int .i64 ei1, .int .i64 ep1, .slice B1 m1 c1, .bool false, .slice none 0 0], .agg #[.int .i64 ek1, .int .i64 en1, .int .i64 ea1, .int .i64 ec1, .int .i64 eh1, .int .i64 et1, .int .i64 ei1, .int .i64 ep1, .slice B3 q c3, .bool false, .slice none 0 0]] (by simp [go_sem, Act.eval, e65, e66]) ((HR14.out w3 hh).mono fun _ _ ⟨h1_, h2_⟩ => ⟨⟨_, h1_, rfl⟩, h2_⟩)
      · simp only [List.getElem?_toArray, List.getElem?_cons_succ, List.getElem?_cons_zero, Option.some.injEq] at ho
        subst ho
        refine ⟨rfl, ?_⟩
        have q61 : A_.tmps[61]? = some (.bool true) := hI.val_ (i := 7) rfl rfl (by decide) (hdep ⟨7, .guard⟩ (by simp) rfl)
        have e64 : A_.tmps[64]?.getD undef = .int .i64 r14 := getD_of (hI.val_ (i := 10) rfl rfl (by decide) (hdep ⟨10, .data⟩ (by simp) rfl))
        have e67 : A_.tmps[67]?.getD undef = .int .i64 r14 := getD_of (hI.val_ (i := 13) rfl rfl (by decide) (hdep ⟨13, .data⟩ (by simp) rfl))
        clear hI hdep
        exact .run ((wanted_some rfl rfl q61).trans rfl) (.bool true) w3 (by simp [execOp, go_sem, Act.eval, *]) (Below.refl _ _) rfl
      · simp only [List.getElem?_toArray, List.getElem?_cons_succ, List.getElem?_cons_zero, Option.some.injEq] at ho
        subst ho
        refine ⟨rfl, ?_⟩
        have e61 : A_.tmps[61]?.getD undef = .bool true := getD_of (hI.val_ (i := 7) rfl rfl (by decide) (hdep ⟨7, .data⟩ (by simp) rfl))
        have e68 : A_.tmps[68]?.getD undef = .bool true := getD_of (hI.val_ (i := 14) rfl rfl (by decide) (hdep ⟨14, .data⟩ (by simp) rfl))
        clear hI hdep
        exact .run rfl (.bool true) w3 (by simp [execOp, go_sem, Act.eval, e61, e68]) (Below.refl _ _) rfl
      · simp only [List.getElem?_toArray, List.getElem?_cons_succ, List.getElem?_cons_zero, Option.some.injEq] at ho
        subst ho
        refine ⟨rfl, ?_⟩
        have e69 : A_.tmps[69]?.getD undef = .bool true := getD_of (hI.val_ (i := 15) rfl rfl (by decide) (hdep ⟨15, .data⟩ (by simp) rfl))
        clear hI hdep
        exact .run rfl (.bool true) w3 (by simp [execOp, go_sem, Act.eval, e69]) (Below.refl _ _) rfl
      · simp only [List.getElem?_toArray, List.getElem?_cons_succ, List.getElem?_cons_zero, Option.some.injEq] at ho
        subst ho
        refine ⟨rfl, ?_⟩
        have q70 : A_.tmps[70]? = some (.bool true) := hI.val_ (i := 16) rfl rfl (by decide) (hdep ⟨16, .guard⟩ (by simp) rfl)
        have e11 : A_.tmps[11]?.getD undef = .pointer (some ⟨v3.heap.size, 0, none⟩) := by rw [hI.low 11 (by decide)]; rfl
        clear hI hdep
        obtain ⟨⟨d0, d1, d2, d3, d4, d5, d6, d7, d8, d9, d10⟩, ⟨f0, f1, f2, f3, f4, f5, f6, f7, f8, f9, f10⟩, ⟨p0, p1, p2, p3, p4, p5, p6, p7, p8, p9, p10⟩, s0, s1, s2, s3, s4, s5, s6, s7, s8, s9, s10⟩ := HK.out w3 hh
        exact .run ((wanted_some rfl rfl q70).trans rfl) (.agg #[.int .i64 ek1, .int .i64 en1, .int .i64 ea1, .int .i64 ec1, .int .i64 eh1, .int .i64 et1, .int .i64 ei1, .int .i64 ep1, .slice B3 q c3, .bool false, .slice none 0 0]) w3 (by simp [execOp, go_sem, Act.eval, *]) (Below.refl _ _) rfl
      · simp only [List.getElem?_toArray, List.getElem?_cons_succ, List.getElem?_cons_zero, Option.some.injEq] at ho
        subst ho
        refine ⟨rfl, ?_⟩
        have q70 : A_.tmps[70]? = some (.bool true) := hI.val_ (i := 16) rfl rfl (by decide) (hdep ⟨16, .guard⟩ (by simp) rfl)
        have e9 : A_.tmps[9]?.getD undef = .pointer (some ⟨v1.heap.size, 0, none⟩) := by rw [hI.low 9 (by decide)]; rfl
        clear hI hdep
        obtain ⟨⟨d0, d1, d2, d3, d4, d5, d6, d7, d8, d9, d10⟩, ⟨f0, f1, f2, f3, f4, f5, f6, f7, f8, f9, f10⟩, ⟨p0, p1, p2, p3, p4, p5, p6, p7, p8, p9, p10⟩, s0, s1, s2, s3, s4, s5, s6, s7, s8, s9, s10⟩ := HK.out w3 hh
        exact .run ((wanted_some rfl rfl q70).trans rfl) (.agg #[.int .i64 ek1, .int .i64 en1, .int .i64 ea1, .int .i64 ec1, .int .i64 eh1, .int .i64 et1, .int .i64 ei1, .int .i64 ep1, .slice B1 m1 c1, .bool false, .slice none 0 0]) w3 (by simp [execOp, go_sem, Act.eval, *]) (Below.refl _ _) rfl
      · simp only [List.getElem?_toArray, List.getElem?_cons_succ, List.getElem?_cons_zero, Option.some.injEq] at ho
        subst ho
        refine ⟨rfl, ?_⟩
        have q70 : A_.tmps[70]? = some (.bool true) := hI.val_ (i := 16) rfl rfl (by decide) (hdep ⟨16, .guard⟩ (by simp) rfl)
        have e71 : A_.tmps[71]?.getD undef = .agg #[.int .i64 ek1, .int .i64 en1, .int .i64 ea1, .int .i64 ec1, .int .i64 eh1, .int .i64 et1, .int .i64 ei1, .int .i64 ep1, .slice B3 q c3, .bool false, .slice none 0 0] := getD_of (hI.val_ (i := 17) rfl rfl (by decide) (hdep ⟨17, .data⟩ (by simp) rfl))
        have e72 : A_.tmps[72]?.getD undef = .agg #[.int .i64 ek1, .int .i64 en1, .int .i64 ea1, .int .i64 ec1, .int .i64 eh1, .int .i64 et1, .int .i64 ei1, .int .i64 ep1, .slice B1 m1 c1, .bool false, .slice none 0 0] := getD_of (hI.val_ (i := 18) rfl rfl (by decide) (hdep ⟨18, .data⟩ (by simp) rfl))
        clear hI hdep
        exact .call ((wanted_some rfl rfl q70).trans rfl) 8 #[.agg #[.int .i64 ek1, .int .i64 en1, .int .i64 ea1, .int .i64 ec1, .int .i64 eh1, .int .i64 et1, .int .i64 ei1, .int .i64 ep1, .slice B3 q c3, .bool false, .slice none 0 0], .agg #[.int .i64 ek1, .int .i64 en1, .int .i64 ea1, .int .i64 ec1, .int .i64 eh1, .int .i64 et1, .int .i64 ei1, .int .i64 ep1, .slice B1 m1 c1, .bool false, .slice none 0 0]] (by simp [go_sem, Act.eval, e71, e72]) ((HP41.out w3 hh).mono fun _ _ ⟨h1_, h2_⟩ => ⟨⟨_, h1_, rfl⟩, h2_⟩)
      · simp only [List.getElem?_toArray, List.getElem?_cons_succ, List.getElem?_cons_zero, Option.some.injEq] at ho
        subst ho
        refine ⟨rfl, ?_⟩
        have q70 : A_.tmps[70]? = some (.bool true) := hI.val_ (i := 16) rfl rfl (by decide) (hdep ⟨16, .guard⟩ (by simp) rfl)
        have e11 : A_.tmps[11]?.getD undef = .pointer (some ⟨v3.heap.size, 0, none⟩) := by rw [hI.low 11 (by decide)]; rfl
        clear hI hdep
        obtain ⟨⟨d0, d1, d2, d3, d4, d5, d6, d7, d8, d9, d10⟩, ⟨f0, f1, f2, f3, f4, f5, f6, f7, f8, f9, f10⟩, ⟨p0, p1, p2, p3, p4, p5, p6, p7, p8, p9, p10⟩, s0, s1, s2, s3, s4, s5, s6, s7, s8, s9, s10⟩ := HK.out w3 hh
        exact .run ((wanted_some rfl rfl q70).trans rfl) (.agg #[.int .i64 ek1, .int .i64 en1, .int .i64 ea1, .int .i64 ec1, .int .i64 eh1, .int .i64 et1, .int .i64 ei1, .int .i64 ep1, .slice B3 q c3, .bool false, .slice none 0 0]) w3 (by simp [execOp, go_sem, Act.eval, *]) (Below.refl _ _) rfl
      · simp only [List.getElem?_toArray, List.getElem?_cons_succ, List.getElem?_cons_zero, Option.some.injEq] at ho
        subst ho
        refine ⟨rfl, ?_⟩
        have q70 : A_.tmps[70]? = some (.bool true) := hI.val_ (i := 16) rfl rfl (by decide) (hdep ⟨16, .guard⟩ (by simp) rfl)
        have e9 : A_.tmps[9]?.getD undef = .pointer (some ⟨v1.heap.size, 0, none⟩) := by rw [hI.low 9 (by decide)]; rfl
        clear hI hdep
        obtain ⟨⟨d0, d1, d2, d3, d4, d5, d6, d7, d8, d9, d10⟩, ⟨f0, f1, f2, f3, f4, f5, f6, f7, f8, f9, f10⟩, ⟨p0, p1, p2, p3, p4, p5, p6, p7, p8, p9, p10⟩, s0, s1, s2, s3, s4, s5, s6, s7, s8, s9, s10⟩ := HK.out w3 hh
        exact .run ((wanted_some rfl rfl q70).trans rfl) (.agg #[.int .i64 ek1, .int .i64 en1, .int .i64 ea1, .int .i64 ec1, .int .i64 eh1, .int .i64 et1, .int .i64 ei1, .int .i64 ep1, .slice B1 m1 c1, .bool false, .slice none 0 0]) w3 (by simp [execOp, go_sem, Act.eval, *]) (Below.refl _ _) rfl
      · simp only [List.getElem?_toArray, List.getElem?_cons_succ, List.getElem?_cons_zero, Option.some.injEq] at ho
        subst ho
        refine ⟨rfl, ?_⟩
        have q70 : A_.tmps[70]? = some (.bool true) := hI.val_ (i := 16) rfl rfl (by decide) (hdep ⟨16, .guard⟩ (by simp) rfl)
        have e74 : A_.tmps[74]?.getD undef = .agg #[.int .i64 ek1, .int .i64 en1, .int .i64 ea1, .int .i64 ec1, .int .i64 eh1, .int .i64 et1, .int .i64 ei1, .int .i64 ep1, .slice B3 q c3, .bool false, .slice none 0 0] := getD_of (hI.val_ (i := 20) rfl rfl (by decide) (hdep ⟨20, .data⟩ (by simp) rfl))
        have e75 : A_.tmps[75]?.getD undef = .agg #[.int .i64 ek1, .int .i64 en1, .int .i64 ea1, .int .i64 ec1, .int .i64 eh1, .int .i64 et1, .int .i64 ei1, .int .i64 ep1, .slice B1 m1 c1, .bool false, .slice none 0 0] := getD_of (hI.val_ (i := 21) rfl rfl (by decide) (hdep ⟨21, .data⟩ (by simp) rfl))
        clear hI hdep
        exact .call ((wanted_some rfl rfl q70).trans rfl) 9 #[.agg #[.int .i64 ek1, .int .i64 en1, .int .i64 ea1, .int .i64 ec1, .int .i64 eh1, .int .i64 et1, .int .i64 ei1, .int .i64 ep1, .slice B3 q c3, .bool false, .slice none 0 0], .agg #[.int .i64 ek1, .int .i64 en1, .int .i64 ea1, .int .i64 ec1, .int .i64 eh1, .int .i64 et1, .int .i64 ei1, .int .i64 ep1, .slice B1 m1 c1, .bool false, .slice none 0 0]] (by simp [go_sem, Act.eval, e74, e75]) ((HR41.out w3 hh).mono fun _ _ ⟨h1_, h2_⟩ => ⟨⟨_, h1_, rfl⟩, h2_⟩)
      · simp only [List.getElem?_toArray, List.getElem?_cons_succ, List.getElem?_cons_zero, Option.some.injEq] at ho
        subst ho
        refine ⟨rfl, ?_⟩
        have q70 : A_.tmps[70]? = some (.bool true) := hI.val_ (i := 16) rfl rfl (by decide) (hdep ⟨16, .guard⟩ (by simp) rfl)
        have e73 : A_.tmps[73]?.getD undef = .int .i64 r41 := getD_of (hI.val_ (i := 19) rfl rfl (by decide) (hdep ⟨19, .data⟩ (by simp) rfl))
        have e76 : A_.tmps[76]?.getD undef = .int .i64 r41 := getD_of (hI.val_ (i := 22) rfl rfl (by decide) (hdep ⟨22, .data⟩ (by simp) rfl))
        clear hI hdep
        exact .run ((wanted_some rfl rfl q70).trans rfl) (.bool true) w3 (by simp [execOp, go_sem, Act.eval, *]) (Below.refl _ _) rfl
      · simp only [List.getElem?_toArray, List.getElem?_cons_succ, List.getElem?_cons_zero, Option.some.injEq] at ho
        subst ho
        refine ⟨rfl, ?_⟩
        have e70 : A_.tmps[70]?.getD undef = .bool true := getD_of (hI.val_ (i := 16) rfl rfl (by decide) (hdep ⟨16, .data⟩ (by simp) rfl))
        have e77 : A_.tmps[77]?.getD undef = .bool true := getD_of (hI.val_ (i := 23) rfl rfl (by decide) (hdep ⟨23, .data⟩ (by simp) rfl))
        clear hI hdep
        exact .run rfl (.bool true) w3 (by simp [execOp, go_sem, Act.eval, e70, e77]) (Below.refl _ _) rfl
      · simp only [List.getElem?_toArray, List.getElem?_cons_succ, List.getElem?_cons_zero, Option.some.injEq] at ho
        subst ho
        refine ⟨rfl, ?_⟩
        have e78 : A_.tmps[78]?.getD undef = .bool true := getD_of (hI.val_ (i := 24) rfl rfl (by decide) (hdep ⟨24, .data⟩ (by simp) rfl))
        clear hI hdep
        exact .run rfl (.bool true) w3 (by simp [execOp, go_sem, Act.eval, e78]) (Below.refl _ _) rfl
      · simp only [List.getElem?_toArray, List.getElem?_cons_succ, List.getElem?_cons_zero, Option.some.injEq] at ho
        subst ho
        refine ⟨rfl, ?_⟩
        have q79 : A_.tmps[79]? = some (.bool true) := hI.val_ (i := 25) rfl rfl (by decide) (hdep ⟨25, .guard⟩ (by simp) rfl)
        have e9 : A_.tmps[9]?.getD undef = .pointer (some ⟨v1.heap.size, 0, none⟩) := by rw [hI.low 9 (by decide)]; rfl
        clear hI hdep
        obtain ⟨⟨d0, d1, d2, d3, d4, d5, d6, d7, d8, d9, d10⟩, ⟨f0, f1, f2, f3, f4, f5, f6, f7, f8, f9, f10⟩, ⟨p0, p1, p2, p3, p4, p5, p6, p7, p8, p9, p10⟩, s0, s1, s2, s3, s4, s5, s6, s7, s8, s9, s10⟩ := HK.out w3 hh
        exact .run ((wanted_some rfl rfl q79).trans rfl) (.agg #[.int .i64 ek1, .int .i64 en1, .int .i64 ea1, .int .i64 ec1, .int .i64 eh1, .int .i64 et1, .int .i64 ei1, .int .i64 ep1, .slice B1 m1 c1, .bool false, .slice none 0 0]) w3 (by simp [execOp, go_sem, Act.eval, *]) (Below.refl _ _) rfl
      · simp only [List.getElem?_toArray, List.getElem?_cons_succ, List.getElem?_cons_zero, Option.some.injEq] at ho
        subst ho
        refine ⟨rfl, ?_⟩
        have q79 : A_.tmps[79]? = some (.bool true) := hI.val_ (i := 25) rfl rfl (by decide) (hdep ⟨25, .guard⟩ (by simp) rfl)
        have e12 : A_.tmps[12]?.getD undef = .pointer (some ⟨v5.heap.size, 0, none⟩) := by rw [hI.low 12 (by decide)]; rfl
        clear hI hdep
        obtain ⟨⟨d0, d1, d2, d3, d4, d5, d6, d7, d8, d9, d10⟩, ⟨f0, f1, f2, f3, f4, f5, f6, f7, f8, f9, f10⟩, ⟨p0, p1, p2, p3, p4, p5, p6, p7, p8, p9, p10⟩, s0, s1, s2, s3, s4, s5, s6, s7, s8, s9, s10⟩ := HK.out w3 hh
        exact .run ((wanted_some rfl rfl q79).trans rfl) (.agg #[.int .i64 ek1, .int .i64 en1, .int .i64 ea1, .int .i64 ec1, .int .i64 eh1, .int .i64 et1, .int .i64 ei1, .int .i64 ep1, .slice (some ⟨g5, 0, none⟩) m1 c5, .bool true, .slice (some ⟨u6.heap.size, 0, none⟩) 1 1]) w3 (by simp [execOp, go_sem, Act.eval, *]) (Below.refl _ _) rfl
      · simp only [List.getElem?_toArray, List.getElem?_cons_succ, List.getElem?_cons_zero, Option.some.injEq] at ho
        subst ho
        refine ⟨rfl, ?_⟩
        have q79 : A_.tmps[79]? = some (.bool true) := hI.val_ (i := 25) rfl rfl (by decide) (hdep ⟨25, .guard⟩ (by simp) rfl)
        have e80 : A_.tmps[80]?.getD undef = .agg #[.int .i64 ek1, .int .i64 en1, .int .i64 ea1, .int .i64 ec1, .int .i64 eh1, .int .i64 et1, .int .i64 ei1, .int .i64 ep1, .slice B1 m1 c1, .bool false, .slice none 0 0] := getD_of (hI.val_ (i := 26) rfl rfl (by decide) (hdep ⟨26, .data⟩ (by simp) rfl))
        have e81 : A_.tmps[81]?.getD undef = .agg #[.int .i64 ek1, .int .i64 en1, .int .i64 ea1, .int .i64 ec1, .int .i64 eh1, .int .i64 et1, .int .i64 ei1, .int .i64 ep1, .slice (some ⟨g5, 0, none⟩) m1 c5, .bool true, .slice (some ⟨u6.heap.size, 0, none⟩) 1 1] := getD_of (hI.val_ (i := 27) rfl rfl (by decide) (hdep ⟨27, .data⟩ (by simp) rfl))
        clear hI hdep
        exact .call ((wanted_some rfl rfl q79).trans rfl) 8 #[.agg #[.int .i64 ek1, .int .i64 en1, .int .i64 ea1, .int .i64 ec1, .int .i64 eh1, .int .i64 et1, .int .i64 ei1, .int .i64 ep1, .slice B1 m1 c1, .bool false, .slice none 0 0], .agg #[.int .i64 ek1, .int .i64 en1, .int .i64 ea1, .int .i64 ec1, .int .i64 eh1, .int .i64 et1, .int .i64 ei1, .int .i64 ep1, .slice (some ⟨g5, 0, none⟩) m1 c5, .bool true, .slice (some ⟨u6.heap.size, 0, none⟩) 1 1]] (by simp [go_sem, Act.eval, e80, e81]) ((HP17.out w3 hh).mono fun _ _ ⟨h1_, h2_⟩ => ⟨⟨_, h1_, rfl⟩, h2_⟩)
      · simp only [List.getElem?_toArray, List.getElem?_cons_succ, List.getElem?_cons_zero, Option.some.injEq] at ho
        subst ho
        refine ⟨rfl, ?_⟩
        have q79 : A_.tmps[79]? = some (.bool true) := hI.val_ (i := 25) rfl rfl (by decide) (hdep ⟨25, .guard⟩ (by simp) rfl)
        have e9 : A_.tmps[9]?.getD undef = .pointer (some ⟨v1.heap.size, 0, none⟩) := by rw [hI.low 9 (by decide)]; rfl
        clear hI hdep
        obtain ⟨⟨d0, d1, d2, d3, d4, d5, d6, d7, d8, d9, d10⟩, ⟨f0, f1, f2, f3, f4, f5, f6, f7, f8, f9, f10⟩, ⟨p0, p1, p2, p3, p4, p5, p6, p7, p8, p9, p10⟩, s0, s1, s2, s3, s4, s5, s6, s7, s8, s9, s10⟩ := HK.out w3 hh
        exact .run ((wanted_some rfl rfl q79).trans rfl) (.agg #[.int .i64 ek1, .int .i64 en1, .int .i64 ea1, .int .i64 ec1, .int .i64 eh1, .int .i64 et1, .int .i64 ei1, .int .i64 ep1, .slice B1 m1 c1, .bool false, .slice none 0 0]) w3 (by simp [execOp, go_sem, Act.eval, *]) (Below.refl _ _) rfl
      · simp only [List.getElem?_toArray, List.getElem?_cons_succ, List.getElem?_cons_zero, Option.some.injEq] at ho
        subst ho
        refine ⟨rfl, ?_⟩
        have q79 : A_.tmps[79]? = some (.bool true) := hI.val_ (i := 25) rfl rfl (by decide) (hdep ⟨25, .guard⟩ (by simp) rfl)
        have e12 : A_.tmps[12]?.getD undef = .pointer (some ⟨v5.heap.size, 0, none⟩) := by rw [hI.low 12 (by decide)]; rfl
        clear hI hdep
        obtain ⟨⟨d0, d1, d2, d3, d4, d5, d6, d7, d8, d9, d10⟩, ⟨f0, f1, f2, f3, f4, f5, f6, f7, f8, f9, f10⟩, ⟨p0, p1, p2, p3, p4, p5, p6, p7, p8, p9, p10⟩, s0, s1, s2, s3, s4, s5, s6, s7, s8, s9, s10⟩ := HK.out w3 hh
        exact .run ((wanted_some rfl rfl q79).trans rfl) (.agg #[.int .i64 ek1, .int .i64 en1, .int .i64 ea1, .int .i64 ec1, .int .i64 eh1, .int .i64 et1, .int .i64 ei1, .int .i64 ep1, .slice (some ⟨g5, 0, none⟩) m1 c5, .bool true, .slice (some ⟨u6.heap.size, 0, none⟩) 1 1]) w3 (by simp [execOp, go_sem, Act.eval, *]) (Below.refl _ _) rfl
      · simp only [List.getElem?_toArray, List.getElem?_cons_succ, List.getElem?_cons_zero, Option.some.injEq] at ho
        subst ho
        refine ⟨rfl, ?_⟩
        have q79 : A_.tmps[79]? = some (.bool true) := hI.val_ (i := 25) rfl rfl (by decide) (hdep ⟨25, .guard⟩ (by simp) rfl)
        have e83 : A_.tmps[83]?.getD undef = .agg #[.int .i64 ek1, .int .i64 en1, .int .i64 ea1, .int .i64 ec1, .int .i64 eh1, .int .i64 et1, .int .i64 ei1, .int .i64 ep1, .slice B1 m1 c1, .bool false, .slice none 0 0] := getD_of (hI.val_ (i := 29) rfl rfl (by decide) (hdep ⟨29, .data⟩ (by simp) rfl))
        have e84 : A_.tmps[84]?.getD undef = .agg #[.int .i64 ek1, .int .i64 en1, .int .i64 ea1, .int .i64 ec1, .int .i64 eh1, .int .i64 et1, .int .i64 ei1, .int .i64 ep1, .slice (some ⟨g5, 0, none⟩) m1 c5, .bool true, .slice (some ⟨u6.heap.size, 0, none⟩) 1 1] := getD_of (hI.val_ (i := 30) rfl rfl (by decide) (hdep ⟨30, .data⟩ (by simp) rfl))
        clear hI hdep
        exact .call ((wanted_some rfl rfl q79).trans rfl) 9 #[.agg #[.int .i64 ek1, .int .i64 en1, .int .i64 ea1, .int .i64 ec1, .int .i64 eh1, .int .i64 et1, .int .i64 ei1, .int .i64 ep1, .slice B1 m1 c1, .bool false, .slice none 0 0], .agg #[.int .i64 ek1, .int .i64 en1, .int .i64 ea1, .int .i64 ec1, .int .i64 eh1, .int .i64 et1, .int .i64 ei1, .int .i64 ep1, .slice (some ⟨g5, 0, none⟩) m1 c5, .bool true, .slice (some ⟨u6.heap.size, 0, none⟩) 1 1]] (by simp [go_sem, Act.eval, e83, e84]) ((HR17.out w3 hh).mono fun _ _ ⟨h1_, h2_⟩ => ⟨⟨_, h1_, rfl⟩, h2_⟩)
      · simp only [List.getElem?_toArray, List.getElem?_cons_succ, List.getElem?_cons_zero, Option.some.injEq] at ho
        subst ho
        refine ⟨rfl, ?_⟩
        have q79 : A_.tmps[79]? = some (.bool true) := hI.val_ (i := 25) rfl rfl (by decide) (hdep ⟨25, .guard⟩ (by simp) rfl)
        have e82 : A_.tmps[82]?.getD undef = .int .i64 r17 := getD_of (hI.val_ (i := 28) rfl rfl (by decide) (hdep ⟨28, .data⟩ (by simp) rfl))
        have e85 : A_.tmps[85]?.getD undef = .int .i64 r17 := getD_of (hI.val_ (i := 31) rfl rfl (by decide) (hdep ⟨31, .data⟩ (by simp) rfl))
        clear hI hdep
        exact .run ((wanted_some rfl rfl q79).trans rfl) (.bool true) w3 (by simp [execOp, go_sem, Act.eval, *]) (Below.refl _ _) rfl
      · simp only [List.getElem?_toArray, List.getElem?_cons_succ, List.getElem?_cons_zero, Option.some.injEq] at ho
        subst ho
        refine ⟨rfl, ?_⟩
        have e79 : A_.tmps[79]?.getD undef = .bool true := getD_of (hI.val_ (i := 25) rfl rfl (by decide) (hdep ⟨25, .data⟩ (by simp) rfl))
        have e86 : A_.tmps[86]?.getD undef = .bool true := getD_of (hI.val_ (i := 32) rfl rfl (by decide) (hdep ⟨32, .data⟩ (by simp) rfl))
        clear hI hdep
        exact .run rfl (.bool true) w3 (by simp [execOp, go_sem, Act.eval, e79, e86]) (Below.refl _ _) rfl
      · simp only [List.getElem?_toArray, List.getElem?_cons_succ, List.getElem?_cons_zero, Option.some.injEq] at ho
        subst ho
        refine ⟨rfl, ?_⟩
        have e87 : A_.tmps[87]?.getD undef = .bool true := getD_of (hI.val_ (i := 33) rfl rfl (by decide) (hdep ⟨33, .data⟩ (by simp) rfl))
        clear hI hdep
        exact .run rfl (.bool true) w3 (by simp [execOp, go_sem, Act.eval, e87]) (Below.refl _ _) rfl
      · simp only [List.getElem?_toArray, List.getElem?_cons_succ, List.getElem?_cons_zero, Option.some.injEq] at ho
        subst ho
        refine ⟨rfl, ?_⟩
        have q88 : A_.tmps[88]? = some (.bool true) := hI.val_ (i := 34) rfl rfl (by decide) (hdep ⟨34, .guard⟩ (by simp) rfl)
        clear hI hdep
        exact .call ((wanted_some rfl rfl q88).trans rfl) 10 #[] (by simp [go_sem]) ((HL.out w3 (HBF.out.trans (hh.mono HBF.out.size))).mono fun _ _ ⟨h1_, h2_⟩ => ⟨⟨_, h1_, rfl⟩, h2_⟩)
      · simp only [List.getElem?_toArray, List.getElem?_cons_succ, List.getElem?_cons_zero, Option.some.injEq] at ho
        subst ho
        refine ⟨rfl, ?_⟩
        have e88 : A_.tmps[88]?.getD undef = .bool true := getD_of (hI.val_ (i := 34) rfl rfl (by decide) (hdep ⟨34, .data⟩ (by simp) rfl))
        have e89 : A_.tmps[89]?.getD undef = .bool true := getD_of (hI.val_ (i := 35) rfl rfl (by decide) (hdep ⟨35, .data⟩ (by simp) rfl))
        clear hI hdep
        exact .run rfl (.bool true) w3 (by simp [execOp, go_sem, Act.eval, e88, e89]) (Below.refl _ _) rfl
      · simp only [List.getElem?_toArray, List.getElem?_cons_succ, List.getElem?_cons_zero, Option.some.injEq] at ho
        subst ho
        refine ⟨rfl, ?_⟩
        have e90 : A_.tmps[90]?.getD undef = .bool true := getD_of (hI.val_ (i := 36) rfl rfl (by decide) (hdep ⟨36, .data⟩ (by simp) rfl))
        clear hI hdep
        exact .run rfl (.bool true) w3 (by simp [execOp, go_sem, Act.eval, e90]) (Below.refl _ _) rfl
    case fin =>
    intro A_ w3 hs hd hlow hS hok
    obtain rfl : A_ = ⟨#[.slice A1 n1 k1, .slice A2 n2 k2, .int .i64 cut, .int .i64 nn, undef, undef, undef, undef, .bool true, .pointer (some ⟨v1.heap.size, 0, none⟩), .pointer (some ⟨v2.heap.size, 0, none⟩), .pointer (some ⟨v3.heap.size, 0, none⟩), .pointer (some ⟨v5.heap.size, 0, none⟩), .slice A1 n1 k1, .agg #[.int .i64 ek1, .int .i64 en1, .int .i64 ea1, .int .i64 ec1, .int .i64 eh1, .int .i64 et1, .int .i64 ei1, .int .i64 ep1, .slice B1 m1 c1, .bool false, .slice none 0 0], .slice A2 n2 k2, .agg #[.int .i64 ek2, .int .i64 en2, .int .i64 ea2, .int .i64 ec2, .int .i64 eh2, .int .i64 et2, .int .i64 ei2, .int .i64 ep2, .slice B2 m2 c2, .bool false, .slice none 0 0], .slice A1 n1 k1, .agg #[.int .i64 ek1, .int .i64 en1, .int .i64 ea1, .int .i64 ec1, .int .i64 eh1, .int .i64 et1, .int .i64 ei1, .int .i64 ep1, .slice B3 m1 c3, .bool false, .slice none 0 0], .pointer (some ⟨v3.heap.size, 8, none⟩), .slice B3 m1 c3, .int .i64 cut, .pointer (some ⟨v3.heap.size, 8, none⟩), .slice B3 m1 c3, .int .i64 (m1 : Int), .int .i64 ((m1 : Int) + 1), .int .i64 (q : Int), .slice B3 q c3, .pointer (some ⟨v3.heap.size, 8, none⟩), .slice A1 n1 k1, .agg #[.int .i64 ek1, .int .i64 en1, .int .i64 ea1, .int .i64 ec1, .int .i64 eh1, .int .i64 et1, .int .i64 ei1, .int .i64 ep1, .slice (some ⟨g5, 0, none⟩) m1 c5, .bool false, .slice none 0 0], .pointer (some ⟨v5.heap.size, 9, none⟩), .int .i64 nn, .agg #[.int .i64 0, .int .i64 0, .int .i64 0, .int .i64 nn, .int .i64 0], .slice (some ⟨u6.heap.size, 0, none⟩) 1 1, .pointer (some ⟨v5.heap.size, 10, none⟩), .pointer (some ⟨v5.heap.size, 8, none⟩), .slice (some ⟨g5, 0, none⟩) m1 c5, .int .i64 (m1 : Int), .bool true, .pointer (some ⟨v5.heap.size, 8, none⟩), .slice (some ⟨g5, 0, none⟩) m1 c5, .pointer (some ⟨v5.heap.size, 8, none⟩), .slice (some ⟨g5, 0, none⟩) m1 c5, .int .i64 (m1 : Int), .int .i64 (m0 : Int), .int .i64 nn, .int .i64 a4, .pointer (some { block := g5, off := m0 * 7 }), .pointer (some { block := g5, off := m0 * 7 + 6 }), .pointer (some ⟨v5.heap.size, 8, none⟩), .slice (some ⟨g5, 0, none⟩) m1 c5, .pointer (some ⟨g5, 0, none⟩), .pointer (some ⟨g5, 5, none⟩), .agg #[.int .i64 ek1, .int .i64 en1, .int .i64 ea1, .int .i64 ec1, .int .i64 eh1, .int .i64 et1, .int .i64 ei1, .int .i64 ep1, .slice B1 m1 c1, .bool false, .slice none 0 0], .agg #[.int .i64 ek2, .int .i64 en2, .int .i64 ea2, .int .i64 ec2, .int .i64 eh2, .int .i64 et2, .int .i64 ei2, .int .i64 ep2, .slice B2 m2 c2, .bool false, .slice none 0 0], .int .i64 r12, .agg #[.int .i64 ek1, .int .i64 en1, .int .i64 ea1, .int .i64 ec1, .int .i64 eh1, .int .i64 et1, .int .i64 ei1, .int .i64 ep1, .slice B1 m1 c1, .bool false, .slice none 0 0], .agg #[.int .i64 ek2, .int .i64 en2, .int .i64 ea2, .int .i64 ec2, .int .i64 eh2, .int .i64 et2, .int .i64 ei2, .int .i64 ep2, .slice B2 m2 c2, .bool false, .slice none 0 0], .int .i64 r12, .bool true, .bool true, .agg #[.int .i64 ek1, .int .i64 en1, .int .i64 ea1, .int .i64 ec1, .int .i64 eh1, .int .i64 et1, .int .i64 ei1, .int .i64 ep1, .slice B1 m1 c1, .bool false, .slice none 0 0], .agg #[.int .i64 ek1, .int .i64 en1, .int .i64 ea1, .int .i64 ec1, .int .i64 eh1, .int .i64 et1, .int .i64 ei1, .int .i64 ep1, .slice B3 q c3, .bool false, .slice none 0 0], .int .i64 r14, .agg #[.int .i64 ek1, .int .i64 en1, .int .i64 ea1, .int .i64 ec1, .int .i64 eh1, .int .i64 et1, .int .i64 ei1, .int .i64 ep1, .slice B1 m1 c1, .bool false, .slice none 0 0], .agg #[.int .i64 ek1, .int .i64 en1, .int .i64 ea1, .int .i64 ec1, .int .i64 eh1, .int .i64 et1, .int .i64 ei1, .int .i64 ep1, .slice B3 q c3, .bool false, .slice none 0 0], .int .i64 r14, .bool true, .bool true, .bool true, .agg #[.int .i64 ek1, .int .i64 en1, .int .i64 ea1, .int .i64 ec1, .int .i64 eh1, .int .i64 et1, .int .i64 ei1, .int .i64 ep1, .slice B3 q c3, .bool false, .slice none 0 0], .agg #[.int .i64 ek1, .int .i64 en1, .int .i64 ea1, .int .i64 ec1, .int .i64 eh1, .int .i64 et1, .int .i64 ei1, .int .i64 ep1, .slice B1 m1 c1, .bool false, .slice none 0 0], .int .i64 r41, .agg #[.int .i64 ek1, .int .i64 en1, .int .i64 ea1, .int .i64 ec1, .int .i64 eh1, .int .i64 et1, .int .i64 ei1, .int .i64 ep1, .slice B3 q c3, .bool false, .slice none 0 0], .agg #[.int .i64 ek1, .int .i64 en1, .int .i64 ea1, .int .i64 ec1, .int .i64 eh1, .int .i64 et1, .int .i64 ei1, .int .i64 ep1, .slice B1 m1 c1, .bool false, .slice none 0 0], .int .i64 r41, .bool true, .bool true, .bool true, .agg #[.int .i64 ek1, .int .i64 en1, .int .i64 ea1, .int .i64 ec1, .int .i64 eh1, .int .i64 et1, .int .i64 ei1, .int .i64 ep1, .slice B1 m1 c1, .bool false, .slice none 0 0], .agg #[.int .i64 ek1, .int .i64 en1, .int .i64 ea1, .int .i64 ec1, .int .i64 eh1, .int .i64 et1, .int .i64 ei1, .int .i64 ep1, .slice (some ⟨g5, 0, none⟩) m1 c5, .bool true, .slice (some ⟨u6.heap.size, 0, none⟩) 1 1], .int .i64 r17, .agg #[.int .i64 ek1, .int .i64 en1, .int .i64 ea1, .int .i64 ec1, .int .i64 eh1, .int .i64 et1, .int .i64 ei1, .int .i64 ep1, .slice B1 m1 c1, .bool false, .slice none 0 0], .agg #[.int .i64 ek1, .int .i64 en1, .int .i64 ea1, .int .i64 ec1, .int .i64 eh1, .int .i64 et1, .int .i64 ei1, .int .i64 ep1, .slice (some ⟨g5, 0, none⟩) m1 c5, .bool true, .slice (some ⟨u6.heap.size, 0, none⟩) 1 1], .int .i64 r17, .bool true, .bool true, .bool true, .bool true, .bool true], []⟩ := act_ext hd hs (fun j hj => match j, hj with | 0, _ => (hlow 0 (by decide)).trans rfl | 1, _ => (hlow 1 (by decide)).trans rfl | 2, _ => (hlow 2 (by decide)).trans rfl | 3, _ => (hlow 3 (by decide)).trans rfl | 4, _ => (hlow 4 (by decide)).trans rfl | 5, _ => (hlow 5 (by decide)).trans rfl | 6, _ => (hlow 6 (by decide)).trans rfl | 7, _ => (hlow 7 (by decide)).trans rfl | 8, _ => RgX.val_at (hok 37 8 _ (by decide) rfl rfl) | 9, _ => (hlow 9 (by decide)).trans rfl | 10, _ => (hlow 10 (by decide)).trans rfl | 11, _ => (hlow 11 (by decide)).trans rfl | 12, _ => (hlow 12 (by decide)).trans rfl | 13, _ => (hlow 13 (by decide)).trans rfl | 14, _ => (hlow 14 (by decide)).trans rfl | 15, _ => (hlow 15 (by decide)).trans rfl | 16, _ => (hlow 16 (by decide)).trans rfl | 17, _ => (hlow 17 (by decide)).trans rfl | 18, _ => (hlow 18 (by decide)).trans rfl | 19, _ => (hlow 19 (by decide)).trans rfl | 20, _ => (hlow 20 (by decide)).trans rfl | 21, _ => (hlow 21 (by decide)).trans rfl | 22, _ => (hlow 22 (by decide)).trans rfl | 23, _ => (hlow 23 (by decide)).trans rfl | 24, _ => (hlow 24 (by decide)).trans rfl | 25, _ => (hlow 25 (by decide)).trans rfl | 26, _ => (hlow 26 (by decide)).trans rfl | 27, _ => (hlow 27 (by decide)).trans rfl | 28, _ => (hlow 28 (by decide)).trans rfl | 29, _ => (hlow 29 (by decide)).trans rfl | 30, _ => (hlow 30 (by decide)).trans rfl | 31, _ => (hlow 31 (by decide)).trans rfl | 32, _ => (hlow 32 (by decide)).trans rfl | 33, _ => (hlow 33 (by decide)).trans rfl | 34, _ => (hlow 34 (by decide)).trans rfl | 35, _ => (hlow 35 (by decide)).trans rfl | 36, _ => (hlow 36 (by decide)).trans rfl | 37, _ => (hlow 37 (by decide)).trans rfl | 38, _ => (hlow 38 (by decide)).trans rfl | 39, _ => (hlow 39 (by decide)).trans rfl | 40, _ => (hlow 40 (by decide)).trans rfl | 41, _ => (hlow 41 (by decide)).trans rfl | 42, _ => (hlow 42 (by decide)).trans rfl | 43, _ => (hlow 43 (by decide)).trans rfl | 44, _ => (hlow 44 (by decide)).trans rfl | 45, _ => (hlow 45 (by decide)).trans rfl | 46, _ => (hlow 46 (by decide)).trans rfl | 47, _ => (hlow 47 (by decide)).trans rfl | 48, _ => (hlow 48 (by decide)).trans rfl | 49, _ => (hlow 49 (by decide)).trans rfl | 50, _ => (hlow 50 (by decide)).trans rfl | 51, _ => (hlow 51 (by decide)).trans rfl | 52, _ => (hlow 52 (by decide)).trans rfl | 53, _ => (hlow 53 (by decide)).trans rfl | 54, _ => RgX.val_at (hok 0 54 _ (by decide) rfl rfl) | 55, _ => RgX.val_at (hok 1 55 _ (by decide) rfl rfl) | 56, _ => RgX.val_at (hok 2 56 _ (by decide) rfl rfl) | 57, _ => RgX.val_at (hok 3 57 _ (by decide) rfl rfl) | 58, _ => RgX.val_at (hok 4 58 _ (by decide) rfl rfl) | 59, _ => RgX.val_at (hok 5 59 _ (by decide) rfl rfl) | 60, _ => RgX.val_at (hok 6 60 _ (by decide) rfl rfl) | 61, _ => RgX.val_at (hok 7 61 _ (by decide) rfl rfl) | 62, _ => RgX.val_at (hok 8 62 _ (by decide) rfl rfl) | 63, _ => RgX.val_at (hok 9 63 _ (by decide) rfl rfl) | 64, _ => RgX.val_at (hok 10 64 _ (by decide) rfl rfl) | 65, _ => RgX.val_at (hok 11 65 _ (by decide) rfl rfl) | 66, _ => RgX.val_at (hok 12 66 _ (by decide) rfl rfl) | 67, _ => RgX.val_at (hok 13 67 _ (by decide) rfl rfl) | 68, _ => RgX.val_at (hok 14 68 _ (by decide) rfl rfl) | 69, _ => RgX.val_at (hok 15 69 _ (by decide) rfl rfl) | 70, _ => RgX.val_at (hok 16 70 _ (by decide) rfl rfl) | 71, _ => RgX.val_at (hok 17 71 _ (by decide) rfl rfl) | 72, _ => RgX.val_at (hok 18 72 _ (by decide) rfl rfl) | 73, _ => RgX.val_at (hok 19 73 _ (by decide) rfl rfl) | 74, _ => RgX.val_at (hok 20 74 _ (by decide) rfl rfl) | 75, _ => RgX.val_at (hok 21 75 _ (by decide) rfl rfl) | 76, _ => RgX.val_at (hok 22 76 _ (by decide) rfl rfl) | 77, _ => RgX.val_at (hok 23 77 _ (by decide) rfl rfl) | 78, _ => RgX.val_at (hok 24 78 _ (by decide) rfl rfl) | 79, _ => RgX.val_at (hok 25 79 _ (by decide) rfl rfl) | 80, _ => RgX.val_at (hok 26 80 _ (by decide) rfl rfl) | 81, _ => RgX.val_at (hok 27 81 _ (by decide) rfl rfl) | 82, _ => RgX.val_at (hok 28 82 _ (by decide) rfl rfl) | 83, _ => RgX.val_at (hok 29 83 _ (by decide) rfl rfl) | 84, _ => RgX.val_at (hok 30 84 _ (by decide) rfl rfl) | 85, _ => RgX.val_at (hok 31 85 _ (by decide) rfl rfl) | 86, _ => RgX.val_at (hok 32 86 _ (by decide) rfl rfl) | 87, _ => RgX.val_at (hok 33 87 _ (by decide) rfl rfl) | 88, _ => RgX.val_at (hok 34 88 _ (by decide) rfl rfl) | 89, _ => RgX.val_at (hok 35 89 _ (by decide) rfl rfl) | 90, _ => RgX.val_at (hok 36 90 _ (by decide) rfl rfl) | n + 91, h => absurd h (by show ¬ n + 91 < 91; omega))
    clear hs hd hlow hok 
    go_wp2_with fail
    go_ret
    exact ⟨rfl, HBF.out.trans (hS.mono HBF.out.size)⟩
  · have dm : decide (0 < m1) = false := decide_eq_false hm
    have XF := X7
    have KF := K7
    have HBF := HB7
    have H4F := H47
    go_upto_region 11 with fail
    clear r0 r1 r2 r3 r4 r5 r6 r7 r8 r9 r10 X7 K7 HB7 H47
    obtain ⟨a1, _, d1, kb1⟩ := HX1.out
    obtain ⟨a2, b2, d2, kb2⟩ := HX2.out
    obtain ⟨a3, b3, d3, kb3⟩ := HX3.out
    have x1 : Asks u7 B1 m1 l1 := (((((a1.asks.keep d1).keep b2).keep d2).keep b3).keep H34.out).keep H4F.out
    have x2 : Asks u7 B2 m2 l2 := (((a2.asks.keep d2).keep b3).keep H34.out).keep H4F.out
    have x4 : Asks u7 B3 q (l1.take q) := asks_take ((a3.asks.keep H34.out).keep H4F.out) hqm
    have x7 := XF.out
    have y1 := blk_keep (blk_keep (blk_keep (blk_keep (blk_keep kb1 b2) d2) b3) H34.out) H4F.out
    have y2 := blk_keep (blk_keep (blk_keep kb2 b3) H34.out) H4F.out
    have y4 := blk_keep K4.out H4F.out
    have y7 := KF.out
    have HK := Lib.hid (fun (V : World) (hV : Below u7.heap.size u7 V) => And.intro (row11 (blk_keep y1 hV)) (And.intro (row11 (blk_keep y2 hV)) (And.intro (row11 (blk_keep y4 hV)) (row11 (blk_keep y7 hV)))))
    have HP12 := Lib.hid (fun (V : World) (hV : Below u7.heap.size u7 V) => cmpStep_any ek1 en1 ea1 ec1 eh1 et1 ei1 ep1 ek2 en2 ea2 ec2 eh2 et2 ei2 ep2 B1 B2 none none m1 c1 m2 c2 0 0 0 0 false false V (x1.keep hV) (x2.keep hV) (by omega) (by omega))
    simp only [cs_eq] at HP12
    have HR12 := Lib.hid (fun (V : World) (hV : Below u7.heap.size u7 V) => cmpStepR_any ek1 en1 ea1 ec1 eh1 et1 ei1 ep1 ek2 en2 ea2 ec2 eh2 et2 ei2 ep2 B1 B2 none none m1 c1 m2 c2 0 0 0 0 false false V (x1.keep hV) (x2.keep hV) (by omega) (by omega))
    generalize NM.lexL (NM.stepL ⟨ek1, en1, ea1, ⟨ec1, eh1, et1, ei1, ep1⟩⟩ l1) (NM.stepL ⟨ek2, en2, ea2, ⟨ec2, eh2, et2, ei2, ep2⟩⟩ l2) = r12 at HP12 HR12
    have HP14 := Lib.hid (fun (V : World) (hV : Below u7.heap.size u7 V) => cmpStep_any ek1 en1 ea1 ec1 eh1 et1 ei1 ep1 ek1 en1 ea1 ec1 eh1 et1 ei1 ep1 B1 B3 none none m1 c1 q c3 0 0 0 0 false false V (x1.keep hV) (x4.keep hV) (by omega) (by omega))
    simp only [cs_eq] at HP14
    have HR14 := Lib.hid (fun (V : World) (hV : Below u7.heap.size u7 V) => cmpStepR_any ek1 en1 ea1 ec1 eh1 et1 ei1 ep1 ek1 en1 ea1 ec1 eh1 et1 ei1 ep1 B1 B3 none none m1 c1 q c3 0 0 0 0 false false V (x1.keep hV) (x4.keep hV) (by omega) (by omega))
    generalize NM.lexL (NM.stepL ⟨ek1, en1, ea1, ⟨ec1, eh1, et1, ei1, ep1⟩⟩ l1) (NM.stepL ⟨ek1, en1, ea1, ⟨ec1, eh1, et1, ei1, ep1⟩⟩ (l1.take q)) = r14 at HP14 HR14
    have HP41 := Lib.hid (fun (V : World) (hV : Below u7.heap.size u7 V) => cmpStep_any ek1 en1 ea1 ec1 eh1 et1 ei1 ep1 ek1 en1 ea1 ec1 eh1 et1 ei1 ep1 B3 B1 none none q c3 m1 c1 0 0 0 0 false false V (x4.keep hV) (x1.keep hV) (by omega) (by omega))
    simp only [cs_eq] at HP41
    have HR41 := Lib.hid (fun (V : World) (hV : Below u7.heap.size u7 V) => cmpStepR_any ek1 en1 ea1 ec1 eh1 et1 ei1 ep1 ek1 en1 ea1 ec1 eh1 et1 ei1 ep1 B3 B1 none none q c3 m1 c1 0 0 0 0 false false V (x4.keep hV) (x1.keep hV) (by omega) (by omega))
    generalize NM.lexL (NM.stepL ⟨ek1, en1, ea1, ⟨ec1, eh1, et1, ei1, ep1⟩⟩ (l1.take q)) (NM.stepL ⟨ek1, en1, ea1, ⟨ec1, eh1, et1, ei1, ep1⟩⟩ l1) = r41 at HP41 HR41
    have HP17 := Lib.hid (fun (V : World) (hV : Below u7.heap.size u7 V) => cmpStep_any ek1 en1 ea1 ec1 eh1 et1 ei1 ep1 ek1 en1 ea1 ec1 eh1 et1 ei1 ep1 B1 B5 none (some ⟨u6.heap.size, 0, none⟩) m1 c1 m1 c5 0 0 1 1 false true V (x1.keep hV) (x7.keep hV) (by omega) (by omega))
    simp only [cs_eq] at HP17
    have HR17 := Lib.hid (fun (V : World) (hV : Below u7.heap.size u7 V) => cmpStepR_any ek1 en1 ea1 ec1 eh1 et1 ei1 ep1 ek1 en1 ea1 ec1 eh1 et1 ei1 ep1 B1 B5 none (some ⟨u6.heap.size, 0, none⟩) m1 c1 m1 c5 0 0 1 1 false true V (x1.keep hV) (x7.keep hV) (by omega) (by omega))
    generalize NM.lexL (NM.stepL ⟨ek1, en1, ea1, ⟨ec1, eh1, et1, ei1, ep1⟩⟩ l1) (NM.stepL ⟨ek1, en1, ea1, ⟨ec1, eh1, et1, ei1, ep1⟩⟩ l1) = r17 at HP17 HR17
    clear HX1 HX2 HX3 HX5 H34 H4F K4 KF XF x1 x2 x4 x7 y1 y2 y4 y7 a1 d1 kb1 a2 b2 d2 kb2 a3 b3 d3 kb3
    go_wp2_with fail
    refine RgX.region 38 (fun i => (if i = 37 then 8 else 54 + i)) (fun ix_ => match ix_ with | 0 => .v (.agg #[.int .i64 ek1, .int .i64 en1, .int .i64 ea1, .int .i64 ec1, .int .i64 eh1, .int .i64 et1, .int .i64 ei1, .int .i64 ep1, .slice B1 m1 c1, .bool false, .slice none 0 0]) | 1 => .v (.agg #[.int .i64 ek2, .int .i64 en2, .int .i64 ea2, .int .i64 ec2, .int .i64 eh2, .int .i64 et2, .int .i64 ei2, .int .i64 ep2, .slice B2 m2 c2, .bool false, .slice none 0 0]) | 2 => .v (.int .i64 r12) | 3 => .v (.agg #[.int .i64 ek1, .int .i64 en1, .int .i64 ea1, .int .i64 ec1, .int .i64 eh1, .int .i64 et1, .int .i64 ei1, .int .i64 ep1, .slice B1 m1 c1, .bool false, .slice none 0 0]) | 4 => .v (.agg #[.int .i64 ek2, .int .i64 en2, .int .i64 ea2, .int .i64 ec2, .int .i64 eh2, .int .i64 et2, .int .i64 ei2, .int .i64 ep2, .slice B2 m2 c2, .bool false, .slice none 0 0]) | 5 => .v (.int .i64 r12) | 6 => .v (.bool true) | 7 => .v (.bool true) | 8 => .v (.agg #[.int .i64 ek1, .int .i64 en1, .int .i64 ea1, .int .i64 ec1, .int .i64 eh1, .int .i64 et1, .int .i64 ei1, .int .i64 ep1, .slice B1 m1 c1, .bool false, .slice none 0 0]) | 9 => .v (.agg #[.int .i64 ek1, .int .i64 en1, .int .i64 ea1, .int .i64 ec1, .int .i64 eh1, .int .i64 et1, .int .i64 ei1, .int .i64 ep1, .slice B3 q c3, .bool false, .slice none 0 0]) | 10 => .v (.int .i64 r14) | 11 => .v (.agg #[.int .i64 ek1, .int .i64 en1, .int .i64 ea1, .int .i64 ec1, .int .i64 eh1, .int .i64 et1, .int .i64 ei1, .int .i64 ep1, .slice B1 m1 c1, .bool false, .slice none 0 0]) | 12 => .v (.agg #[.int .i64 ek1, .int .i64 en1, .int .i64 ea1, .int .i64 ec1, .int .i64 eh1, .int .i64 et1, .int .i64 ei1, .int .i64 ep1, .slice B3 q c3, .bool false, .slice none 0 0]) | 13 => .v (.int .i64 r14) | 14 => .v (.bool true) | 15 => .v (.bool true) | 16 => .v (.bool true) | 17 => .v (.agg #[.int .i64 ek1, .int .i64 en1, .int .i64 ea1, .int .i64 ec1, .int .i64 eh1, .int .i64 et1, .int .i64 ei1, .int .i64 ep1, .slice B3 q c3, .bool false, .slice none 0 0]) | 18 => .v (.agg #[.int .i64 ek1, .int .i64 en1, .int .i64 ea1, .int .i64 ec1, .int .i64 eh1, .int .i64 et1, .int .i64 ei1, .int .i64 ep1, .slice B1 m1 c1, .bool false, .slice none 0 0]) | 19 => .v (.int .i64 r41) | 20 => .v (.agg #[.int .i64 ek1, .int .i64 en1, .int .i64 ea1, .int .i64 ec1, .int .i64 eh1, .int .i64 et1, .int .i64 ei1, .int .i64 ep1, .slice B3 q c3, .bool false, .slice none 0 0]) | 21 => .v (.agg #[.int .i64 ek1, .int .i64 en1, .int .i64 ea1, .int .i64 ec1, .int .i64 eh1, .int .i64 et1, .int .i64 ei1, .int .i64 ep1, .slice B1 m1 c1, .bool false, .slice none 0 0]) | 22 => .v (.int .i64 r41) | 23 => .v (.bool true) | 24 => .v (.bool true) | 25 => .v (.bool true) | 26 => .v (.agg #[.int .i64 ek1, .int .i64 en1, .int .i64 ea1, .int .i64 ec1, .int .i64 eh1, .int .i64 et1, .int .i64 ei1, .int .i64 ep1, .slice B1 m1 c1, .bool false, .slice none 0 0]) | 27 => .v (.agg #[.int .i64 ek1, .int .i64 en1, .int .i64 ea1, .int .i64 ec1, .int .i64 eh1, .int .i64 et1, .int .i64 ei1, .int .i64 ep1, .slice B5 m1 c5, .bool true, .slice (some ⟨u6.heap.size, 0, none⟩) 1 1]) | 28 => .v (.int .i64 r17) | 29 => .v (.agg #[.int .i64 ek1, .int .i64 en1, .int .i64 ea1, .int .i64 ec1, .int .i64 eh1, .int .i64 et1, .int .i64 ei1, .int .i64 ep1, .slice B1 m1 c1, .bool false, .slice none 0 0]) | 30 => .v (.agg #[.int .i64 ek1, .int .i64 en1, .int .i64 ea1, .int .i64 ec1, .int .i64 eh1, .int .i64 et1, .int .i64 ei1, .int .i64 ep1, .slice B5 m1 c5, .bool true, .slice (some ⟨u6.heap.size, 0, none⟩) 1 1]) | 31 => .v (.int .i64 r17) | 32 => .v (.bool true) | 33 => .v (.bool true) | 34 => .v (.bool true) | 35 => .v (.bool true) | 36 => .v (.bool true) | 37 => .v (.bool true) | _ => .any) (by kernel_rfl) rfl (by kernel_rfl)  (fun i hi => by show (if i = 37 then 8 else 54 + i) < 91; (repeat' split) <;> omega) (fun i j hi hj => by show (if i = 37 then 8 else 54 + i) = (if j = 37 then 8 else 54 + j) → i = j; (repeat' split) <;> omega) ?step ?fin
    case step =>
      intro L_ A_ w3 ix op_ hI ho hdep
      have hi : ix < 38 := (Array.getElem?_eq_some_iff.1 ho).1
      have hcase : ix = 0 ∨ ix = 1 ∨ ix = 2 ∨ ix = 3 ∨ ix = 4 ∨ ix = 5 ∨ ix = 6 ∨ ix = 7 ∨ ix = 8 ∨ ix = 9 ∨ ix = 10 ∨ ix = 11 ∨ ix = 12 ∨ ix = 13 ∨ ix = 14 ∨ ix = 15 ∨ ix = 16 ∨ ix = 17 ∨ ix = 18 ∨ ix = 19 ∨ ix = 20 ∨ ix = 21 ∨ ix = 22 ∨ ix = 23 ∨ ix = 24 ∨ ix = 25 ∨ ix = 26 ∨ ix = 27 ∨ ix = 28 ∨ ix = 29 ∨ ix = 30 ∨ ix = 31 ∨ ix = 32 ∨ ix = 33 ∨ ix = 34 ∨ ix = 35 ∨ ix = 36 ∨ ix = 37 := by omega
      have hh := hI.held
      clear hi
      rcases hcase with rfl | rfl | rfl | rfl | rfl | rfl | rfl | rfl | rfl | rfl | rfl | rfl | rfl | rfl | rfl | rfl | rfl | rfl | rfl | rfl | rfl | rfl | rfl | rfl | rfl | rfl | rfl | rfl | rfl | rfl | rfl | rfl | rfl | rfl | rfl | rfl | rfl | rfl
      · simp only [List.getElem?_toArray, List.getElem?_cons_zero, Option.some.injEq] at ho
        subst ho
        refine ⟨rfl, ?_⟩
        have e9 : A_.tmps[9]?.getD undef = .pointer (some ⟨v1.heap.size, 0, none⟩) := by rw [hI.low 9 (by decide)]; rfl
        clear hI hdep
        obtain ⟨⟨d0, d1, d2, d3, d4, d5, d6, d7, d8, d9, d10⟩, ⟨f0, f1, f2, f3, f4, f5, f6, f7, f8, f9, f10⟩, ⟨p0, p1, p2, p3, p4, p5, p6, p7, p8, p9, p10⟩, s0, s1, s2, s3, s4, s5, s6, s7, s8, s9, s10⟩ := HK.out w3 hh
        exact .run rfl (.agg #[.int .i64 ek1, .int .i64 en1, .int .i64 ea1, .int .i64 ec1, .int .i64 eh1, .int .i64 et1, .int .i64 ei1, .int .i64 ep1, .slice B1 m1 c1, .bool false, .slice none 0 0]) w3 (by simp [execOp, go_sem, Act.eval, *]) (Below.refl _ _) rfl
      · simp only [List.getElem?_toArray, List.getElem?_cons_succ, List.getElem?_cons_zero, Option.some.injEq] at ho
        subst ho
        refine ⟨rfl, ?_⟩
        have e10 : A_.tmps[10]?.getD undef = .pointer (some ⟨v2.heap.size, 0, none⟩) := by rw [hI.low 10 (by decide)]; rfl
        clear hI hdep
        obtain ⟨⟨d0, d1, d2, d3, d4, d5, d6, d7, d8, d9, d10⟩, ⟨f0, f1, f2, f3, f4, f5, f6, f7, f8, f9, f10⟩, ⟨p0, p1, p2, p3, p4, p5, p6, p7, p8, p9, p10⟩, s0, s1, s2, s3, s4, s5, s6, s7, s8, s9, s10⟩ := HK.out w3 hh
        exact .run rfl (.agg #[.int .i64 ek2, .int .i64 en2, .int .i64 ea2, .int .i64 ec2, .int .i64 eh2, .int .i64 et2, .int .i64 ei2, .int .i64 ep2, .slice B2 m2 c2, .bool false, .slice none 0 0]) w3 (by simp [execOp, go_sem, Act.eval, *]) (Below.refl _ _) rfl
      · simp only [List.getElem?_toArray, List.getElem?_cons_succ, List.getElem?_cons_zero, Option.some.injEq] at ho
        subst ho
        refine ⟨rfl, ?_⟩
        have e54 : A_.tmps[54]?.getD undef = .agg #[.int .i64 ek1, .int .i64 en1, .int .i64 ea1, .int .i64 ec1, .int .i64 eh1, .int .i64 et1, .int .i64 ei1, .int .i64 ep1, .slice B1 m1 c1, .bool false, .slice none 0 0] := getD_of (hI.val_ (i := 0) rfl rfl (by decide) (hdep ⟨0, .data⟩ (by simp) rfl))
        have e55 : A_.tmps[55]?.getD undef = .agg #[.int .i64 ek2, .int .i64 en2, .int .i64 ea2, .int .i64 ec2, .int .i64 eh2, .int .i64 et2, .int .i64 ei2, .int .i64 ep2, .slice B2 m2 c2, .bool false, .slice none 0 0] := getD_of (hI.val_ (i := 1) rfl rfl (by decide) (hdep ⟨1, .data⟩ (by simp) rfl))
        clear hI hdep
        exact .call rfl 8 #[.agg #[.int .i64 ek1, .int .i64 en1, .int .i64 ea1, .int .i64 ec1, .int .i64 eh1, .int .i64 et1, .int .i64 ei1, .int .i64 ep1, .slice B1 m1 c1, .bool false, .slice none 0 0], .agg #[.int .i64 ek2, .int .i64 en2, .int .i64 ea2, .int .i64 ec2, .int .i64 eh2, .int .i64 et2, .int .i64 ei2, .int .i64 ep2, .slice B2 m2 c2, .bool false, .slice none 0 0]] (by simp [go_sem, Act.eval, e54, e55]) ((HP12.out w3 hh).mono fun _ _ ⟨h1_, h2_⟩ => ⟨⟨_, h1_, rfl⟩, h2_⟩)
      · simp only [List.getElem?_toArray, List.getElem?_cons_succ, List.getElem?_cons_zero, Option.some.injEq] at ho
        subst ho
        refine ⟨rfl, ?_⟩
        have e9 : A_.tmps[9]?.getD undef = .pointer (some ⟨v1.heap.size, 0, none⟩) := by rw [hI.low 9 (by decide)]; rfl
        clear hI hdep
        obtain ⟨⟨d0, d1, d2, d3, d4, d5, d6, d7, d8, d9, d10⟩, ⟨f0, f1, f2, f3, f4, f5, f6, f7, f8, f9, f10⟩, ⟨p0, p1, p2, p3, p4, p5, p6, p7, p8, p9, p10⟩, s0, s1, s2, s3, s4, s5, s6, s7, s8, s9, s10⟩ := HK.out w3 hh
        exact .run rfl (.agg #[.int .i64 ek1, .int .i64 en1, .int .i64 ea1, .int .i64 ec1, .int .i64 eh1, .int .i64 et1, .int .i64 ei1, .int .i64 ep1, .slice B1 m1 c1, .bool false, .slice none 0 0]) w3 (by simp [execOp, go_sem, Act.eval, *]) (Below.refl _ _) rfl
      · simp only [List.getElem?_toArray, List.getElem?_cons_succ, List.getElem?_cons_zero, Option.some.injEq] at ho
        subst ho
        refine ⟨rfl, ?_⟩
        have e10 : A_.tmps[10]?.getD undef = .pointer (some ⟨v2.heap.size, 0, none⟩) := by rw [hI.low 10 (by decide)]; rfl
        clear hI hdep
        obtain ⟨⟨d0, d1, d2, d3, d4, d5, d6, d7, d8, d9, d10⟩, ⟨f0, f1, f2, f3, f4, f5, f6, f7, f8, f9, f10⟩, ⟨p0, p1, p2, p3, p4, p5, p6, p7, p8, p9, p10⟩, s0, s1, s2, s3, s4, s5, s6, s7, s8, s9, s10⟩ := HK.out w3 hh
        exact .run rfl (.agg #[.int .i64 ek2, .int .i64 en2, .int .i64 ea2, .int .i64 ec2, .int .i64 eh2, .int .i64 et2, .int .i64 ei2, .int .i64 ep2, .slice B2 m2 c2, .bool false, .slice none 0 0]) w3 (by simp [execOp, go_sem, Act.eval, *]) (Below.refl _ _) rfl
      · simp only [List.getElem?_toArray, List.getElem?_cons_succ, List.getElem?_cons_zero, Option.some.injEq] at ho
        subst ho
        refine ⟨rfl, ?_⟩
        have e57 : A_.tmps[57]?.getD undef = .agg #[.int .i64 ek1, .int .i64 en1, .int .i64 ea1, .int .i64 ec1, .int .i64 eh1, .int .i64 et1, .int .i64 ei1, .int .i64 ep1, .slice B1 m1 c1, .bool false, .slice none 0 0] := getD_of (hI.val_ (i := 3) rfl rfl (by decide) (hdep ⟨3, .data⟩ (by simp) rfl))
        have e58 : A_.tmps[58]?.getD undef = .agg #[.int .i64 ek2, .int .i64 en2, .int .i64 ea2, .int .i64 ec2, .int .i64 eh2, .int .i64 et2, .int .i64 ei2, .int .i64 ep2, .slice B2 m2 c2, .bool false, .slice none 0 0] := getD_of (hI.val_ (i := 4) rfl rfl (by decide) (hdep ⟨4, .data⟩ (by simp) rfl))
        clear hI hdep
        exact .call rfl 9 #[.agg #[.int .i64 ek1, .int .i64 en1, .int .i64 ea1, .int .i64 ec1, .int .i64 eh1, .int .i64 et1, .int .i64 ei1, .int .i64 ep1, .slice B1 m1 c1, .bool false, .slice none 0 0], .agg #[.int .i64 ek2, .int .i64 en2, .int .i64 ea2, .int .i64 ec2, .int .i64 eh2, .int .i64 et2, .int .i64 ei2, .int .i64 ep2, .slice B2 m2 c2, .bool false, .slice none 0 0]] (by simp [go_sem, Act.eval, e57, e58]) ((HR12.out w3 hh).mono fun _ _ ⟨h1_, h2_⟩ => ⟨⟨_, h1_, rfl⟩, h2_⟩)
      · simp only [List.getElem?_toArray, List.getElem?_cons_succ, List.getElem?_cons_zero, Option.some.injEq] at ho
        subst ho
        refine ⟨rfl, ?_⟩
        have e56 : A_.tmps[56]?.getD undef = .int .i64 r12 := getD_of (hI.val_ (i := 2) rfl rfl (by decide) (hdep ⟨2, .data⟩ (by simp) rfl))
        have e59 : A_.tmps[59]?.getD undef = .int .i64 r12 := getD_of (hI.val_ (i := 5) rfl rfl (by decide) (hdep ⟨5, .data⟩ (by simp) rfl))
        clear hI hdep
        exact .run rfl (.bool true) w3 (by simp [execOp, go_sem, Act.eval, *]) (Below.refl _ _) rfl
      · simp only [List.getElem?_toArray, List.getElem?_cons_succ, List.getElem?_cons_zero, Option.some.injEq] at ho
        subst ho
        refine ⟨rfl, ?_⟩
        have e60 : A_.tmps[60]?.getD undef = .bool true := getD_of (hI.val_ (i := 6) rfl rfl (by decide) (hdep ⟨6, .data⟩ (by simp) rfl))
        clear hI hdep
        exact .run rfl (.bool true) w3 (by simp [execOp, go_sem, Act.eval, e60]) (Below.refl _ _) rfl
      · simp only [List.getElem?_toArray, List.getElem?_cons_succ, List.getElem?_cons_zero, Option.some.injEq] at ho
        subst ho
        refine ⟨rfl, ?_⟩
        have q61 : A_.tmps[61]? = some (.bool true) := hI.val_ (i := 7) rfl rfl (by decide) (hdep ⟨7, .guard⟩ (by simp) rfl)
        have e9 : A_.tmps[9]?.getD undef = .pointer (some ⟨v1.heap.size, 0, none⟩) := by rw [hI.low 9 (by decide)]; rfl
        clear hI hdep
        obtain ⟨⟨d0, d1, d2, d3, d4, d5, d6, d7, d8, d9, d10⟩, ⟨f0, f1, f2, f3, f4, f5, f6, f7, f8, f9, f10⟩, ⟨p0, p1, p2, p3, p4, p5, p6, p7, p8, p9, p10⟩, s0, s1, s2, s3, s4, s5, s6, s7, s8, s9, s10⟩ := HK.out w3 hh
        exact .run ((wanted_some rfl rfl q61).trans rfl) (.agg #[.int .i64 ek1, .int .i64 en1, .int .i64 ea1, .int .i64 ec1, .int .i64 eh1, .int .i64 et1, .int .i64 ei1, .int .i64 ep1, .slice B1 m1 c1, .bool false, .slice none 0 0]) w3 (by simp [execOp, go_sem, Act.eval, *]) (Below.refl _ _) rfl
      · simp only [List.getElem?_toArray, List.getElem?_cons_succ, List.getElem?_cons_zero, Option.some.injEq] at ho
        subst ho
        refine ⟨rfl, ?_⟩
        have q61 : A_.tmps[61]? = some (.bool true) := hI.val_ (i := 7) rfl rfl (by decide) (hdep ⟨7, .guard⟩ (by simp) rfl)
        have e11 : A_.tmps[11]?.getD undef = .pointer (some ⟨v3.heap.size, 0, none⟩) := by rw [hI.low 11 (by decide)]; rfl
        clear hI hdep
        obtain ⟨⟨d0, d1, d2, d3, d4, d5, d6, d7, d8, d9, d10⟩, ⟨f0, f1, f2, f3, f4, f5, f6, f7, f8, f9, f10⟩, ⟨p0, p1, p2, p3, p4, p5, p6, p7, p8, p9, p10⟩, s0, s1, s2, s3, s4, s5, s6, s7, s8, s9, s10⟩ := HK.out w3 hh
        exact .run ((wanted_some rfl rfl q61).trans rfl) (.agg #[.int .i64 ek1, .int .i64 en1, .int .i64 ea1, .int .i64 ec1, .int .i64 eh1, .int .i64 et1, .int .i64 ei1, .int .i64 ep1, .slice B3 q c3, .bool false, .slice none 0 0]) w3 (by simp [execOp, go_sem, Act.eval, *]) (Below.refl _ _) rfl
      · simp only [List.getElem?_toArray, List.getElem?_cons_succ, List.getElem?_cons_zero, Option.some.injEq] at ho
        subst ho
        refine ⟨rfl, ?_⟩
        have q61 : A_.tmps[61]? = some (.bool true) := hI.val_ (i := 7) rfl rfl (by decide) (hdep ⟨7, .guard⟩ (by simp) rfl)
        have e62 : A_.tmps[62]?.getD undef = .agg #[.int .i64 ek1, .int .i64 en1, .int .i64 ea1, .int .i64 ec1, .int .i64 eh1, .int .i64 et1, .int .i64 ei1, .int .i64 ep1, .slice B1 m1 c1, .bool false, .slice none 0 0] := getD_of (hI.val_ (i := 8) rfl rfl (by decide) (hdep ⟨8, .data⟩ (by simp) rfl))
        have e63 : A_.tmps[63]?.getD undef = .agg #[.int .i64 ek1, .int .i64 en1, .int .i64 ea1, .int .i64 ec1, .int .i64 eh1, .int .i64 et1, .int .i64 ei1, .int .i64 ep1, .slice B3 q c3, .bool false, .slice none 0 0] := getD_of (hI.val_ (i := 9) rfl rfl (by decide) (hdep ⟨9, .data⟩ (by simp) rfl))
        clear hI hdep
        exact .call ((wanted_some rfl rfl q61).trans rfl) 8 #[.agg #[.int .i64 ek1, .int .i64 en1, .int .i64 ea1, .int .i64 ec1, .int .i64 eh1, .int .i64 et1, .int .i64 ei1, .int .i64 ep1, .slice B1 m1 c1, .bool false, .slice none 0 0], .agg #[.int .i64 ek1, .int .i64 en1, .int .i64 ea1, .int .i64 ec1, .int .i64 eh1, .int .i64 et1, .int .i64 ei1, .int .i64 ep1, .slice B3 q c3, .bool false, .slice none 0 0]] (by simp [go_sem, Act.eval, e62, e63]) ((HP14.out w3 hh).mono fun _ _ ⟨h1_, h2_⟩ => ⟨⟨_, h1_, rfl⟩, h2_⟩)
      · simp only [List.getElem?_toArray, List.getElem?_cons_succ, List.getElem?_cons_zero, Option.some.injEq] at ho
        subst ho
        refine ⟨rfl, ?_⟩
        have q61 : A_.tmps[61]? = some (.bool true) := hI.val_ (i := 7) rfl rfl (by decide) (hdep ⟨7, .guard⟩ (by simp) rfl)
        have e9 : A_.tmps[9]?.getD undef = .pointer (some ⟨v1.heap.size, 0, none⟩) := by rw [hI.low 9 (by decide)]; rfl
        clear hI hdep
        obtain ⟨⟨d0, d1, d2, d3, d4, d5, d6, d7, d8, d9, d10⟩, ⟨f0, f1, f2, f3, f4, f5, f6, f7, f8, f9, f10⟩, ⟨p0, p1, p2, p3, p4, p5, p6, p7, p8, p9, p10⟩, s0, s1, s2, s3, s4, s5, s6, s7, s8, s9, s10⟩ := HK.out w3 hh
        exact .run ((wanted_some rfl rfl q61).trans rfl) (.agg #[.int .i64 ek1, .int .i64 en1, .int .i64 ea1, .int .i64 ec1, .int .i64 eh1, .int .i64 et1, .int .i64 ei1, .int .i64 ep1, .slice B1 m1 c1, .bool false, .slice none 0 0]) w3 (by simp [execOp, go_sem, Act.eval, *]) (Below.refl _ _) rfl
      · simp only [List.getElem?_toArray, List.getElem?_cons_succ, List.getElem?_cons_zero, Option.some.injEq] at ho
        subst ho
        refine ⟨rfl, ?_⟩
        have q61 : A_.tmps[61]? = some (.bool true) := hI.val_ (i := 7) rfl rfl (by decide) (hdep ⟨7, .guard⟩ (by simp) rfl)
        have e11 : A_.tmps[11]?.getD undef = .pointer (some ⟨v3.heap.size, 0, none⟩) := by rw [hI.low 11 (by decide)]; rfl
        clear hI hdep
        obtain ⟨⟨d0, d1, d2, d3, d4, d5, d6, d7, d8, d9, d10⟩, ⟨f0, f1, f2, f3, f4, f5, f6, f7, f8, f9, f10⟩, ⟨p0, p1, p2, p3, p4, p5, p6, p7, p8, p9, p10⟩, s0, s1, s2, s3, s4, s5, s6, s7, s8, s9, s10⟩ := HK.out w3 hh
        exact .run ((wanted_some rfl rfl q61).trans rfl) (.agg #[.int .i64 ek1, .int .i64 en1, .int .i64 ea1, .int .i64 ec1, .int .i64 eh1, .int .i64 et1, .int .i64 ei1, .int .i64 ep1, .slice B3 q c3, .bool false, .slice none 0 0]) w3 (by simp [execOp, go_sem, Act.eval, *]) (Below.refl _ _) rfl
      · simp only [List.getElem?_toArray, List.getElem?_cons_succ, List.getElem?_cons_zero, Option.some.injEq] at ho
        subst ho
        refine ⟨rfl, ?_⟩
        have q61 : A_.tmps[61]? = some (.bool true) := hI.val_ (i := 7) rfl rfl (by decide) (hdep ⟨7, .guard⟩ (by simp) rfl)
        have e65 : A_.tmps[65]?.getD undef = .agg #[.int .i64 ek1, .int .i64 en1, .int .i64 ea1, .int .i64 ec1, .int .i64 eh1, .int .i64 et1, .int .i64 ei1, .int .i64 ep1, .slice B1 m1 c1, .bool false, .slice none 0 0] := getD_of (hI.val_ (i := 11) rfl rfl (by decide) (hdep ⟨11, .data⟩ (by simp) rfl))
        have e66 : A_.tmps[66]?.getD undef = .agg #[.int .i64 ek1, .int .i64 en1, .int .i64 ea1, .int .i64 ec1, .int .i64 eh1, .int .i64 et1, .int .i64 ei1, .int .i64 ep1, .slice B3 q c3, .bool false, .slice none 0 0] := getD_of (hI.val_ (i := 12) rfl rfl (by decide) (hdep ⟨12, .data⟩ (by simp) rfl))
        clear hI hdep
        exact .call ((wanted_some rfl rfl q61).trans rfl) 9 #[.agg #[.int .i64 ek1, .int .i64 en1, .int .i64 ea1, .int .i64 ec1, .int .i64 eh1, .int .i64 et1, .int .i64 ei1, .int .i64 ep1, .slice B1 m1 c1, .bool false, .slice none 0 0], .agg #[.int .i64 ek1, .int .i64 en1, .int .i64 ea1, .int .i64 ec1, .int .i64 eh1, .int .i64 et1, .int .i64 ei1, .int .i64 ep1, .slice B3 q c3, .bool false, .slice none 0 0]] (by simp [go_sem, Act.eval, e65, e66]) ((HR14.out w3 hh).mono fun _ _ ⟨h1_, h2_⟩ => ⟨⟨_, h1_, rfl⟩, h2_⟩)
      · simp only [List.getElem?_toArray, List.getElem?_cons_succ, List.getElem?_cons_zero, Option.some.injEq] at ho
        subst ho
        refine ⟨rfl, ?_⟩
        have q61 : A_.tmps[61]? = some (.bool true) := hI.val_ (i := 7) rfl rfl (by decide) (hdep ⟨7, .guard⟩ (by simp) rfl)
        have e64 : A_.tmps[64]?.getD undef = .int .i64 r14 := getD_of (hI.val_ (i := 10) rfl rfl (by decide) (hdep ⟨10, .data⟩ (by simp) rfl))
        have e67 : A_.tmps[67]?.getD undef = .int .i64 r14 := getD_of (hI.val_ (i := 13) rfl rfl (by decide) (hdep ⟨13, .data⟩ (by simp) rfl))
        clear hI hdep
        exact .run ((wanted_some rfl rfl q61).trans rfl) (.bool true) w3 (by simp [execOp, go_sem, Act.eval, *]) (Below.refl _ _) rfl
      · simp only [List.getElem?_toArray, List.getElem?_cons_succ, List.getElem?_cons_zero, Option.some.injEq] at ho
        subst ho
        refine ⟨rfl, ?_⟩
        have e61 : A_.tmps[61]?.getD undef = .bool true := getD_of (hI.val_ (i := 7) rfl rfl (by decide) (hdep ⟨7, .data⟩ (by simp) rfl))
        have e68 : A_.tmps[68]?.getD undef = .bool true := getD_of (hI.val_ (i := 14) rfl rfl (by decide) (hdep ⟨14, .data⟩ (by simp) rfl))
        clear hI hdep
        exact .run rfl (.bool true) w3 (by simp [execOp, go_sem, Act.eval, e61, e68]) (Below.refl _ _) rfl
      · simp only [List.getElem?_toArray, List.getElem?_cons_succ, List.getElem?_cons_zero, Option.some.injEq] at ho
        subst ho
        refine ⟨rfl, ?_⟩
        have e69 : A_.tmps[69]?.getD undef = .bool true := getD_of (hI.val_ (i := 15) rfl rfl (by decide) (hdep ⟨15, .data⟩ (by simp) rfl))
        clear hI hdep
        exact .run rfl (.bool true) w3 (by simp [execOp, go_sem, Act.eval, e69]) (Below.refl _ _) rfl
      · simp only [List.getElem?_toArray, List.getElem?_cons_succ, List.getElem?_cons_zero, Option.some.injEq] at ho
        subst ho
        refine ⟨rfl, ?_⟩
        have q70 : A_.tmps[70]? = some (.bool true) := hI.val_ (i := 16) rfl rfl (by decide) (hdep ⟨16, .guard⟩ (by simp) rfl)
        have e11 : A_.tmps[11]?.getD undef = .pointer (some ⟨v3.heap.size, 0, none⟩) := by rw [hI.low 11 (by decide)]; rfl
        clear hI hdep
        obtain ⟨⟨d0, d1, d2, d3, d4, d5, d6, d7, d8, d9, d10⟩, ⟨f0, f1, f2, f3, f4, f5, f6, f7, f8, f9, f10⟩, ⟨p0, p1, p2, p3, p4, p5, p6, p7, p8, p9, p10⟩, s0, s1, s2, s3, s4, s5, s6, s7, s8, s9, s10⟩ := HK.out w3 hh
        exact .run ((wanted_some rfl rfl q70).trans rfl) (.agg #[.int .i64 ek1, .int .i64 en1, .int .i64 ea1, .int .i64 ec1, .int .i64 eh1, .int .i64 et1, .int .i64 ei1, .int .i64 ep1, .slice B3 q c3, .bool false, .slice none 0 0]) w3 (by simp [execOp, go_sem, Act.eval, *]) (Below.refl _ _) rfl
      · simp only [List.getElem?_toArray, List.getElem?_cons_succ, List.getElem?_cons_zero, Option.some.injEq] at ho
        subst ho
        refine ⟨rfl, ?_⟩
        have q70 : A_.tmps[70]? = some (.bool true) := hI.val_ (i := 16) rfl rfl (by decide) (hdep ⟨16, .guard⟩ (by simp) rfl)
        have e9 : A_.tmps[9]?.getD undef = .pointer (some ⟨v1.heap.size, 0, none⟩) := by rw [hI.low 9 (by decide)]; rfl
        clear hI hdep
        obtain ⟨⟨d0, d1, d2, d3, d4, d5, d6, d7, d8, d9, d10⟩, ⟨f0, f1, f2, f3, f4, f5, f6, f7, f8, f9, f10⟩, ⟨p0, p1, p2, p3, p4, p5, p6, p7, p8, p9, p10⟩, s0, s1, s2, s3, s4, s5, s6, s7, s8, s9, s10⟩ := HK.out w3 hh
        exact .run ((wanted_some rfl rfl q70).trans rfl) (.agg #[.int .i64 ek1, .int .i64 en1, .int .i64 ea1, .int .i64 ec1, .int .i64 eh1, .int .i64 et1, .int .i64 ei1, .int .i64 ep1, .slice B1 m1 c1, .bool false, .slice none 0 0]) w3 (by simp [execOp, go_sem, Act.eval, *]) (Below.refl _ _) rfl
      · simp only [List.getElem?_toArray, List.getElem?_cons_succ, List.getElem?_cons_zero, Option.some.injEq] at ho
        subst ho
        refine ⟨rfl, ?_⟩
        have q70 : A_.tmps[70]? = some (.bool true) := hI.val_ (i := 16) rfl rfl (by decide) (hdep ⟨16, .guard⟩ (by simp) rfl)
        have e71 : A_.tmps[71]?.getD undef = .agg #[.int .i64 ek1, .int .i64 en1, .int .i64 ea1, .int .i64 ec1, .int .i64 eh1, .int .i64 et1, .int .i64 ei1, .int .i64 ep1, .slice B3 q c3, .bool false, .slice none 0 0] := getD_of (hI.val_ (i := 17) rfl rfl (by decide) (hdep ⟨17, .data⟩ (by simp) rfl))
        have e72 : A_.tmps[72]?.getD undef = .agg #[.int .i64 ek1, .int .i64 en1, .int .i64 ea1, .int .i64 ec1, .int .i64 eh1, .int .i64 et1, .int .i64 ei1, .int .i64 ep1, .slice B1 m1 c1, .bool false, .slice none 0 0] := getD_of (hI.val_ (i := 18) rfl rfl (by decide) (hdep ⟨18, .data⟩ (by simp) rfl))
        clear hI hdep
        exact .call ((wanted_some rfl rfl q70).trans rfl) 8 #[.agg #[.int .i64 ek1, .int .i64 en1, .int .i64 ea1, .int .i64 ec1, .int .i64 eh1, .int .i64 et1, .int .i64 ei1, .int .i64 ep1, .slice B3 q c3, .bool false, .slice none 0 0], .agg #[.int .i64 ek1, .int .i64 en1, .int .i64 ea1, .int .i64 ec1, .int .i64 eh1, .int .i64 et1, .int .i64 ei1, .int .i64 ep1, .slice B1 m1 c1, .bool false, .slice none 0 0]] (by simp [go_sem, Act.eval, e71, e72]) ((HP41.out w3 hh).mono fun _ _ ⟨h1_, h2_⟩ => ⟨⟨_, h1_, rfl⟩, h2_⟩)
      · simp only [List.getElem?_toArray, List.getElem?_cons_succ, List.getElem?_cons_zero, Option.some.injEq] at ho
        subst ho
        refine ⟨rfl, ?_⟩
        have q70 : A_.tmps[70]? = some (.bool true) := hI.val_ (i := 16) rfl rfl (by decide) (hdep ⟨16, .guard⟩ (by simp) rfl)
        have e11 : A_.tmps[11]?.getD undef = .pointer (some ⟨v3.heap.size, 0, none⟩) := by rw [hI.low 11 (by decide)]; rfl
        clear hI hdep
        obtain ⟨⟨d0, d1, d2, d3, d4, d5, d6, d7, d8, d9, d10⟩, ⟨f0, f1, f2, f3, f4, f5, f6, f7, f8, f9, f10⟩, ⟨p0, p1, p2, p3, p4, p5, p6, p7, p8, p9, p10⟩, s0, s1, s2, s3, s4, s5, s6, s7, s8, s9, s10⟩ := HK.out w3 hh
        exact .run ((wanted_some rfl rfl q70).trans rfl) (.agg #[.int .i64 ek1, .int .i64 en1, .int .i64 ea1, .int .i64 ec1, .int .i64 eh1, .int .i64 et1, .int .i64 ei1, .int .i64 ep1, .slice B3 q c3, .bool false, .slice none 0 0]) w3 (by simp [execOp, go_sem, Act.eval, *]) (Below.refl _ _) rfl
      · simp only [List.getElem?_toArray, List.getElem?_cons_succ, List.getElem?_cons_zero, Option.some.injEq] at ho
        subst ho
        refine ⟨rfl, ?_⟩
        have q70 : A_.tmps[70]? = some (.bool true) := hI.val_ (i := 16) rfl rfl (by decide) (hdep ⟨16, .guard⟩ (by simp) rfl)
        have e9 : A_.tmps[9]?.getD undef = .pointer (some ⟨v1.heap.size, 0, none⟩) := by rw [hI.low 9 (by decide)]; rfl
        clear hI hdep
        obtain ⟨⟨d0, d1, d2, d3, d4, d5, d6, d7, d8, d9, d10⟩, ⟨f0, f1, f2, f3, f4, f5, f6, f7, f8, f9, f10⟩, ⟨p0, p1, p2, p3, p4, p5, p6, p7, p8, p9, p10⟩, s0, s1, s2, s3, s4, s5, s6, s7, s8, s9, s10⟩ := HK.out w3 hh
        exact .run ((wanted_some rfl rfl q70).trans rfl) (.agg #[.int .i64 ek1, .int .i64 en1, .int .i64 ea1, .int .i64 ec1, .int .i64 eh1, .int .i64 et1, .int .i64 ei1, .int .i64 ep1, .slice B1 m1 c1, .bool false, .slice none 0 0]) w3 (by simp [execOp, go_sem, Act.eval, *]) (Below.refl _ _) rfl
      · simp only [List.getElem?_toArray, List.getElem?_cons_succ, List.getElem?_cons_zero, Option.some.injEq] at ho
        subst ho
        refine ⟨rfl, ?_⟩
        have q70 : A_.tmps[70]? = some (.bool true) := hI.val_ (i := 16) rfl rfl (by decide) (hdep ⟨16, .guard⟩ (by simp) rfl)
        have e74 : A_.tmps[74]?.getD undef = .agg #[.int .i64 ek1, .int .i64 en1, .int .i64 ea1, .int .i64 ec1, .int .i64 eh1, .int .i64 et1, .int .i64 ei1, .int .i64 ep1, .slice B3 q c3, .bool false, .slice none 0 0] := getD_of (hI.val_ (i := 20) rfl rfl (by decide) (hdep ⟨20, .data⟩ (by simp) rfl))
        have e75 : A_.tmps[75]?.getD undef = .agg #[.int .i64 ek1, .int .i64 en1, .int .i64 ea1, .int .i64 ec1, .int .i64 eh1, .int .i64 et1, .int .i64 ei1, .int .i64 ep1, .slice B1 m1 c1, .bool false, .slice none 0 0] := getD_of (hI.val_ (i := 21) rfl rfl (by decide) (hdep ⟨21, .data⟩ (by simp) rfl))
        clear hI hdep
        exact .call ((wanted_some rfl rfl q70).trans rfl) 9 #[.agg #[.int .i64 ek1, .int .i64 en1, .int .i64 ea1, .int .i64 ec1, .int .i64 eh1, .int .i64 et1, .int .i64 ei1, .int .i64 ep1, .slice B3 q c3, .bool false, .slice none 0 0], .agg #[.int .i64 ek1, .int .i64 en1, .int .i64 ea1, .int .i64 ec1, .int .i64 eh1, .int .i64 et1, .int .i64 ei1, .int .i64 ep1, .slice B1 m1 c1, .bool false, .slice none 0 0]] (by simp [go_sem, Act.eval, e74, e75]) ((HR41.out w3 hh).mono fun _ _ ⟨h1_, h2_⟩ => ⟨⟨_, h1_, rfl⟩, h2_⟩)
      · simp only [List.getElem?_toArray, List.getElem?_cons_succ, List.getElem?_cons_zero, Option.some.injEq] at ho
        subst ho
        refine ⟨rfl, ?_⟩
        have q70 : A_.tmps[70]? = some (.bool true) := hI.val_ (i := 16) rfl rfl (by decide) (hdep ⟨16, .guard⟩ (by simp) rfl)
        have e73 : A_.tmps[73]?.getD undef = .int .i64 r41 := getD_of (hI.val_ (i := 19) rfl rfl (by decide) (hdep ⟨19, .data⟩ (by simp) rfl))
        have e76 : A_.tmps[76]?.getD undef = .int .i64 r41 := getD_of (hI.val_ (i := 22) rfl rfl (by decide) (hdep ⟨22, .data⟩ (by simp) rfl))
        clear hI hdep
        exact .run ((wanted_some rfl rfl q70).trans rfl) (.bool true) w3 (by simp [execOp, go_sem, Act.eval, *]) (Below.refl _ _) rfl
      · simp only [List.getElem?_toArray, List.getElem?_cons_succ, List.getElem?_cons_zero, Option.some.injEq] at ho
        subst ho
        refine ⟨rfl, ?_⟩
        have e70 : A_.tmps[70]?.getD undef = .bool true := getD_of (hI.val_ (i := 16) rfl rfl (by decide) (hdep ⟨16, .data⟩ (by simp) rfl))
        have e77 : A_.tmps[77]?.getD undef = .bool true := getD_of (hI.val_ (i := 23) rfl rfl (by decide) (hdep ⟨23, .data⟩ (by simp) rfl))
        clear hI hdep
        exact .run rfl (.bool true) w3 (by simp [execOp, go_sem, Act.eval, e70, e77]) (Below.refl _ _) rfl
      · simp only [List.getElem?_toArray, List.getElem?_cons_succ, List.getElem?_cons_zero, Option.some.injEq] at ho
        subst ho
        refine ⟨rfl, ?_⟩
        have e78 : A_.tmps[78]?.getD undef = .bool true := getD_of (hI.val_ (i := 24) rfl rfl (by decide) (hdep ⟨24, .data⟩ (by simp) rfl))
        clear hI hdep
        exact .run rfl (.bool true) w3 (by simp [execOp, go_sem, Act.eval, e78]) (Below.refl _ _) rfl
      · simp only [List.getElem?_toArray, List.getElem?_cons_succ, List.getElem?_cons_zero, Option.some.injEq] at ho
        subst ho
        refine ⟨rfl, ?_⟩
        have q79 : A_.tmps[79]? = some (.bool true) := hI.val_ (i := 25) rfl rfl (by decide) (hdep ⟨25, .guard⟩ (by simp) rfl)
        have e9 : A_.tmps[9]?.getD undef = .pointer (some ⟨v1.heap.size, 0, none⟩) := by rw [hI.low 9 (by decide)]; rfl
        clear hI hdep
        obtain ⟨⟨d0, d1, d2, d3, d4, d5, d6, d7, d8, d9, d10⟩, ⟨f0, f1, f2, f3, f4, f5, f6, f7, f8, f9, f10⟩, ⟨p0, p1, p2, p3, p4, p5, p6, p7, p8, p9, p10⟩, s0, s1, s2, s3, s4, s5, s6, s7, s8, s9, s10⟩ := HK.out w3 hh
        exact .run ((wanted_some rfl rfl q79).trans rfl) (.agg #[.int .i64 ek1, .int .i64 en1, .int .i64 ea1, .int .i64 ec1, .int .i64 eh1, .int .i64 et1, .int .i64 ei1, .int .i64 ep1, .slice B1 m1 c1, .bool false, .slice none 0 0]) w3 (by simp [execOp, go_sem, Act.eval, *]) (Below.refl _ _) rfl
      · simp only [List.getElem?_toArray, List.getElem?_cons_succ, List.getElem?_cons_zero, Option.some.injEq] at ho
        subst ho
        refine ⟨rfl, ?_⟩
        have q79 : A_.tmps[79]? = some (.bool true) := hI.val_ (i := 25) rfl rfl (by decide) (hdep ⟨25, .guard⟩ (by simp) rfl)
        have e12 : A_.tmps[12]?.getD undef = .pointer (some ⟨v5.heap.size, 0, none⟩) := by rw [hI.low 12 (by decide)]; rfl
        clear hI hdep
        obtain ⟨⟨d0, d1, d2, d3, d4, d5, d6, d7, d8, d9, d10⟩, ⟨f0, f1, f2, f3, f4, f5, f6, f7, f8, f9, f10⟩, ⟨p0, p1, p2, p3, p4, p5, p6, p7, p8, p9, p10⟩, s0, s1, s2, s3, s4, s5, s6, s7, s8, s9, s10⟩ := HK.out w3 hh
        exact .run ((wanted_some rfl rfl q79).trans rfl) (.agg #[.int .i64 ek1, .int .i64 en1, .int .i64 ea1, .int .i64 ec1, .int .i64 eh1, .int .i64 et1, .int .i64 ei1, .int .i64 ep1, .slice B5 m1 c5, .bool true, .slice (some ⟨u6.heap.size, 0, none⟩) 1 1]) w3 (by simp [execOp, go_sem, Act.eval, *]) (Below.refl _ _) rfl
      · simp only [List.getElem?_toArray, List.getElem?_cons_succ, List.getElem?_cons_zero, Option.some.injEq] at ho
        subst ho
        refine ⟨rfl, ?_⟩
        have q79 : A_.tmps[79]? = some (.bool true) := hI.val_ (i := 25) rfl rfl (by decide) (hdep ⟨25, .guard⟩ (by simp) rfl)
        have e80 : A_.tmps[80]?.getD undef = .agg #[.int .i64 ek1, .int .i64 en1, .int .i64 ea1, .int .i64 ec1, .int .i64 eh1, .int .i64 et1, .int .i64 ei1, .int .i64 ep1, .slice B1 m1 c1, .bool false, .slice none 0 0] := getD_of (hI.val_ (i := 26) rfl rfl (by decide) (hdep ⟨26, .data⟩ (by simp) rfl))
        have e81 : A_.tmps[81]?.getD undef = .agg #[.int .i64 ek1, .int .i64 en1, .int .i64 ea1, .int .i64 ec1, .int .i64 eh1, .int .i64 et1, .int .i64 ei1, .int .i64 ep1, .slice B5 m1 c5, .bool true, .slice (some ⟨u6.heap.size, 0, none⟩) 1 1] := getD_of (hI.val_ (i := 27) rfl rfl (by decide) (hdep ⟨27, .data⟩ (by simp) rfl))
        clear hI hdep
        exact .call ((wanted_some rfl rfl q79).trans rfl) 8 #[.agg #[.int .i64 ek1, .int .i64 en1, .int .i64 ea1, .int .i64 ec1, .int .i64 eh1, .int .i64 et1, .int .i64 ei1, .int .i64 ep1, .slice B1 m1 c1, .bool false, .slice none 0 0], .agg #[.int .i64 ek1, .int .i64 en1, .int .i64 ea1, .int .i64 ec1, .int .i64 eh1, .int .i64 et1, .int .i64 ei1, .int .i64 ep1, .slice B5 m1 c5, .bool true, .slice (some ⟨u6.heap.size, 0, none⟩) 1 1]] (by simp [go_sem, Act.eval, e80, e81]) ((HP17.out w3 hh).mono fun _ _ ⟨h1_, h2_⟩ => ⟨⟨_, h1_, rfl⟩, h2_⟩)
      · simp only [List.getElem?_toArray, List.getElem?_cons_succ, List.getElem?_cons_zero, Option.some.injEq] at ho
        subst ho
        refine ⟨rfl, ?_⟩
        have q79 : A_.tmps[79]? = some (.bool true) := hI.val_ (i := 25) rfl rfl (by decide) (hdep ⟨25, .guard⟩ (by simp) rfl)
        have e9 : A_.tmps[9]?.getD undef = .pointer (some ⟨v1.heap.size, 0, none⟩) := by rw [hI.low 9 (by decide)]; rfl
        clear hI hdep
        obtain ⟨⟨d0, d1, d2, d3, d4, d5, d6, d7, d8, d9, d10⟩, ⟨f0, f1, f2, f3, f4, f5, f6, f7, f8, f9, f10⟩, ⟨p0, p1, p2, p3, p4, p5, p6, p7, p8, p9, p10⟩, s0, s1, s2, s3, s4, s5, s6, s7, s8, s9, s10⟩ := HK.out w3 hh
        exact .run ((wanted_some rfl rfl q79).trans rfl) (.agg #[.int .i64 ek1, .int .i64 en1, .int .i64 ea1, .int .i64 ec1, .int .i64 eh1, .int .i64 et1, .int .i64 ei1, .int .i64 ep1, .slice B1 m1 c1, .bool false, .slice none 0 0]) w3 (by simp [execOp, go_sem, Act.eval, *]) (Below.refl _ _) rfl
      · simp only [List.getElem?_toArray, List.getElem?_cons_succ, List.getElem?_cons_zero, Option.some.injEq] at ho
        subst ho
        refine ⟨rfl, ?_⟩
        have q79 : A_.tmps[79]? = some (.bool true) := hI.val_ (i := 25) rfl rfl (by decide) (hdep ⟨25, .guard⟩ (by simp) rfl)
        have e12 : A_.tmps[12]?.getD undef = .pointer (some ⟨v5.heap.size, 0, none⟩) := by rw [hI.low 12 (by decide)]; rfl
        clear hI hdep
        obtain ⟨⟨d0, d1, d2, d3, d4, d5, d6, d7, d8, d9, d10⟩, ⟨f0, f1, f2, f3, f4, f5, f6, f7, f8, f9, f10⟩, ⟨p0, p1, p2, p3, p4, p5, p6, p7, p8, p9, p10⟩, s0, s1, s2, s3, s4, s5, s6, s7, s8, s9, s10⟩ := HK.out w3 hh
        exact .run ((wanted_some rfl rfl q79).trans rfl) (.agg #[.int .i64 ek1, .int .i64 en1, .int .i64 ea1, .int .i64 ec1, .int .i64 eh1, .int .i64 et1, .int .i64 ei1, .int .i64 ep1, .slice B5 m1 c5, .bool true, .slice (some ⟨u6.heap.size, 0, none⟩) 1 1]) w3 (by simp [execOp, go_sem, Act.eval, *]) (Below.refl _ _) rfl
      · simp only [List.getElem?_toArray, List.getElem?_cons_succ, List.getElem?_cons_zero, Option.some.injEq] at ho
        subst ho
        refine ⟨rfl, ?_⟩
        have q79 : A_.tmps[79]? = some (.bool true) := hI.val_ (i := 25) rfl rfl (by decide) (hdep ⟨25, .guard⟩ (by simp) rfl)
        have e83 : A_.tmps[83]?.getD undef = .agg #[.int .i64 ek1, .int .i64 en1, .int .i64 ea1, .int .i64 ec1, .int .i64 eh1, .int .i64 et1, .int .i64 ei1, .int .i64 ep1, .slice B1 m1 c1, .bool false, .slice none 0 0] := getD_of (hI.val_ (i := 29) rfl rfl (by decide) (hdep ⟨29, .data⟩ (by simp) rfl))
        have e84 : A_.tmps[84]?.getD undef = .agg #[.int .i64 ek1, .int .i64 en1, .int .i64 ea1, .int .i64 ec1, .int .i64 eh1, .int .i64 et1, .int .i64 ei1, .int .i64 ep1, .slice B5 m1 c5, .bool true, .slice (some ⟨u6.heap.size, 0, none⟩) 1 1] := getD_of (hI.val_ (i := 30) rfl rfl (by decide) (hdep ⟨30, .data⟩ (by simp) rfl))
        clear hI hdep
        exact .call ((wanted_some rfl rfl q79).trans rfl) 9 #[.agg #[.int .i64 ek1, .int .i64 en1, .int .i64 ea1, .int .i64 ec1, .int .i64 eh1, .int .i64 et1, .int .i64 ei1, .int .i64 ep1, .slice B1 m1 c1, .bool false, .slice none 0 0], .agg #[.int .i64 ek1, .int .i64 en1, .int .i64 ea1, .int .i64 ec1, .int .i64 eh1, .int .i64 et1, .int .i64 ei1, .int .i64 ep1, .slice B5 m1 c5, .bool true, .slice (some ⟨u6.heap.size, 0, none⟩) 1 1]] (by simp [go_sem, Act.eval, e83, e84]) ((HR17.out w3 hh).mono fun _ _ ⟨h1_, h2_⟩ => ⟨⟨_, h1_, rfl⟩, h2_⟩)
      · simp only [List.getElem?_toArray, List.getElem?_cons_succ, List.getElem?_cons_zero, Option.some.injEq] at ho
        subst ho
        refine ⟨rfl, ?_⟩
        have q79 : A_.tmps[79]? = some (.bool true) := hI.val_ (i := 25) rfl rfl (by decide) (hdep ⟨25, .guard⟩ (by simp) rfl)
        have e82 : A_.tmps[82]?.getD undef = .int .i64 r17 := getD_of (hI.val_ (i := 28) rfl rfl (by decide) (hdep ⟨28, .data⟩ (by simp) rfl))
        have e85 : A_.tmps[85]?.getD undef = .int .i64 r17 := getD_of (hI.val_ (i := 31) rfl rfl (by decide) (hdep ⟨31, .data⟩ (by simp) rfl))
        clear hI hdep
        exact .run ((wanted_some rfl rfl q79).trans rfl) (.bool true) w3 (by simp [execOp, go_sem, Act.eval, *]) (Below.refl _ _) rfl
      · simp only [List.getElem?_toArray, List.getElem?_cons_succ, List.getElem?_cons_zero, Option.some.injEq] at ho
        subst ho
        refine ⟨rfl, ?_⟩
        have e79 : A_.tmps[79]?.getD undef = .bool true := getD_of (hI.val_ (i := 25) rfl rfl (by decide) (hdep ⟨25, .data⟩ (by simp) rfl))
        have e86 : A_.tmps[86]?.getD undef = .bool true := getD_of (hI.val_ (i := 32) rfl rfl (by decide) (hdep ⟨32, .data⟩ (by simp) rfl))
        clear hI hdep
        exact .run rfl (.bool true) w3 (by simp [execOp, go_sem, Act.eval, e79, e86]) (Below.refl _ _) rfl
      · simp only [List.getElem?_toArray, List.getElem?_cons_succ, List.getElem?_cons_zero, Option.some.injEq] at ho
        subst ho
        refine ⟨rfl, ?_⟩
        have e87 : A_.tmps[87]?.getD undef = .bool true := getD_of (hI.val_ (i := 33) rfl rfl (by decide) (hdep ⟨33, .data⟩ (by simp) rfl))
        clear hI hdep
        exact .run rfl (.bool true) w3 (by simp [execOp, go_sem, Act.eval, e87]) (Below.refl _ _) rfl
      · simp only [List.getElem?_toArray, List.getElem?_cons_succ, List.getElem?_cons_zero, Option.some.injEq] at ho
        subst ho
        refine ⟨rfl, ?_⟩
        have q88 : A_.tmps[88]? = some (.bool true) := hI.val_ (i := 34) rfl rfl (by decide) (hdep ⟨34, .guard⟩ (by simp) rfl)
        clear hI hdep
        exact .call ((wanted_some rfl rfl q88).trans rfl) 10 #[] (by simp [go_sem]) ((HL.out w3 (HBF.out.trans (hh.mono HBF.out.size))).mono fun _ _ ⟨h1_, h2_⟩ => ⟨⟨_, h1_, rfl⟩, h2_⟩)
      · simp only [List.getElem?_toArray, List.getElem?_cons_succ, List.getElem?_cons_zero, Option.some.injEq] at ho
        subst ho
        refine ⟨rfl, ?_⟩
        have e88 : A_.tmps[88]?.getD undef = .bool true := getD_of (hI.val_ (i := 34) rfl rfl (by decide) (hdep ⟨34, .data⟩ (by simp) rfl))
        have e89 : A_.tmps[89]?.getD undef = .bool true := getD_of (hI.val_ (i := 35) rfl rfl (by decide) (hdep ⟨35, .data⟩ (by simp) rfl))
        clear hI hdep
        exact .run rfl (.bool true) w3 (by simp [execOp, go_sem, Act.eval, e88, e89]) (Below.refl _ _) rfl
      · simp only [List.getElem?_toArray, List.getElem?_cons_succ, List.getElem?_cons_zero, Option.some.injEq] at ho
        subst ho
        refine ⟨rfl, ?_⟩
        have e90 : A_.tmps[90]?.getD undef = .bool true := getD_of (hI.val_ (i := 36) rfl rfl (by decide) (hdep ⟨36, .data⟩ (by simp) rfl))
        clear hI hdep
        exact .run rfl (.bool true) w3 (by simp [execOp, go_sem, Act.eval, e90]) (Below.refl _ _) rfl
    case fin =>
    intro A_ w3 hs hd hlow hS hok
    obtain rfl : A_ = ⟨#[.slice A1 n1 k1, .slice A2 n2 k2, .int .i64 cut, .int .i64 nn, undef, undef, undef, undef, .bool true, .pointer (some ⟨v1.heap.size, 0, none⟩), .pointer (some ⟨v2.heap.size, 0, none⟩), .pointer (some ⟨v3.heap.size, 0, none⟩), .pointer (some ⟨v5.heap.size, 0, none⟩), .slice A1 n1 k1, .agg #[.int .i64 ek1, .int .i64 en1, .int .i64 ea1, .int .i64 ec1, .int .i64 eh1, .int .i64 et1, .int .i64 ei1, .int .i64 ep1, .slice B1 m1 c1, .bool false, .slice none 0 0], .slice A2 n2 k2, .agg #[.int .i64 ek2, .int .i64 en2, .int .i64 ea2, .int .i64 ec2, .int .i64 eh2, .int .i64 et2, .int .i64 ei2, .int .i64 ep2, .slice B2 m2 c2, .bool false, .slice none 0 0], .slice A1 n1 k1, .agg #[.int .i64 ek1, .int .i64 en1, .int .i64 ea1, .int .i64 ec1, .int .i64 eh1, .int .i64 et1, .int .i64 ei1, .int .i64 ep1, .slice B3 m1 c3, .bool false, .slice none 0 0], .pointer (some ⟨v3.heap.size, 8, none⟩), .slice B3 m1 c3, .int .i64 cut, .pointer (some ⟨v3.heap.size, 8, none⟩), .slice B3 m1 c3, .int .i64 (m1 : Int), .int .i64 ((m1 : Int) + 1), .int .i64 (q : Int), .slice B3 q c3, .pointer (some ⟨v3.heap.size, 8, none⟩), .slice A1 n1 k1, .agg #[.int .i64 ek1, .int .i64 en1, .int .i64 ea1, .int .i64 ec1, .int .i64 eh1, .int .i64 et1, .int .i64 ei1, .int .i64 ep1, .slice B5 m1 c5, .bool false, .slice none 0 0], .pointer (some ⟨v5.heap.size, 9, none⟩), .int .i64 nn, .agg #[.int .i64 0, .int .i64 0, .int .i64 0, .int .i64 nn, .int .i64 0], .slice (some ⟨u6.heap.size, 0, none⟩) 1 1, .pointer (some ⟨v5.heap.size, 10, none⟩), .pointer (some ⟨v5.heap.size, 8, none⟩), .slice B5 m1 c5, .int .i64 (m1 : Int), .bool false, undef, undef, undef, undef, undef, undef, undef, undef, undef, undef, undef, undef, undef, undef, .agg #[.int .i64 ek1, .int .i64 en1, .int .i64 ea1, .int .i64 ec1, .int .i64 eh1, .int .i64 et1, .int .i64 ei1, .int .i64 ep1, .slice B1 m1 c1, .bool false, .slice none 0 0], .agg #[.int .i64 ek2, .int .i64 en2, .int .i64 ea2, .int .i64 ec2, .int .i64 eh2, .int .i64 et2, .int .i64 ei2, .int .i64 ep2, .slice B2 m2 c2, .bool false, .slice none 0 0], .int .i64 r12, .agg #[.int .i64 ek1, .int .i64 en1, .int .i64 ea1, .int .i64 ec1, .int .i64 eh1, .int .i64 et1, .int .i64 ei1, .int .i64 ep1, .slice B1 m1 c1, .bool false, .slice none 0 0], .agg #[.int .i64 ek2, .int .i64 en2, .int .i64 ea2, .int .i64 ec2, .int .i64 eh2, .int .i64 et2, .int .i64 ei2, .int .i64 ep2, .slice B2 m2 c2, .bool false, .slice none 0 0], .int .i64 r12, .bool true, .bool true, .agg #[.int .i64 ek1, .int .i64 en1, .int .i64 ea1, .int .i64 ec1, .int .i64 eh1, .int .i64 et1, .int .i64 ei1, .int .i64 ep1, .slice B1 m1 c1, .bool false, .slice none 0 0], .agg #[.int .i64 ek1, .int .i64 en1, .int .i64 ea1, .int .i64 ec1, .int .i64 eh1, .int .i64 et1, .int .i64 ei1, .int .i64 ep1, .slice B3 q c3, .bool false, .slice none 0 0], .int .i64 r14, .agg #[.int .i64 ek1, .int .i64 en1, .int .i64 ea1, .int .i64 ec1, .int .i64 eh1, .int .i64 et1, .int .i64 ei1, .int .i64 ep1, .slice B1 m1 c1, .bool false, .slice none 0 0], .agg #[.int .i64 ek1, .int .i64 en1, .int .i64 ea1, .int .i64 ec1, .int .i64 eh1, .int .i64 et1, .int .i64 ei1, .int .i64 ep1, .slice B3 q c3, .bool false, .slice none 0 0], .int .i64 r14, .bool true, .bool true, .bool true, .agg #[.int .i64 ek1, .int .i64 en1, .int .i64 ea1, .int .i64 ec1, .int .i64 eh1, .int .i64 et1, .int .i64 ei1, .int .i64 ep1, .slice B3 q c3, .bool false, .slice none 0 0], .agg #[.int .i64 ek1, .int .i64 en1, .int .i64 ea1, .int .i64 ec1, .int .i64 eh1, .int .i64 et1, .int .i64 ei1, .int .i64 ep1, .slice B1 m1 c1, .bool false, .slice none 0 0], .int .i64 r41, .agg #[.int .i64 ek1, .int .i64 en1, .int .i64 ea1, .int .i64 ec1, .int .i64 eh1, .int .i64 et1, .int .i64 ei1, .int .i64 ep1, .slice B3 q c3, .bool false, .slice none 0 0], .agg #[.int .i64 ek1, .int .i64 en1, .int .i64 ea1, .int .i64 ec1, .int .i64 eh1, .int .i64 et1, .int .i64 ei1, .int .i64 ep1, .slice B1 m1 c1, .bool false, .slice none 0 0], .int .i64 r41, .bool true, .bool true, .bool true, .agg #[.int .i64 ek1, .int .i64 en1, .int .i64 ea1, .int .i64 ec1, .int .i64 eh1, .int .i64 et1, .int .i64 ei1, .int .i64 ep1, .slice B1 m1 c1, .bool false, .slice none 0 0], .agg #[.int .i64 ek1, .int .i64 en1, .int .i64 ea1, .int .i64 ec1, .int .i64 eh1, .int .i64 et1, .int .i64 ei1, .int .i64 ep1, .slice B5 m1 c5, .bool true, .slice (some ⟨u6.heap.size, 0, none⟩) 1 1], .int .i64 r17, .agg #[.int .i64 ek1, .int .i64 en1, .int .i64 ea1, .int .i64 ec1, .int .i64 eh1, .int .i64 et1, .int .i64 ei1, .int .i64 ep1, .slice B1 m1 c1, .bool false, .slice none 0 0], .agg #[.int .i64 ek1, .int .i64 en1, .int .i64 ea1, .int .i64 ec1, .int .i64 eh1, .int .i64 et1, .int .i64 ei1, .int .i64 ep1, .slice B5 m1 c5, .bool true, .slice (some ⟨u6.heap.size, 0, none⟩) 1 1], .int .i64 r17, .bool true, .bool true, .bool true, .bool true, .bool true], []⟩ := act_ext hd hs (fun j hj => match j, hj with | 0, _ => (hlow 0 (by decide)).trans rfl | 1, _ => (hlow 1 (by decide)).trans rfl | 2, _ => (hlow 2 (by decide)).trans rfl | 3, _ => (hlow 3 (by decide)).trans rfl | 4, _ => (hlow 4 (by decide)).trans rfl | 5, _ => (hlow 5 (by decide)).trans rfl | 6, _ => (hlow 6 (by decide)).trans rfl | 7, _ => (hlow 7 (by decide)).trans rfl | 8, _ => RgX.val_at (hok 37 8 _ (by decide) rfl rfl) | 9, _ => (hlow 9 (by decide)).trans rfl | 10, _ => (hlow 10 (by decide)).trans rfl | 11, _ => (hlow 11 (by decide)).trans rfl | 12, _ => (hlow 12 (by decide)).trans rfl | 13, _ => (hlow 13 (by decide)).trans rfl | 14, _ => (hlow 14 (by decide)).trans rfl | 15, _ => (hlow 15 (by decide)).trans rfl | 16, _ => (hlow 16 (by decide)).trans rfl | 17, _ => (hlow 17 (by decide)).trans rfl | 18, _ => (hlow 18 (by decide)).trans rfl | 19, _ => (hlow 19 (by decide)).trans rfl | 20, _ => (hlow 20 (by decide)).trans rfl | 21, _ => (hlow 21 (by decide)).trans rfl | 22, _ => (hlow 22 (by decide)).trans rfl | 23, _ => (hlow 23 (by decide)).trans rfl | 24, _ => (hlow 24 (by decide)).trans rfl | 25, _ => (hlow 25 (by decide)).trans rfl | 26, _ => (hlow 26 (by decide)).trans rfl | 27, _ => (hlow 27 (by decide)).trans rfl | 28, _ => (hlow 28 (by decide)).trans rfl | 29, _ => (hlow 29 (by decide)).trans rfl | 30, _ => (hlow 30 (by decide)).trans rfl | 31, _ => (hlow 31 (by decide)).trans rfl | 32, _ => (hlow 32 (by decide)).trans rfl | 33, _ => (hlow 33 (by decide)).trans rfl | 34, _ => (hlow 34 (by decide)).trans rfl | 35, _ => (hlow 35 (by decide)).trans rfl | 36, _ => (hlow 36 (by decide)).trans rfl | 37, _ => (hlow 37 (by decide)).trans rfl | 38, _ => (hlow 38 (by decide)).trans rfl | 39, _ => (hlow 39 (by decide)).trans rfl | 40, _ => (hlow 40 (by decide)).trans rfl | 41, _ => (hlow 41 (by decide)).trans rfl | 42, _ => (hlow 42 (by decide)).trans rfl | 43, _ => (hlow 43 (by decide)).trans rfl | 44, _ => (hlow 44 (by decide)).trans rfl | 45, _ => (hlow 45 (by decide)).trans rfl | 46, _ => (hlow 46 (by decide)).trans rfl | 47, _ => (hlow 47 (by decide)).trans rfl | 48, _ => (hlow 48 (by decide)).trans rfl | 49, _ => (hlow 49 (by decide)).trans rfl | 50, _ => (hlow 50 (by decide)).trans rfl | 51, _ => (hlow 51 (by decide)).trans rfl | 52, _ => (hlow 52 (by decide)).trans rfl | 53, _ => (hlow 53 (by decide)).trans rfl | 54, _ => RgX.val_at (hok 0 54 _ (by decide) rfl rfl) | 55, _ => RgX.val_at (hok 1 55 _ (by decide) rfl rfl) | 56, _ => RgX.val_at (hok 2 56 _ (by decide) rfl rfl) | 57, _ => RgX.val_at (hok 3 57 _ (by decide) rfl rfl) | 58, _ => RgX.val_at (hok 4 58 _ (by decide) rfl rfl) | 59, _ => RgX.val_at (hok 5 59 _ (by decide) rfl rfl) | 60, _ => RgX.val_at (hok 6 60 _ (by decide) rfl rfl) | 61, _ => RgX.val_at (hok 7 61 _ (by decide) rfl rfl) | 62, _ => RgX.val_at (hok 8 62 _ (by decide) rfl rfl) | 63, _ => RgX.val_at (hok 9 63 _ (by decide) rfl rfl) | 64, _ => RgX.val_at (hok 10 64 _ (by decide) rfl rfl) | 65, _ => RgX.val_at (hok 11 65 _ (by decide) rfl rfl) | 66, _ => RgX.val_at (hok 12 66 _ (by decide) rfl rfl) | 67, _ => RgX.val_at (hok 13 67 _ (by decide) rfl rfl) | 68, _ => RgX.val_at (hok 14 68 _ (by decide) rfl rfl) | 69, _ => RgX.val_at (hok 15 69 _ (by decide) rfl rfl) | 70, _ => RgX.val_at (hok 16 70 _ (by decide) rfl rfl) | 71, _ => RgX.val_at (hok 17 71 _ (by decide) rfl rfl) | 72, _ => RgX.val_at (hok 18 72 _ (by decide) rfl rfl) | 73, _ => RgX.val_at (hok 19 73 _ (by decide) rfl rfl) | 74, _ => RgX.val_at (hok 20 74 _ (by decide) rfl rfl) | 75, _ => RgX.val_at (hok 21 75 _ (by decide) rfl rfl) | 76, _ => RgX.val_at (hok 22 76 _ (by decide) rfl rfl) | 77, _ => RgX.val_at (hok 23 77 _ (by decide) rfl rfl) | 78, _ => RgX.val_at (hok 24 78 _ (by decide) rfl rfl) | 79, _ => RgX.val_at (hok 25 79 _ (by decide) rfl rfl) | 80, _ => RgX.val_at (hok 26 80 _ (by decide) rfl rfl) | 81, _ => RgX.val_at (hok 27 81 _ (by decide) rfl rfl) | 82, _ => RgX.val_at (hok 28 82 _ (by decide) rfl rfl) | 83, _ => RgX.val_at (hok 29 83 _ (by decide) rfl rfl) | 84, _ => RgX.val_at (hok 30 84 _ (by decide) rfl rfl) | 85, _ => RgX.val_at (hok 31 85 _ (by decide) rfl rfl) | 86, _ => RgX.val_at (hok 32 86 _ (by decide) rfl rfl) | 87, _ => RgX.val_at (hok 33 87 _ (by decide) rfl rfl) | 88, _ => RgX.val_at (hok 34 88 _ (by decide) rfl rfl) | 89, _ => RgX.val_at (hok 35 89 _ (by decide) rfl rfl) | 90, _ => RgX.val_at (hok 36 90 _ (by decide) rfl rfl) | n + 91, h => absurd h (by show ¬ n + 91 < 91; omega))
    clear hs hd hlow hok 
    go_wp2_with fail
    go_ret
    exact ⟨rfl, HBF.out.trans (hS.mono HBF.out.size)⟩
end Go.Proofs.YtggallpnbbidfaaGreatDoor.LawNamesSteps
