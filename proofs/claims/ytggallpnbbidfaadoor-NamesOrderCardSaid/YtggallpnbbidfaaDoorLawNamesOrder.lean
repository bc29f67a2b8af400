/-
  The walk of NamesOrder: steps and events are ordered. Condition: the listed tables and variables stand (TN).
-/
import Derived.Test.YtggallpnbbidfaaDoorNmSo
import Derived.Test.YtggallpnbbidfaaDoorNmL
import Derived.Test.YtggallpnbbidfaaDoorLaidN
import Derived.Deep.Cut
namespace Go.Proofs.YtggallpnbbidfaaDoor.LawNamesOrder
open Go Go.RowKit Go.Proofs Go.Proofs.YtggallpnbbidfaaDoor
attribute [local go_sem] Oper.semAt_some

theorem step_at {A : Option Addr} {n c : Nat} {z : List Int} (w : World) (hz : Ints .i64 w.heap.size w A n z) (h64 : ∀ x ∈ z, I64 x) {ek en ea ec eh et ei ep : Int} {m : Nat} {l : List (NM.Qu × Int)} (hE : NM.stepEv z = ⟨ek, en, ea, ⟨ec, eh, et, ei, ep⟩⟩) (hm : NM.stepN z = m) (hl : NM.stepAsks z (NM.stepN z) = l) :
    Calls Tryd.prog 12 #[.slice A n c] w fun e w' => ∃ B c', e = .returned (.agg #[.int .i64 ek, .int .i64 en, .int .i64 ea, .int .i64 ec, .int .i64 eh, .int .i64 et, .int .i64 ei, .int .i64 ep, .slice B m c', .bool false, .slice none 0 0]) ∧ AsksOwn w' w.heap.size B m c' l ∧ Below w.heap.size w w' := by
  refine (stepOf_any w hz h64).mono ?_
  rintro e w' ⟨B, c', he, ho, hb⟩
  rw [hE, hm] at he
  rw [hl, hm] at ho
  exact ⟨B, c', he, ho, hb⟩
theorem neg_wrap {x y : Int} (h : y = -x) (hx : x = -1 ∨ x = 0 ∨ x = 1) : IntKind.i64.wrap (-x) = y := by
  subst h
  rcases hx with rfl | rfl | rfl <;> rfl
theorem cs_eq (e f : NM.Ev) (l r : List (NM.Qu × Int)) : NM.orI (NM.lexL (NM.evL e) (NM.evL f)) (NM.cmpAsks l r) = NM.lexL (NM.stepL e l) (NM.stepL f r) := NM.step_eq e f l r
theorem and3 {x y z : Int} (h : x ≤ 0 → y ≤ 0 → z ≤ 0) : ((decide (x ≤ 0) && decide (y ≤ 0)) && decide (z > 0)) = false := by
  by_cases h1 : x ≤ 0
  · by_cases h2 : y ≤ 0
    · have h3 := h h1 h2
      have : ¬ z > 0 := by omega
      simp [this]
    · simp [h2]
  · simp [h1]
theorem and3' {x y z : Int} (h : x < 0 → y ≤ 0 → z < 0) : ((decide (x < 0) && decide (y ≤ 0)) && decide (z ≥ 0)) = false := by
  by_cases h1 : x < 0
  · by_cases h2 : y ≤ 0
    · have h3 := h h1 h2
      have : ¬ z ≥ 0 := by omega
      simp [this]
    · simp [h2]
  · simp [h1]
set_option maxHeartbeats 8000000 in
set_option maxRecDepth 100000 in
theorem walk (A1 : Option Addr) (n1 k1 : Nat) (z1 : List Int) (A2 : Option Addr) (n2 k2 : Nat) (z2 : List Int) (A3 : Option Addr) (n3 k3 : Nat) (z3 : List Int) (w : World) (w1 : Row .i64 w A1 n1 k1 z1) (w2 : Row .i64 w A2 n2 k2 z2) (w3 : Row .i64 w A3 n3 k3 z3) (hT : TN w) :
    Calls Tryd.prog 4 #[.slice A1 n1 k1, .slice A2 n2 k2, .slice A3 n3 k3] w fun e w' => e = .returned (.bool true) ∧ Below w.heap.size w w' := by
  have HL := Lib.hid (fun (V : World) (hV : Below w.heap.size w V) => lives_any V (hT.below hV))
  obtain ⟨i1, _, _, q1⟩ := w1.ints
  obtain ⟨i2, _, _, q2⟩ := w2.ints
  obtain ⟨i3, _, _, q3⟩ := w3.ints
  clear w1 w2 w3 hT
  obtain ⟨⟨ek1, en1, ea1, ⟨ec1, eh1, et1, ei1, ep1⟩⟩, hE1⟩ : ∃ E, NM.stepEv (z1.take n1) = E := ⟨_, rfl⟩
  obtain ⟨m1, hm1⟩ : ∃ m, NM.stepN (z1.take n1) = m := ⟨_, rfl⟩
  obtain ⟨l1, hl1⟩ : ∃ l, NM.stepAsks (z1.take n1) (NM.stepN (z1.take n1)) = l := ⟨_, rfl⟩
  have hm1le : m1 ≤ 3 := hm1 ▸ NM.stepN_le _
  have H1 := Lib.hid (fun (V : World) (hV : Below w.heap.size w V) => step_at (c := k1) V ((i1.below hV).more hV.size) (i64_of q1) hE1 hm1 hl1)
  clear i1 q1 hE1 hm1 hl1
  obtain ⟨⟨ek2, en2, ea2, ⟨ec2, eh2, et2, ei2, ep2⟩⟩, hE2⟩ : ∃ E, NM.stepEv (z2.take n2) = E := ⟨_, rfl⟩
  obtain ⟨m2, hm2⟩ : ∃ m, NM.stepN (z2.take n2) = m := ⟨_, rfl⟩
  obtain ⟨l2, hl2⟩ : ∃ l, NM.stepAsks (z2.take n2) (NM.stepN (z2.take n2)) = l := ⟨_, rfl⟩
  have hm2le : m2 ≤ 3 := hm2 ▸ NM.stepN_le _
  have H2 := Lib.hid (fun (V : World) (hV : Below w.heap.size w V) => step_at (c := k2) V ((i2.below hV).more hV.size) (i64_of q2) hE2 hm2 hl2)
  clear i2 q2 hE2 hm2 hl2
  obtain ⟨⟨ek3, en3, ea3, ⟨ec3, eh3, et3, ei3, ep3⟩⟩, hE3⟩ : ∃ E, NM.stepEv (z3.take n3) = E := ⟨_, rfl⟩
  obtain ⟨m3, hm3⟩ : ∃ m, NM.stepN (z3.take n3) = m := ⟨_, rfl⟩
  obtain ⟨l3, hl3⟩ : ∃ l, NM.stepAsks (z3.take n3) (NM.stepN (z3.take n3)) = l := ⟨_, rfl⟩
  have hm3le : m3 ≤ 3 := hm3 ▸ NM.stepN_le _
  have H3 := Lib.hid (fun (V : World) (hV : Below w.heap.size w V) => step_at (c := k3) V ((i3.below hV).more hV.size) (i64_of q3) hE3 hm3 hl3)
  clear i3 q3 hE3 hm3 hl3
  go_enter Tryd.func4, Tryd.ntmps4
  go_wp2_with fail
  refine (H1.out _ (Below.refl _ _)).mono ?_
  rintro e v1 ⟨B1, c1, rfl, ao1, hb1⟩
  have AO1 := Lib.hid (And.intro ao1.asks hb1)
  clear ao1 hb1 H1
  go_wp2_with (refine RgX.wpList_store_seg rfl 41 _ _ rfl v1.heap.size 0 (.agg #[.int .i64 ek1, .int .i64 en1, .int .i64 ea1, .int .i64 ec1, .int .i64 eh1, .int .i64 et1, .int .i64 ei1, .int .i64 ep1, .slice B1 m1 c1, .bool false, .slice none 0 0]) rfl rfl 41 #[.int .i64 0, .int .i64 0, .int .i64 0, .int .i64 0, .int .i64 0, .int .i64 0, .int .i64 0, .int .i64 0, .slice none 0 0, .bool false, .slice none 0 0] (new_at rfl) (by rw [size_step]; rfl) (by show 0 + 11 ≤ 11; omega) (by simp [Value.cells, Value.oneCell']) #[.int .i64 ek1, .int .i64 en1, .int .i64 ea1, .int .i64 ec1, .int .i64 eh1, .int .i64 et1, .int .i64 ei1, .int .i64 ep1, .slice B1 m1 c1, .bool false, .slice none 0 0] rfl ?_; intro u1 kb1 ho1 hz1 hx1)
  have hsz1 : u1.heap.size = v1.heap.size + 1 := by rw [hz1]; simp
  have hbu1 : Below v1.heap.size v1 u1 := (one_box v1 _).trans hx1
  obtain ⟨ao1, hb1⟩ := AO1.out
  have HB1 := Lib.hid (show Below w.heap.size w u1 from hb1.trans (hbu1.mono hb1.size))
  have HX1 := Lib.hid (And.intro ao1 (And.intro hb1 (And.intro hbu1 kb1)))
  clear ao1 hb1 hbu1 kb1 ho1 hz1 hx1 AO1
  refine (H2.out _ HB1.out).mono ?_
  rintro e v2 ⟨B2, c2, rfl, ao2, hb2⟩
  have AO2 := Lib.hid (And.intro ao2.asks hb2)
  clear ao2 hb2 H2
  go_wp2_with (refine RgX.wpList_store_seg rfl 41 _ _ rfl v2.heap.size 0 (.agg #[.int .i64 ek2, .int .i64 en2, .int .i64 ea2, .int .i64 ec2, .int .i64 eh2, .int .i64 et2, .int .i64 ei2, .int .i64 ep2, .slice B2 m2 c2, .bool false, .slice none 0 0]) rfl rfl 41 #[.int .i64 0, .int .i64 0, .int .i64 0, .int .i64 0, .int .i64 0, .int .i64 0, .int .i64 0, .int .i64 0, .slice none 0 0, .bool false, .slice none 0 0] (new_at rfl) (by rw [size_step]; rfl) (by show 0 + 11 ≤ 11; omega) (by simp [Value.cells, Value.oneCell']) #[.int .i64 ek2, .int .i64 en2, .int .i64 ea2, .int .i64 ec2, .int .i64 eh2, .int .i64 et2, .int .i64 ei2, .int .i64 ep2, .slice B2 m2 c2, .bool false, .slice none 0 0] rfl ?_; intro u2 kb2 ho2 hz2 hx2)
  have hsz2 : u2.heap.size = v2.heap.size + 1 := by rw [hz2]; simp
  have hbu2 : Below v2.heap.size v2 u2 := (one_box v2 _).trans hx2
  obtain ⟨ao2, hb2⟩ := AO2.out
  have HB2 := Lib.hid (show Below w.heap.size w u2 from (HB1.out.trans (hb2.mono HB1.out.size)).trans (hbu2.mono (by have := HB1.out.size; have := hb2.size; omega)))
  have HX2 := Lib.hid (And.intro ao2 (And.intro hb2 (And.intro hbu2 kb2)))
  clear ao2 hb2 hbu2 kb2 ho2 hz2 hx2 AO2
  refine (H3.out _ HB2.out).mono ?_
  rintro e v3 ⟨B3, c3, rfl, ao3, hb3⟩
  have AO3 := Lib.hid (And.intro ao3.asks hb3)
  clear ao3 hb3 H3
  go_upto_region 4 with (refine RgX.wpList_store_seg rfl 41 _ _ rfl v3.heap.size 0 (.agg #[.int .i64 ek3, .int .i64 en3, .int .i64 ea3, .int .i64 ec3, .int .i64 eh3, .int .i64 et3, .int .i64 ei3, .int .i64 ep3, .slice B3 m3 c3, .bool false, .slice none 0 0]) rfl rfl 41 #[.int .i64 0, .int .i64 0, .int .i64 0, .int .i64 0, .int .i64 0, .int .i64 0, .int .i64 0, .int .i64 0, .slice none 0 0, .bool false, .slice none 0 0] (new_at rfl) (by rw [size_step]; rfl) (by show 0 + 11 ≤ 11; omega) (by simp [Value.cells, Value.oneCell']) #[.int .i64 ek3, .int .i64 en3, .int .i64 ea3, .int .i64 ec3, .int .i64 eh3, .int .i64 et3, .int .i64 ei3, .int .i64 ep3, .slice B3 m3 c3, .bool false, .slice none 0 0] rfl ?_; intro u3 kb3 ho3 hz3 hx3)
  have hsz3 : u3.heap.size = v3.heap.size + 1 := by rw [hz3]; simp
  have hbu3 : Below v3.heap.size v3 u3 := (one_box v3 _).trans hx3
  obtain ⟨ao3, hb3⟩ := AO3.out
  have HB3 := Lib.hid (show Below w.heap.size w u3 from (HB2.out.trans (hb3.mono HB2.out.size)).trans (hbu3.mono (by have := HB2.out.size; have := hb3.size; omega)))
  have HX3 := Lib.hid (And.intro ao3 (And.intro hb3 (And.intro hbu3 kb3)))
  clear ao3 hb3 hbu3 kb3 ho3 hz3 hx3 AO3
  obtain ⟨a1, b1, d1, kb1⟩ := HX1.out
  obtain ⟨a2, b2, d2, kb2⟩ := HX2.out
  obtain ⟨a3, b3, d3, kb3⟩ := HX3.out
  have s1 := b1.size
  have s2 := b2.size
  have s3 := b3.size
  have p2 : Below u2.heap.size u2 u3 := b3.trans (d3.mono b3.size)
  have p1 : Below u1.heap.size u1 u3 := (b2.trans (d2.mono b2.size)).trans (p2.mono (by omega))
  have x1 : Asks u3 B1 m1 l1 := (a1.keep d1).keep p1
  have x2 : Asks u3 B2 m2 l2 := (a2.keep d2).keep p2
  have x3 : Asks u3 B3 m3 l3 := a3.keep d3
  have y1 : u3.heap[v1.heap.size]? = some (.cells #[.int .i64 ek1, .int .i64 en1, .int .i64 ea1, .int .i64 ec1, .int .i64 eh1, .int .i64 et1, .int .i64 ei1, .int .i64 ep1, .slice B1 m1 c1, .bool false, .slice none 0 0] 41 (0, 0)) := (p1.block _ (by omega)).trans kb1
  have y2 : u3.heap[v2.heap.size]? = some (.cells #[.int .i64 ek2, .int .i64 en2, .int .i64 ea2, .int .i64 ec2, .int .i64 eh2, .int .i64 et2, .int .i64 ei2, .int .i64 ep2, .slice B2 m2 c2, .bool false, .slice none 0 0] 41 (0, 0)) := (p2.block _ (by omega)).trans kb2
  have HK := Lib.hid (fun (V : World) (hV : Below u3.heap.size u3 V) => And.intro (row11 ((hV.block _ (by omega)).trans y1)) (And.intro (row11 ((hV.block _ (by omega)).trans y2)) (row11 ((hV.block _ (by omega)).trans kb3))))
  have HS12 := Lib.hid (fun (V : World) (hV : Below u3.heap.size u3 V) => cmpStep_any ek1 en1 ea1 ec1 eh1 et1 ei1 ep1 ek2 en2 ea2 ec2 eh2 et2 ei2 ep2 B1 B2 none none m1 c1 m2 c2 0 0 0 0 false false V (x1.keep hV) (x2.keep hV) (by omega) (by omega))
  simp only [cs_eq] at HS12
  have HS21 := Lib.hid (fun (V : World) (hV : Below u3.heap.size u3 V) => cmpStep_any ek2 en2 ea2 ec2 eh2 et2 ei2 ep2 ek1 en1 ea1 ec1 eh1 et1 ei1 ep1 B2 B1 none none m2 c2 m1 c1 0 0 0 0 false false V (x2.keep hV) (x1.keep hV) (by omega) (by omega))
  simp only [cs_eq] at HS21
  have HS23 := Lib.hid (fun (V : World) (hV : Below u3.heap.size u3 V) => cmpStep_any ek2 en2 ea2 ec2 eh2 et2 ei2 ep2 ek3 en3 ea3 ec3 eh3 et3 ei3 ep3 B2 B3 none none m2 c2 m3 c3 0 0 0 0 false false V (x2.keep hV) (x3.keep hV) (by omega) (by omega))
  simp only [cs_eq] at HS23
  have HS13 := Lib.hid (fun (V : World) (hV : Below u3.heap.size u3 V) => cmpStep_any ek1 en1 ea1 ec1 eh1 et1 ei1 ep1 ek3 en3 ea3 ec3 eh3 et3 ei3 ep3 B1 B3 none none m1 c1 m3 c3 0 0 0 0 false false V (x1.keep hV) (x3.keep hV) (by omega) (by omega))
  simp only [cs_eq] at HS13
  have HS11 := Lib.hid (fun (V : World) (hV : Below u3.heap.size u3 V) => cmpStep_any ek1 en1 ea1 ec1 eh1 et1 ei1 ep1 ek1 en1 ea1 ec1 eh1 et1 ei1 ep1 B1 B1 none none m1 c1 m1 c1 0 0 0 0 false false V (x1.keep hV) (x1.keep hV) (by omega) (by omega))
  simp only [cs_eq] at HS11
  have HB := HB3
  clear HX1 HX2 HX3 HB1 HB2 HB3 a1 b1 d1 kb1 a2 b2 d2 kb2 a3 b3 d3 kb3 p1 p2 x1 x2 x3 y1 y2
  have HE12 := Lib.hid (show ∀ V, Calls Tryd.prog 6 #[.agg #[.int .i64 ek1, .int .i64 en1, .int .i64 ea1, .int .i64 ec1, .int .i64 eh1, .int .i64 et1, .int .i64 ei1, .int .i64 ep1], .agg #[.int .i64 ek2, .int .i64 en2, .int .i64 ea2, .int .i64 ec2, .int .i64 eh2, .int .i64 et2, .int .i64 ei2, .int .i64 ep2]] V fun e w' => e = .returned (.int .i64 (NM.lexL (NM.evL ⟨ek1, en1, ea1, ⟨ec1, eh1, et1, ei1, ep1⟩⟩) (NM.evL ⟨ek2, en2, ea2, ⟨ec2, eh2, et2, ei2, ep2⟩⟩))) ∧ Below V.heap.size V w' from fun V => cmpEv_any ⟨ek1, en1, ea1, ⟨ec1, eh1, et1, ei1, ep1⟩⟩ ⟨ek2, en2, ea2, ⟨ec2, eh2, et2, ei2, ep2⟩⟩ V)
  have HE21 := Lib.hid (show ∀ V, Calls Tryd.prog 6 #[.agg #[.int .i64 ek2, .int .i64 en2, .int .i64 ea2, .int .i64 ec2, .int .i64 eh2, .int .i64 et2, .int .i64 ei2, .int .i64 ep2], .agg #[.int .i64 ek1, .int .i64 en1, .int .i64 ea1, .int .i64 ec1, .int .i64 eh1, .int .i64 et1, .int .i64 ei1, .int .i64 ep1]] V fun e w' => e = .returned (.int .i64 (NM.lexL (NM.evL ⟨ek2, en2, ea2, ⟨ec2, eh2, et2, ei2, ep2⟩⟩) (NM.evL ⟨ek1, en1, ea1, ⟨ec1, eh1, et1, ei1, ep1⟩⟩))) ∧ Below V.heap.size V w' from fun V => cmpEv_any ⟨ek2, en2, ea2, ⟨ec2, eh2, et2, ei2, ep2⟩⟩ ⟨ek1, en1, ea1, ⟨ec1, eh1, et1, ei1, ep1⟩⟩ V)
  have HE23 := Lib.hid (show ∀ V, Calls Tryd.prog 6 #[.agg #[.int .i64 ek2, .int .i64 en2, .int .i64 ea2, .int .i64 ec2, .int .i64 eh2, .int .i64 et2, .int .i64 ei2, .int .i64 ep2], .agg #[.int .i64 ek3, .int .i64 en3, .int .i64 ea3, .int .i64 ec3, .int .i64 eh3, .int .i64 et3, .int .i64 ei3, .int .i64 ep3]] V fun e w' => e = .returned (.int .i64 (NM.lexL (NM.evL ⟨ek2, en2, ea2, ⟨ec2, eh2, et2, ei2, ep2⟩⟩) (NM.evL ⟨ek3, en3, ea3, ⟨ec3, eh3, et3, ei3, ep3⟩⟩))) ∧ Below V.heap.size V w' from fun V => cmpEv_any ⟨ek2, en2, ea2, ⟨ec2, eh2, et2, ei2, ep2⟩⟩ ⟨ek3, en3, ea3, ⟨ec3, eh3, et3, ei3, ep3⟩⟩ V)
  have HE13 := Lib.hid (show ∀ V, Calls Tryd.prog 6 #[.agg #[.int .i64 ek1, .int .i64 en1, .int .i64 ea1, .int .i64 ec1, .int .i64 eh1, .int .i64 et1, .int .i64 ei1, .int .i64 ep1], .agg #[.int .i64 ek3, .int .i64 en3, .int .i64 ea3, .int .i64 ec3, .int .i64 eh3, .int .i64 et3, .int .i64 ei3, .int .i64 ep3]] V fun e w' => e = .returned (.int .i64 (NM.lexL (NM.evL ⟨ek1, en1, ea1, ⟨ec1, eh1, et1, ei1, ep1⟩⟩) (NM.evL ⟨ek3, en3, ea3, ⟨ec3, eh3, et3, ei3, ep3⟩⟩))) ∧ Below V.heap.size V w' from fun V => cmpEv_any ⟨ek1, en1, ea1, ⟨ec1, eh1, et1, ei1, ep1⟩⟩ ⟨ek3, en3, ea3, ⟨ec3, eh3, et3, ei3, ep3⟩⟩ V)
  have f21 := NM.lexL_swap (NM.stepL ⟨ek1, en1, ea1, ⟨ec1, eh1, et1, ei1, ep1⟩⟩ l1) (NM.stepL ⟨ek2, en2, ea2, ⟨ec2, eh2, et2, ei2, ep2⟩⟩ l2)
  have f12 := NM.lexL_vals (NM.stepL ⟨ek2, en2, ea2, ⟨ec2, eh2, et2, ei2, ep2⟩⟩ l2) (NM.stepL ⟨ek1, en1, ea1, ⟨ec1, eh1, et1, ei1, ep1⟩⟩ l1)
  have f13 := @NM.lexL_trans (NM.stepL ⟨ek1, en1, ea1, ⟨ec1, eh1, et1, ei1, ep1⟩⟩ l1) (NM.stepL ⟨ek2, en2, ea2, ⟨ec2, eh2, et2, ei2, ep2⟩⟩ l2) (NM.stepL ⟨ek3, en3, ea3, ⟨ec3, eh3, et3, ei3, ep3⟩⟩ l3)
  have f11 := NM.lexL_self (NM.stepL ⟨ek1, en1, ea1, ⟨ec1, eh1, et1, ei1, ep1⟩⟩ l1)
  have g21 := NM.lexL_swap (NM.evL ⟨ek1, en1, ea1, ⟨ec1, eh1, et1, ei1, ep1⟩⟩) (NM.evL ⟨ek2, en2, ea2, ⟨ec2, eh2, et2, ei2, ep2⟩⟩)
  have g12 := NM.lexL_vals (NM.evL ⟨ek2, en2, ea2, ⟨ec2, eh2, et2, ei2, ep2⟩⟩) (NM.evL ⟨ek1, en1, ea1, ⟨ec1, eh1, et1, ei1, ep1⟩⟩)
  have g13 := @NM.lexL_lt (NM.evL ⟨ek1, en1, ea1, ⟨ec1, eh1, et1, ei1, ep1⟩⟩) (NM.evL ⟨ek2, en2, ea2, ⟨ec2, eh2, et2, ei2, ep2⟩⟩) (NM.evL ⟨ek3, en3, ea3, ⟨ec3, eh3, et3, ei3, ep3⟩⟩)
  obtain ⟨q, hq⟩ : ∃ q, decide (NM.lexL (NM.evL ⟨ek1, en1, ea1, ⟨ec1, eh1, et1, ei1, ep1⟩⟩) (NM.evL ⟨ek2, en2, ea2, ⟨ec2, eh2, et2, ei2, ep2⟩⟩) = 0) = q := ⟨_, rfl⟩
  have hq2 : decide ((⟨ek1, en1, ea1, ⟨ec1, eh1, et1, ei1, ep1⟩⟩ : NM.Ev) = ⟨ek2, en2, ea2, ⟨ec2, eh2, et2, ei2, ep2⟩⟩) = q := by
    rw [← hq]
    refine decide_eq_decide.2 ⟨fun h => by rw [h]; exact NM.lexL_self _, fun h => NM.evL_inj.1 (NM.lexL_zero h)⟩
  have heq : ∀ V, (binOp .eql 27 (.agg #[.int .i64 ek1, .int .i64 en1, .int .i64 ea1, .int .i64 ec1, .int .i64 eh1, .int .i64 et1, .int .i64 ei1, .int .i64 ep1]) (.agg #[.int .i64 ek2, .int .i64 en2, .int .i64 ea2, .int .i64 ec2, .int .i64 eh2, .int .i64 et2, .int .i64 ei2, .int .i64 ep2])).run Tryd.prog V = .ok (.bool q) V := fun V => by
    have := eqE_any ⟨ek1, en1, ea1, ⟨ec1, eh1, et1, ei1, ep1⟩⟩ ⟨ek2, en2, ea2, ⟨ec2, eh2, et2, ei2, ep2⟩⟩ V
    rw [hq2] at this
    exact this
  rw [f11] at HS11
  generalize NM.lexL (NM.stepL ⟨ek1, en1, ea1, ⟨ec1, eh1, et1, ei1, ep1⟩⟩ l1) (NM.stepL ⟨ek2, en2, ea2, ⟨ec2, eh2, et2, ei2, ep2⟩⟩ l2) = r12 at *
  generalize NM.lexL (NM.stepL ⟨ek2, en2, ea2, ⟨ec2, eh2, et2, ei2, ep2⟩⟩ l2) (NM.stepL ⟨ek1, en1, ea1, ⟨ec1, eh1, et1, ei1, ep1⟩⟩ l1) = r21 at *
  generalize NM.lexL (NM.stepL ⟨ek2, en2, ea2, ⟨ec2, eh2, et2, ei2, ep2⟩⟩ l2) (NM.stepL ⟨ek3, en3, ea3, ⟨ec3, eh3, et3, ei3, ep3⟩⟩ l3) = r23 at *
  generalize NM.lexL (NM.stepL ⟨ek1, en1, ea1, ⟨ec1, eh1, et1, ei1, ep1⟩⟩ l1) (NM.stepL ⟨ek3, en3, ea3, ⟨ec3, eh3, et3, ei3, ep3⟩⟩ l3) = r13 at *
  generalize NM.lexL (NM.evL ⟨ek1, en1, ea1, ⟨ec1, eh1, et1, ei1, ep1⟩⟩) (NM.evL ⟨ek2, en2, ea2, ⟨ec2, eh2, et2, ei2, ep2⟩⟩) = e12 at *
  generalize NM.lexL (NM.evL ⟨ek2, en2, ea2, ⟨ec2, eh2, et2, ei2, ep2⟩⟩) (NM.evL ⟨ek1, en1, ea1, ⟨ec1, eh1, et1, ei1, ep1⟩⟩) = e21 at *
  generalize NM.lexL (NM.evL ⟨ek2, en2, ea2, ⟨ec2, eh2, et2, ei2, ep2⟩⟩) (NM.evL ⟨ek3, en3, ea3, ⟨ec3, eh3, et3, ei3, ep3⟩⟩) = e23 at *
  generalize NM.lexL (NM.evL ⟨ek1, en1, ea1, ⟨ec1, eh1, et1, ei1, ep1⟩⟩) (NM.evL ⟨ek3, en3, ea3, ⟨ec3, eh3, et3, ei3, ep3⟩⟩) = e13 at *
  have h21 := Lib.hid (neg_wrap (x := r21) (y := r12) (by omega) f12)
  have k21 := Lib.hid (neg_wrap (x := e21) (y := e12) (by omega) g12)
  have t1 := Lib.hid (and3 f13)
  have t2 := Lib.hid (and3' g13)
  have HQ := Lib.hid hq
  have HEQ := Lib.hid heq
  clear f21 f12 f13 f11 g21 g12 g13 hq hq2 heq
  refine RgX.region 22 (fun i => ( 16 + i)) (fun ix_ => match ix_ with | 0 => .v (.agg #[.int .i64 ek1, .int .i64 en1, .int .i64 ea1, .int .i64 ec1, .int .i64 eh1, .int .i64 et1, .int .i64 ei1, .int .i64 ep1, .slice B1 m1 c1, .bool false, .slice none 0 0]) | 1 => .v (.agg #[.int .i64 ek2, .int .i64 en2, .int .i64 ea2, .int .i64 ec2, .int .i64 eh2, .int .i64 et2, .int .i64 ei2, .int .i64 ep2, .slice B2 m2 c2, .bool false, .slice none 0 0]) | 2 => .v (.int .i64 r12) | 3 => .v (.agg #[.int .i64 ek2, .int .i64 en2, .int .i64 ea2, .int .i64 ec2, .int .i64 eh2, .int .i64 et2, .int .i64 ei2, .int .i64 ep2, .slice B2 m2 c2, .bool false, .slice none 0 0]) | 4 => .v (.agg #[.int .i64 ek1, .int .i64 en1, .int .i64 ea1, .int .i64 ec1, .int .i64 eh1, .int .i64 et1, .int .i64 ei1, .int .i64 ep1, .slice B1 m1 c1, .bool false, .slice none 0 0]) | 5 => .v (.int .i64 r21) | 6 => .v (.int .i64 r12) | 7 => .v (.bool false) | 8 => .v (.bool false) | 9 => .v (.pointer (some ⟨v1.heap.size, 0, none⟩)) | 10 => .v (.agg #[.int .i64 ek1, .int .i64 en1, .int .i64 ea1, .int .i64 ec1, .int .i64 eh1, .int .i64 et1, .int .i64 ei1, .int .i64 ep1]) | 11 => .v (.pointer (some ⟨v2.heap.size, 0, none⟩)) | 12 => .v (.agg #[.int .i64 ek2, .int .i64 en2, .int .i64 ea2, .int .i64 ec2, .int .i64 eh2, .int .i64 et2, .int .i64 ei2, .int .i64 ep2]) | 13 => .v (.int .i64 e12) | 14 => .v (.pointer (some ⟨v2.heap.size, 0, none⟩)) | 15 => .v (.agg #[.int .i64 ek2, .int .i64 en2, .int .i64 ea2, .int .i64 ec2, .int .i64 eh2, .int .i64 et2, .int .i64 ei2, .int .i64 ep2]) | 16 => .v (.pointer (some ⟨v1.heap.size, 0, none⟩)) | 17 => .v (.agg #[.int .i64 ek1, .int .i64 en1, .int .i64 ea1, .int .i64 ec1, .int .i64 eh1, .int .i64 et1, .int .i64 ei1, .int .i64 ep1]) | 18 => .v (.int .i64 e21) | 19 => .v (.int .i64 e12) | 20 => .v (.bool false) | 21 => .v (.bool false) | _ => .any) (by kernel_rfl) rfl (by kernel_rfl)  (fun i hi => by show ( 16 + i) < 97; (repeat' split) <;> omega) (fun i j hi hj => by show ( 16 + i) = ( 16 + j) → i = j; (repeat' split) <;> omega) ?step ?fin
  case step =>
    intro L_ A_ w3 ix op_ hI ho hdep
    have hi : ix < 22 := (Array.getElem?_eq_some_iff.1 ho).1
    have hcase : ix = 0 ∨ ix = 1 ∨ ix = 2 ∨ ix = 3 ∨ ix = 4 ∨ ix = 5 ∨ ix = 6 ∨ ix = 7 ∨ ix = 8 ∨ ix = 9 ∨ ix = 10 ∨ ix = 11 ∨ ix = 12 ∨ ix = 13 ∨ ix = 14 ∨ ix = 15 ∨ ix = 16 ∨ ix = 17 ∨ ix = 18 ∨ ix = 19 ∨ ix = 20 ∨ ix = 21 := by omega
    have hh := hI.held
    clear hi
    rcases hcase with rfl | rfl | rfl | rfl | rfl | rfl | rfl | rfl | rfl | rfl | rfl | rfl | rfl | rfl | rfl | rfl | rfl | rfl | rfl | rfl | rfl | rfl
    · simp only [List.getElem?_toArray, List.getElem?_cons_zero, Option.some.injEq] at ho
      subst ho
      refine ⟨rfl, ?_⟩
      have e7 : A_.tmps[7]?.getD undef = .pointer (some ⟨v1.heap.size, 0, none⟩) := by rw [hI.low 7 (by decide)]; rfl
      clear hI hdep
      obtain ⟨⟨fa0, fa1, fa2, fa3, fa4, fa5, fa6, fa7, fa8, fa9, fa10⟩, ⟨fb0, fb1, fb2, fb3, fb4, fb5, fb6, fb7, fb8, fb9, fb10⟩, fc0, fc1, fc2, fc3, fc4, fc5, fc6, fc7, fc8, fc9, fc10⟩ := HK.out w3 (hh)
      exact .run rfl (.agg #[.int .i64 ek1, .int .i64 en1, .int .i64 ea1, .int .i64 ec1, .int .i64 eh1, .int .i64 et1, .int .i64 ei1, .int .i64 ep1, .slice B1 m1 c1, .bool false, .slice none 0 0]) w3 (by simp [execOp, go_sem, Act.eval, *]) (Below.refl _ _) rfl
    · simp only [List.getElem?_toArray, List.getElem?_cons_succ, List.getElem?_cons_zero, Option.some.injEq] at ho
      subst ho
      refine ⟨rfl, ?_⟩
      have e8 : A_.tmps[8]?.getD undef = .pointer (some ⟨v2.heap.size, 0, none⟩) := by rw [hI.low 8 (by decide)]; rfl
      clear hI hdep
      obtain ⟨⟨fa0, fa1, fa2, fa3, fa4, fa5, fa6, fa7, fa8, fa9, fa10⟩, ⟨fb0, fb1, fb2, fb3, fb4, fb5, fb6, fb7, fb8, fb9, fb10⟩, fc0, fc1, fc2, fc3, fc4, fc5, fc6, fc7, fc8, fc9, fc10⟩ := HK.out w3 (hh)
      exact .run rfl (.agg #[.int .i64 ek2, .int .i64 en2, .int .i64 ea2, .int .i64 ec2, .int .i64 eh2, .int .i64 et2, .int .i64 ei2, .int .i64 ep2, .slice B2 m2 c2, .bool false, .slice none 0 0]) w3 (by simp [execOp, go_sem, Act.eval, *]) (Below.refl _ _) rfl
    · simp only [List.getElem?_toArray, List.getElem?_cons_succ, List.getElem?_cons_zero, Option.some.injEq] at ho
      subst ho
      refine ⟨rfl, ?_⟩
      have e16 : A_.tmps[16]?.getD undef = .agg #[.int .i64 ek1, .int .i64 en1, .int .i64 ea1, .int .i64 ec1, .int .i64 eh1, .int .i64 et1, .int .i64 ei1, .int .i64 ep1, .slice B1 m1 c1, .bool false, .slice none 0 0] := getD_of (hI.val_ (i := 0) rfl rfl (by decide) (hdep ⟨0, .data⟩ (by simp) rfl))
      have e17 : A_.tmps[17]?.getD undef = .agg #[.int .i64 ek2, .int .i64 en2, .int .i64 ea2, .int .i64 ec2, .int .i64 eh2, .int .i64 et2, .int .i64 ei2, .int .i64 ep2, .slice B2 m2 c2, .bool false, .slice none 0 0] := getD_of (hI.val_ (i := 1) rfl rfl (by decide) (hdep ⟨1, .data⟩ (by simp) rfl))
      clear hI hdep
      exact .call rfl 13 #[.agg #[.int .i64 ek1, .int .i64 en1, .int .i64 ea1, .int .i64 ec1, .int .i64 eh1, .int .i64 et1, .int .i64 ei1, .int .i64 ep1, .slice B1 m1 c1, .bool false, .slice none 0 0], .agg #[.int .i64 ek2, .int .i64 en2, .int .i64 ea2, .int .i64 ec2, .int .i64 eh2, .int .i64 et2, .int .i64 ei2, .int .i64 ep2, .slice B2 m2 c2, .bool false, .slice none 0 0]] (by simp [go_sem, Act.eval, e16, e17]) ((HS12.out w3 (hh)).mono fun _ _ ⟨h1_, h2_⟩ => ⟨⟨_, h1_, rfl⟩, h2_⟩)
    · simp only [List.getElem?_toArray, List.getElem?_cons_succ, List.getElem?_cons_zero, Option.some.injEq] at ho
      subst ho
      refine ⟨rfl, ?_⟩
      have e8 : A_.tmps[8]?.getD undef = .pointer (some ⟨v2.heap.size, 0, none⟩) := by rw [hI.low 8 (by decide)]; rfl
      clear hI hdep
      obtain ⟨⟨fa0, fa1, fa2, fa3, fa4, fa5, fa6, fa7, fa8, fa9, fa10⟩, ⟨fb0, fb1, fb2, fb3, fb4, fb5, fb6, fb7, fb8, fb9, fb10⟩, fc0, fc1, fc2, fc3, fc4, fc5, fc6, fc7, fc8, fc9, fc10⟩ := HK.out w3 (hh)
      exact .run rfl (.agg #[.int .i64 ek2, .int .i64 en2, .int .i64 ea2, .int .i64 ec2, .int .i64 eh2, .int .i64 et2, .int .i64 ei2, .int .i64 ep2, .slice B2 m2 c2, .bool false, .slice none 0 0]) w3 (by simp [execOp, go_sem, Act.eval, *]) (Below.refl _ _) rfl
    · simp only [List.getElem?_toArray, List.getElem?_cons_succ, List.getElem?_cons_zero, Option.some.injEq] at ho
      subst ho
      refine ⟨rfl, ?_⟩
      have e7 : A_.tmps[7]?.getD undef = .pointer (some ⟨v1.heap.size, 0, none⟩) := by rw [hI.low 7 (by decide)]; rfl
      clear hI hdep
      obtain ⟨⟨fa0, fa1, fa2, fa3, fa4, fa5, fa6, fa7, fa8, fa9, fa10⟩, ⟨fb0, fb1, fb2, fb3, fb4, fb5, fb6, fb7, fb8, fb9, fb10⟩, fc0, fc1, fc2, fc3, fc4, fc5, fc6, fc7, fc8, fc9, fc10⟩ := HK.out w3 (hh)
      exact .run rfl (.agg #[.int .i64 ek1, .int .i64 en1, .int .i64 ea1, .int .i64 ec1, .int .i64 eh1, .int .i64 et1, .int .i64 ei1, .int .i64 ep1, .slice B1 m1 c1, .bool false, .slice none 0 0]) w3 (by simp [execOp, go_sem, Act.eval, *]) (Below.refl _ _) rfl
    · simp only [List.getElem?_toArray, List.getElem?_cons_succ, List.getElem?_cons_zero, Option.some.injEq] at ho
      subst ho
      refine ⟨rfl, ?_⟩
      have e19 : A_.tmps[19]?.getD undef = .agg #[.int .i64 ek2, .int .i64 en2, .int .i64 ea2, .int .i64 ec2, .int .i64 eh2, .int .i64 et2, .int .i64 ei2, .int .i64 ep2, .slice B2 m2 c2, .bool false, .slice none 0 0] := getD_of (hI.val_ (i := 3) rfl rfl (by decide) (hdep ⟨3, .data⟩ (by simp) rfl))
      have e20 : A_.tmps[20]?.getD undef = .agg #[.int .i64 ek1, .int .i64 en1, .int .i64 ea1, .int .i64 ec1, .int .i64 eh1, .int .i64 et1, .int .i64 ei1, .int .i64 ep1, .slice B1 m1 c1, .bool false, .slice none 0 0] := getD_of (hI.val_ (i := 4) rfl rfl (by decide) (hdep ⟨4, .data⟩ (by simp) rfl))
      clear hI hdep
      exact .call rfl 13 #[.agg #[.int .i64 ek2, .int .i64 en2, .int .i64 ea2, .int .i64 ec2, .int .i64 eh2, .int .i64 et2, .int .i64 ei2, .int .i64 ep2, .slice B2 m2 c2, .bool false, .slice none 0 0], .agg #[.int .i64 ek1, .int .i64 en1, .int .i64 ea1, .int .i64 ec1, .int .i64 eh1, .int .i64 et1, .int .i64 ei1, .int .i64 ep1, .slice B1 m1 c1, .bool false, .slice none 0 0]] (by simp [go_sem, Act.eval, e19, e20]) ((HS21.out w3 (hh)).mono fun _ _ ⟨h1_, h2_⟩ => ⟨⟨_, h1_, rfl⟩, h2_⟩)
    · simp only [List.getElem?_toArray, List.getElem?_cons_succ, List.getElem?_cons_zero, Option.some.injEq] at ho
      subst ho
      refine ⟨rfl, ?_⟩
      have e21 : A_.tmps[21]?.getD undef = .int .i64 r21 := getD_of (hI.val_ (i := 5) rfl rfl (by decide) (hdep ⟨5, .data⟩ (by simp) rfl))
      clear hI hdep
      have h_ := h21.out
      exact .run rfl (.int .i64 r12) w3 (by simp [execOp, go_sem, Act.eval, *]) (Below.refl _ _) rfl
    · simp only [List.getElem?_toArray, List.getElem?_cons_succ, List.getElem?_cons_zero, Option.some.injEq] at ho
      subst ho
      refine ⟨rfl, ?_⟩
      have e18 : A_.tmps[18]?.getD undef = .int .i64 r12 := getD_of (hI.val_ (i := 2) rfl rfl (by decide) (hdep ⟨2, .data⟩ (by simp) rfl))
      have e22 : A_.tmps[22]?.getD undef = .int .i64 r12 := getD_of (hI.val_ (i := 6) rfl rfl (by decide) (hdep ⟨6, .data⟩ (by simp) rfl))
      clear hI hdep
      exact .run rfl (.bool false) w3 (by simp [execOp, go_sem, Act.eval, *]) (Below.refl _ _) rfl
    · simp only [List.getElem?_toArray, List.getElem?_cons_succ, List.getElem?_cons_zero, Option.some.injEq] at ho
      subst ho
      refine ⟨rfl, ?_⟩
      have e23 : A_.tmps[23]?.getD undef = .bool false := getD_of (hI.val_ (i := 7) rfl rfl (by decide) (hdep ⟨7, .data⟩ (by simp) rfl))
      clear hI hdep
      exact .run rfl (.bool false) w3 (by simp [execOp, go_sem, Act.eval, e23]) (Below.refl _ _) rfl
    · simp only [List.getElem?_toArray, List.getElem?_cons_succ, List.getElem?_cons_zero, Option.some.injEq] at ho
      subst ho
      refine ⟨rfl, ?_⟩
      have q24 : A_.tmps[24]? = some (.bool false) := hI.val_ (i := 8) rfl rfl (by decide) (hdep ⟨8, .guard⟩ (by simp) rfl)
      have e7 : A_.tmps[7]?.getD undef = .pointer (some ⟨v1.heap.size, 0, none⟩) := by rw [hI.low 7 (by decide)]; rfl
      clear hI hdep
      exact .run ((wanted_some rfl rfl q24).trans rfl) (.pointer (some ⟨v1.heap.size, 0, none⟩)) w3 (by simp [execOp, go_sem, Act.eval, e7]) (Below.refl _ _) rfl
    · simp only [List.getElem?_toArray, List.getElem?_cons_succ, List.getElem?_cons_zero, Option.some.injEq] at ho
      subst ho
      refine ⟨rfl, ?_⟩
      have q24 : A_.tmps[24]? = some (.bool false) := hI.val_ (i := 8) rfl rfl (by decide) (hdep ⟨8, .guard⟩ (by simp) rfl)
      have e25 : A_.tmps[25]?.getD undef = .pointer (some ⟨v1.heap.size, 0, none⟩) := getD_of (hI.val_ (i := 9) rfl rfl (by decide) (hdep ⟨9, .data⟩ (by simp) rfl))
      clear hI hdep
      obtain ⟨⟨fa0, fa1, fa2, fa3, fa4, fa5, fa6, fa7, fa8, fa9, fa10⟩, ⟨fb0, fb1, fb2, fb3, fb4, fb5, fb6, fb7, fb8, fb9, fb10⟩, fc0, fc1, fc2, fc3, fc4, fc5, fc6, fc7, fc8, fc9, fc10⟩ := HK.out w3 (hh)
      exact .run ((wanted_some rfl rfl q24).trans rfl) (.agg #[.int .i64 ek1, .int .i64 en1, .int .i64 ea1, .int .i64 ec1, .int .i64 eh1, .int .i64 et1, .int .i64 ei1, .int .i64 ep1]) w3 (by simp [execOp, go_sem, Act.eval, *]) (Below.refl _ _) rfl
    · simp only [List.getElem?_toArray, List.getElem?_cons_succ, List.getElem?_cons_zero, Option.some.injEq] at ho
      subst ho
      refine ⟨rfl, ?_⟩
      have q24 : A_.tmps[24]? = some (.bool false) := hI.val_ (i := 8) rfl rfl (by decide) (hdep ⟨8, .guard⟩ (by simp) rfl)
      have e8 : A_.tmps[8]?.getD undef = .pointer (some ⟨v2.heap.size, 0, none⟩) := by rw [hI.low 8 (by decide)]; rfl
      clear hI hdep
      exact .run ((wanted_some rfl rfl q24).trans rfl) (.pointer (some ⟨v2.heap.size, 0, none⟩)) w3 (by simp [execOp, go_sem, Act.eval, e8]) (Below.refl _ _) rfl
    · simp only [List.getElem?_toArray, List.getElem?_cons_succ, List.getElem?_cons_zero, Option.some.injEq] at ho
      subst ho
      refine ⟨rfl, ?_⟩
      have q24 : A_.tmps[24]? = some (.bool false) := hI.val_ (i := 8) rfl rfl (by decide) (hdep ⟨8, .guard⟩ (by simp) rfl)
      have e27 : A_.tmps[27]?.getD undef = .pointer (some ⟨v2.heap.size, 0, none⟩) := getD_of (hI.val_ (i := 11) rfl rfl (by decide) (hdep ⟨11, .data⟩ (by simp) rfl))
      clear hI hdep
      obtain ⟨⟨fa0, fa1, fa2, fa3, fa4, fa5, fa6, fa7, fa8, fa9, fa10⟩, ⟨fb0, fb1, fb2, fb3, fb4, fb5, fb6, fb7, fb8, fb9, fb10⟩, fc0, fc1, fc2, fc3, fc4, fc5, fc6, fc7, fc8, fc9, fc10⟩ := HK.out w3 (hh)
      exact .run ((wanted_some rfl rfl q24).trans rfl) (.agg #[.int .i64 ek2, .int .i64 en2, .int .i64 ea2, .int .i64 ec2, .int .i64 eh2, .int .i64 et2, .int .i64 ei2, .int .i64 ep2]) w3 (by simp [execOp, go_sem, Act.eval, *]) (Below.refl _ _) rfl
    · simp only [List.getElem?_toArray, List.getElem?_cons_succ, List.getElem?_cons_zero, Option.some.injEq] at ho
      subst ho
      refine ⟨rfl, ?_⟩
      have q24 : A_.tmps[24]? = some (.bool false) := hI.val_ (i := 8) rfl rfl (by decide) (hdep ⟨8, .guard⟩ (by simp) rfl)
      have e26 : A_.tmps[26]?.getD undef = .agg #[.int .i64 ek1, .int .i64 en1, .int .i64 ea1, .int .i64 ec1, .int .i64 eh1, .int .i64 et1, .int .i64 ei1, .int .i64 ep1] := getD_of (hI.val_ (i := 10) rfl rfl (by decide) (hdep ⟨10, .data⟩ (by simp) rfl))
      have e28 : A_.tmps[28]?.getD undef = .agg #[.int .i64 ek2, .int .i64 en2, .int .i64 ea2, .int .i64 ec2, .int .i64 eh2, .int .i64 et2, .int .i64 ei2, .int .i64 ep2] := getD_of (hI.val_ (i := 12) rfl rfl (by decide) (hdep ⟨12, .data⟩ (by simp) rfl))
      clear hI hdep
      exact .call ((wanted_some rfl rfl q24).trans rfl) 6 #[.agg #[.int .i64 ek1, .int .i64 en1, .int .i64 ea1, .int .i64 ec1, .int .i64 eh1, .int .i64 et1, .int .i64 ei1, .int .i64 ep1], .agg #[.int .i64 ek2, .int .i64 en2, .int .i64 ea2, .int .i64 ec2, .int .i64 eh2, .int .i64 et2, .int .i64 ei2, .int .i64 ep2]] (by simp [go_sem, Act.eval, e26, e28]) ((HE12.out w3).mono fun _ _ ⟨h1_, h2_⟩ => ⟨⟨_, h1_, rfl⟩, h2_⟩)
    · simp only [List.getElem?_toArray, List.getElem?_cons_succ, List.getElem?_cons_zero, Option.some.injEq] at ho
      subst ho
      refine ⟨rfl, ?_⟩
      have q24 : A_.tmps[24]? = some (.bool false) := hI.val_ (i := 8) rfl rfl (by decide) (hdep ⟨8, .guard⟩ (by simp) rfl)
      have e8 : A_.tmps[8]?.getD undef = .pointer (some ⟨v2.heap.size, 0, none⟩) := by rw [hI.low 8 (by decide)]; rfl
      clear hI hdep
      exact .run ((wanted_some rfl rfl q24).trans rfl) (.pointer (some ⟨v2.heap.size, 0, none⟩)) w3 (by simp [execOp, go_sem, Act.eval, e8]) (Below.refl _ _) rfl
    · simp only [List.getElem?_toArray, List.getElem?_cons_succ, List.getElem?_cons_zero, Option.some.injEq] at ho
      subst ho
      refine ⟨rfl, ?_⟩
      have q24 : A_.tmps[24]? = some (.bool false) := hI.val_ (i := 8) rfl rfl (by decide) (hdep ⟨8, .guard⟩ (by simp) rfl)
      have e30 : A_.tmps[30]?.getD undef = .pointer (some ⟨v2.heap.size, 0, none⟩) := getD_of (hI.val_ (i := 14) rfl rfl (by decide) (hdep ⟨14, .data⟩ (by simp) rfl))
      clear hI hdep
      obtain ⟨⟨fa0, fa1, fa2, fa3, fa4, fa5, fa6, fa7, fa8, fa9, fa10⟩, ⟨fb0, fb1, fb2, fb3, fb4, fb5, fb6, fb7, fb8, fb9, fb10⟩, fc0, fc1, fc2, fc3, fc4, fc5, fc6, fc7, fc8, fc9, fc10⟩ := HK.out w3 (hh)
      exact .run ((wanted_some rfl rfl q24).trans rfl) (.agg #[.int .i64 ek2, .int .i64 en2, .int .i64 ea2, .int .i64 ec2, .int .i64 eh2, .int .i64 et2, .int .i64 ei2, .int .i64 ep2]) w3 (by simp [execOp, go_sem, Act.eval, *]) (Below.refl _ _) rfl
    · simp only [List.getElem?_toArray, List.getElem?_cons_succ, List.getElem?_cons_zero, Option.some.injEq] at ho
      subst ho
      refine ⟨rfl, ?_⟩
      have q24 : A_.tmps[24]? = some (.bool false) := hI.val_ (i := 8) rfl rfl (by decide) (hdep ⟨8, .guard⟩ (by simp) rfl)
      have e7 : A_.tmps[7]?.getD undef = .pointer (some ⟨v1.heap.size, 0, none⟩) := by rw [hI.low 7 (by decide)]; rfl
      clear hI hdep
      exact .run ((wanted_some rfl rfl q24).trans rfl) (.pointer (some ⟨v1.heap.size, 0, none⟩)) w3 (by simp [execOp, go_sem, Act.eval, e7]) (Below.refl _ _) rfl
    · simp only [List.getElem?_toArray, List.getElem?_cons_succ, List.getElem?_cons_zero, Option.some.injEq] at ho
      subst ho
      refine ⟨rfl, ?_⟩
      have q24 : A_.tmps[24]? = some (.bool false) := hI.val_ (i := 8) rfl rfl (by decide) (hdep ⟨8, .guard⟩ (by simp) rfl)
      have e32 : A_.tmps[32]?.getD undef = .pointer (some ⟨v1.heap.size, 0, none⟩) := getD_of (hI.val_ (i := 16) rfl rfl (by decide) (hdep ⟨16, .data⟩ (by simp) rfl))
      clear hI hdep
      obtain ⟨⟨fa0, fa1, fa2, fa3, fa4, fa5, fa6, fa7, fa8, fa9, fa10⟩, ⟨fb0, fb1, fb2, fb3, fb4, fb5, fb6, fb7, fb8, fb9, fb10⟩, fc0, fc1, fc2, fc3, fc4, fc5, fc6, fc7, fc8, fc9, fc10⟩ := HK.out w3 (hh)
      exact .run ((wanted_some rfl rfl q24).trans rfl) (.agg #[.int .i64 ek1, .int .i64 en1, .int .i64 ea1, .int .i64 ec1, .int .i64 eh1, .int .i64 et1, .int .i64 ei1, .int .i64 ep1]) w3 (by simp [execOp, go_sem, Act.eval, *]) (Below.refl _ _) rfl
    · simp only [List.getElem?_toArray, List.getElem?_cons_succ, List.getElem?_cons_zero, Option.some.injEq] at ho
      subst ho
      refine ⟨rfl, ?_⟩
      have q24 : A_.tmps[24]? = some (.bool false) := hI.val_ (i := 8) rfl rfl (by decide) (hdep ⟨8, .guard⟩ (by simp) rfl)
      have e31 : A_.tmps[31]?.getD undef = .agg #[.int .i64 ek2, .int .i64 en2, .int .i64 ea2, .int .i64 ec2, .int .i64 eh2, .int .i64 et2, .int .i64 ei2, .int .i64 ep2] := getD_of (hI.val_ (i := 15) rfl rfl (by decide) (hdep ⟨15, .data⟩ (by simp) rfl))
      have e33 : A_.tmps[33]?.getD undef = .agg #[.int .i64 ek1, .int .i64 en1, .int .i64 ea1, .int .i64 ec1, .int .i64 eh1, .int .i64 et1, .int .i64 ei1, .int .i64 ep1] := getD_of (hI.val_ (i := 17) rfl rfl (by decide) (hdep ⟨17, .data⟩ (by simp) rfl))
      clear hI hdep
      exact .call ((wanted_some rfl rfl q24).trans rfl) 6 #[.agg #[.int .i64 ek2, .int .i64 en2, .int .i64 ea2, .int .i64 ec2, .int .i64 eh2, .int .i64 et2, .int .i64 ei2, .int .i64 ep2], .agg #[.int .i64 ek1, .int .i64 en1, .int .i64 ea1, .int .i64 ec1, .int .i64 eh1, .int .i64 et1, .int .i64 ei1, .int .i64 ep1]] (by simp [go_sem, Act.eval, e31, e33]) ((HE21.out w3).mono fun _ _ ⟨h1_, h2_⟩ => ⟨⟨_, h1_, rfl⟩, h2_⟩)
    · simp only [List.getElem?_toArray, List.getElem?_cons_succ, List.getElem?_cons_zero, Option.some.injEq] at ho
      subst ho
      refine ⟨rfl, ?_⟩
      have q24 : A_.tmps[24]? = some (.bool false) := hI.val_ (i := 8) rfl rfl (by decide) (hdep ⟨8, .guard⟩ (by simp) rfl)
      have e34 : A_.tmps[34]?.getD undef = .int .i64 e21 := getD_of (hI.val_ (i := 18) rfl rfl (by decide) (hdep ⟨18, .data⟩ (by simp) rfl))
      clear hI hdep
      have h_ := k21.out
      exact .run ((wanted_some rfl rfl q24).trans rfl) (.int .i64 e12) w3 (by simp [execOp, go_sem, Act.eval, *]) (Below.refl _ _) rfl
    · simp only [List.getElem?_toArray, List.getElem?_cons_succ, List.getElem?_cons_zero, Option.some.injEq] at ho
      subst ho
      refine ⟨rfl, ?_⟩
      have q24 : A_.tmps[24]? = some (.bool false) := hI.val_ (i := 8) rfl rfl (by decide) (hdep ⟨8, .guard⟩ (by simp) rfl)
      have e29 : A_.tmps[29]?.getD undef = .int .i64 e12 := getD_of (hI.val_ (i := 13) rfl rfl (by decide) (hdep ⟨13, .data⟩ (by simp) rfl))
      have e35 : A_.tmps[35]?.getD undef = .int .i64 e12 := getD_of (hI.val_ (i := 19) rfl rfl (by decide) (hdep ⟨19, .data⟩ (by simp) rfl))
      clear hI hdep
      exact .run ((wanted_some rfl rfl q24).trans rfl) (.bool false) w3 (by simp [execOp, go_sem, Act.eval, *]) (Below.refl _ _) rfl
    · simp only [List.getElem?_toArray, List.getElem?_cons_succ, List.getElem?_cons_zero, Option.some.injEq] at ho
      subst ho
      refine ⟨rfl, ?_⟩
      have e24 : A_.tmps[24]?.getD undef = .bool false := getD_of (hI.val_ (i := 8) rfl rfl (by decide) (hdep ⟨8, .data⟩ (by simp) rfl))
      have e36 : A_.tmps[36]?.getD undef = .bool false := getD_of (hI.val_ (i := 20) rfl rfl (by decide) (hdep ⟨20, .data⟩ (by simp) rfl))
      clear hI hdep
      exact .run rfl (.bool false) w3 (by simp [execOp, go_sem, Act.eval, e24, e36]) (Below.refl _ _) rfl
  case fin =>
  intro A_ w3 hs hd hlow hS hok
  obtain rfl : A_ = ⟨#[.slice A1 n1 k1, .slice A2 n2 k2, .slice A3 n3 k3, undef, undef, undef, .bool false, .pointer (some ⟨v1.heap.size, 0, none⟩), .pointer (some ⟨v2.heap.size, 0, none⟩), .pointer (some ⟨v3.heap.size, 0, none⟩), .slice A1 n1 k1, .agg #[.int .i64 ek1, .int .i64 en1, .int .i64 ea1, .int .i64 ec1, .int .i64 eh1, .int .i64 et1, .int .i64 ei1, .int .i64 ep1, .slice B1 m1 c1, .bool false, .slice none 0 0], .slice A2 n2 k2, .agg #[.int .i64 ek2, .int .i64 en2, .int .i64 ea2, .int .i64 ec2, .int .i64 eh2, .int .i64 et2, .int .i64 ei2, .int .i64 ep2, .slice B2 m2 c2, .bool false, .slice none 0 0], .slice A3 n3 k3, .agg #[.int .i64 ek3, .int .i64 en3, .int .i64 ea3, .int .i64 ec3, .int .i64 eh3, .int .i64 et3, .int .i64 ei3, .int .i64 ep3, .slice B3 m3 c3, .bool false, .slice none 0 0], .agg #[.int .i64 ek1, .int .i64 en1, .int .i64 ea1, .int .i64 ec1, .int .i64 eh1, .int .i64 et1, .int .i64 ei1, .int .i64 ep1, .slice B1 m1 c1, .bool false, .slice none 0 0], .agg #[.int .i64 ek2, .int .i64 en2, .int .i64 ea2, .int .i64 ec2, .int .i64 eh2, .int .i64 et2, .int .i64 ei2, .int .i64 ep2, .slice B2 m2 c2, .bool false, .slice none 0 0], .int .i64 r12, .agg #[.int .i64 ek2, .int .i64 en2, .int .i64 ea2, .int .i64 ec2, .int .i64 eh2, .int .i64 et2, .int .i64 ei2, .int .i64 ep2, .slice B2 m2 c2, .bool false, .slice none 0 0], .agg #[.int .i64 ek1, .int .i64 en1, .int .i64 ea1, .int .i64 ec1, .int .i64 eh1, .int .i64 et1, .int .i64 ei1, .int .i64 ep1, .slice B1 m1 c1, .bool false, .slice none 0 0], .int .i64 r21, .int .i64 r12, .bool false, .bool false, .pointer (some ⟨v1.heap.size, 0, none⟩), .agg #[.int .i64 ek1, .int .i64 en1, .int .i64 ea1, .int .i64 ec1, .int .i64 eh1, .int .i64 et1, .int .i64 ei1, .int .i64 ep1], .pointer (some ⟨v2.heap.size, 0, none⟩), .agg #[.int .i64 ek2, .int .i64 en2, .int .i64 ea2, .int .i64 ec2, .int .i64 eh2, .int .i64 et2, .int .i64 ei2, .int .i64 ep2], .int .i64 e12, .pointer (some ⟨v2.heap.size, 0, none⟩), .agg #[.int .i64 ek2, .int .i64 en2, .int .i64 ea2, .int .i64 ec2, .int .i64 eh2, .int .i64 et2, .int .i64 ei2, .int .i64 ep2], .pointer (some ⟨v1.heap.size, 0, none⟩), .agg #[.int .i64 ek1, .int .i64 en1, .int .i64 ea1, .int .i64 ec1, .int .i64 eh1, .int .i64 et1, .int .i64 ei1, .int .i64 ep1], .int .i64 e21, .int .i64 e12, .bool false, .bool false, undef, undef, undef, undef, undef, undef, undef, undef, undef, undef, undef, undef, undef, undef, undef, undef, undef, undef, undef, undef, undef, undef, undef, undef, undef, undef, undef, undef, undef, undef, undef, undef, undef, undef, undef, undef, undef, undef, undef, undef, undef, undef, undef, undef, undef, undef, undef, undef, undef, undef, undef, undef, undef, undef, undef, undef, undef, undef, undef], []⟩ := act_ext hd hs (fun j hj => match j, hj with | 0, _ => (hlow 0 (by decide)).trans rfl | 1, _ => (hlow 1 (by decide)).trans rfl | 2, _ => (hlow 2 (by decide)).trans rfl | 3, _ => (hlow 3 (by decide)).trans rfl | 4, _ => (hlow 4 (by decide)).trans rfl | 5, _ => (hlow 5 (by decide)).trans rfl | 6, _ => (hlow 6 (by decide)).trans rfl | 7, _ => (hlow 7 (by decide)).trans rfl | 8, _ => (hlow 8 (by decide)).trans rfl | 9, _ => (hlow 9 (by decide)).trans rfl | 10, _ => (hlow 10 (by decide)).trans rfl | 11, _ => (hlow 11 (by decide)).trans rfl | 12, _ => (hlow 12 (by decide)).trans rfl | 13, _ => (hlow 13 (by decide)).trans rfl | 14, _ => (hlow 14 (by decide)).trans rfl | 15, _ => (hlow 15 (by decide)).trans rfl | 16, _ => RgX.val_at (hok 0 16 _ (by decide) rfl rfl) | 17, _ => RgX.val_at (hok 1 17 _ (by decide) rfl rfl) | 18, _ => RgX.val_at (hok 2 18 _ (by decide) rfl rfl) | 19, _ => RgX.val_at (hok 3 19 _ (by decide) rfl rfl) | 20, _ => RgX.val_at (hok 4 20 _ (by decide) rfl rfl) | 21, _ => RgX.val_at (hok 5 21 _ (by decide) rfl rfl) | 22, _ => RgX.val_at (hok 6 22 _ (by decide) rfl rfl) | 23, _ => RgX.val_at (hok 7 23 _ (by decide) rfl rfl) | 24, _ => RgX.val_at (hok 8 24 _ (by decide) rfl rfl) | 25, _ => RgX.val_at (hok 9 25 _ (by decide) rfl rfl) | 26, _ => RgX.val_at (hok 10 26 _ (by decide) rfl rfl) | 27, _ => RgX.val_at (hok 11 27 _ (by decide) rfl rfl) | 28, _ => RgX.val_at (hok 12 28 _ (by decide) rfl rfl) | 29, _ => RgX.val_at (hok 13 29 _ (by decide) rfl rfl) | 30, _ => RgX.val_at (hok 14 30 _ (by decide) rfl rfl) | 31, _ => RgX.val_at (hok 15 31 _ (by decide) rfl rfl) | 32, _ => RgX.val_at (hok 16 32 _ (by decide) rfl rfl) | 33, _ => RgX.val_at (hok 17 33 _ (by decide) rfl rfl) | 34, _ => RgX.val_at (hok 18 34 _ (by decide) rfl rfl) | 35, _ => RgX.val_at (hok 19 35 _ (by decide) rfl rfl) | 36, _ => RgX.val_at (hok 20 36 _ (by decide) rfl rfl) | 37, _ => RgX.val_at (hok 21 37 _ (by decide) rfl rfl) | 38, _ => (hlow 38 (by decide)).trans rfl | 39, _ => (hlow 39 (by decide)).trans rfl | 40, _ => (hlow 40 (by decide)).trans rfl | 41, _ => (hlow 41 (by decide)).trans rfl | 42, _ => (hlow 42 (by decide)).trans rfl | 43, _ => (hlow 43 (by decide)).trans rfl | 44, _ => (hlow 44 (by decide)).trans rfl | 45, _ => (hlow 45 (by decide)).trans rfl | 46, _ => (hlow 46 (by decide)).trans rfl | 47, _ => (hlow 47 (by decide)).trans rfl | 48, _ => (hlow 48 (by decide)).trans rfl | 49, _ => (hlow 49 (by decide)).trans rfl | 50, _ => (hlow 50 (by decide)).trans rfl | 51, _ => (hlow 51 (by decide)).trans rfl | 52, _ => (hlow 52 (by decide)).trans rfl | 53, _ => (hlow 53 (by decide)).trans rfl | 54, _ => (hlow 54 (by decide)).trans rfl | 55, _ => (hlow 55 (by decide)).trans rfl | 56, _ => (hlow 56 (by decide)).trans rfl | 57, _ => (hlow 57 (by decide)).trans rfl | 58, _ => (hlow 58 (by decide)).trans rfl | 59, _ => (hlow 59 (by decide)).trans rfl | 60, _ => (hlow 60 (by decide)).trans rfl | 61, _ => (hlow 61 (by decide)).trans rfl | 62, _ => (hlow 62 (by decide)).trans rfl | 63, _ => (hlow 63 (by decide)).trans rfl | 64, _ => (hlow 64 (by decide)).trans rfl | 65, _ => (hlow 65 (by decide)).trans rfl | 66, _ => (hlow 66 (by decide)).trans rfl | 67, _ => (hlow 67 (by decide)).trans rfl | 68, _ => (hlow 68 (by decide)).trans rfl | 69, _ => (hlow 69 (by decide)).trans rfl | 70, _ => (hlow 70 (by decide)).trans rfl | 71, _ => (hlow 71 (by decide)).trans rfl | 72, _ => (hlow 72 (by decide)).trans rfl | 73, _ => (hlow 73 (by decide)).trans rfl | 74, _ => (hlow 74 (by decide)).trans rfl | 75, _ => (hlow 75 (by decide)).trans rfl | 76, _ => (hlow 76 (by decide)).trans rfl | 77, _ => (hlow 77 (by decide)).trans rfl | 78, _ => (hlow 78 (by decide)).trans rfl | 79, _ => (hlow 79 (by decide)).trans rfl | 80, _ => (hlow 80 (by decide)).trans rfl | 81, _ => (hlow 81 (by decide)).trans rfl | 82, _ => (hlow 82 (by decide)).trans rfl | 83, _ => (hlow 83 (by decide)).trans rfl | 84, _ => (hlow 84 (by decide)).trans rfl | 85, _ => (hlow 85 (by decide)).trans rfl | 86, _ => (hlow 86 (by decide)).trans rfl | 87, _ => (hlow 87 (by decide)).trans rfl | 88, _ => (hlow 88 (by decide)).trans rfl | 89, _ => (hlow 89 (by decide)).trans rfl | 90, _ => (hlow 90 (by decide)).trans rfl | 91, _ => (hlow 91 (by decide)).trans rfl | 92, _ => (hlow 92 (by decide)).trans rfl | 93, _ => (hlow 93 (by decide)).trans rfl | 94, _ => (hlow 94 (by decide)).trans rfl | 95, _ => (hlow 95 (by decide)).trans rfl | 96, _ => (hlow 96 (by decide)).trans rfl | n + 97, h => absurd h (by show ¬ n + 97 < 97; omega))
  clear hs hd hlow hok 
  have S4 := Lib.hid hS
  have B4 := Lib.hid (HB.out.trans (hS.mono HB.out.size))
  obtain ⟨W4, hW4⟩ : ∃ W, W = w3 := ⟨_, rfl⟩
  subst hW4
  clear hS
  go_upto_region 6 with fail
  obtain ⟨b1, hb1⟩ : ∃ b, decide (r12 ≤ 0) = b := ⟨_, rfl⟩
  obtain ⟨b2, hb2⟩ : ∃ b, decide (r23 ≤ 0) = b := ⟨_, rfl⟩
  obtain ⟨b3, hb3⟩ : ∃ b, decide (r13 > 0) = b := ⟨_, rfl⟩
  have t1 := t1.out
  rw [hb1, hb2, hb3] at t1
  refine RgX.seq 16 (fun i => ( 38 + i)) (fun ix_ => match ix_ with | 0 => .v (.agg #[.int .i64 ek1, .int .i64 en1, .int .i64 ea1, .int .i64 ec1, .int .i64 eh1, .int .i64 et1, .int .i64 ei1, .int .i64 ep1, .slice B1 m1 c1, .bool false, .slice none 0 0]) | 1 => .v (.agg #[.int .i64 ek2, .int .i64 en2, .int .i64 ea2, .int .i64 ec2, .int .i64 eh2, .int .i64 et2, .int .i64 ei2, .int .i64 ep2, .slice B2 m2 c2, .bool false, .slice none 0 0]) | 2 => .v (.int .i64 r12) | 3 => .v (.bool b1) | 4 => .v (.bool b1) | 5 => (bif b1 then (.v (.agg #[.int .i64 ek2, .int .i64 en2, .int .i64 ea2, .int .i64 ec2, .int .i64 eh2, .int .i64 et2, .int .i64 ei2, .int .i64 ep2, .slice B2 m2 c2, .bool false, .slice none 0 0]) : RgX.Sp) else .v undef) | 6 => (bif b1 then (.v (.agg #[.int .i64 ek3, .int .i64 en3, .int .i64 ea3, .int .i64 ec3, .int .i64 eh3, .int .i64 et3, .int .i64 ei3, .int .i64 ep3, .slice B3 m3 c3, .bool false, .slice none 0 0]) : RgX.Sp) else .v undef) | 7 => (bif b1 then (.v (.int .i64 r23) : RgX.Sp) else .v undef) | 8 => (bif b1 then (.v (.bool b2) : RgX.Sp) else .v undef) | 9 => .v (.bool (b1 && b2)) | 10 => .v (.bool (b1 && b2)) | 11 => (bif (b1 && b2) then (.v (.agg #[.int .i64 ek1, .int .i64 en1, .int .i64 ea1, .int .i64 ec1, .int .i64 eh1, .int .i64 et1, .int .i64 ei1, .int .i64 ep1, .slice B1 m1 c1, .bool false, .slice none 0 0]) : RgX.Sp) else .v undef) | 12 => (bif (b1 && b2) then (.v (.agg #[.int .i64 ek3, .int .i64 en3, .int .i64 ea3, .int .i64 ec3, .int .i64 eh3, .int .i64 et3, .int .i64 ei3, .int .i64 ep3, .slice B3 m3 c3, .bool false, .slice none 0 0]) : RgX.Sp) else .v undef) | 13 => (bif (b1 && b2) then (.v (.int .i64 r13) : RgX.Sp) else .v undef) | 14 => (bif (b1 && b2) then (.v (.bool b3) : RgX.Sp) else .v undef) | 15 => .v (.bool ((b1 && b2) && b3)) | _ => .any) rfl (by kernel_rfl)  (fun i hi => by show ( 38 + i) < 97; (repeat' split) <;> omega) (fun i j hi hj => by show ( 38 + i) = ( 38 + j) → i = j; (repeat' split) <;> omega) ?step ?fin
  case step =>
    intro L_ A_ w3 ix op_ hI ho hdep
    have hi : ix < 16 := (Array.getElem?_eq_some_iff.1 ho).1
    have hcase : ix = 0 ∨ ix = 1 ∨ ix = 2 ∨ ix = 3 ∨ ix = 4 ∨ ix = 5 ∨ ix = 6 ∨ ix = 7 ∨ ix = 8 ∨ ix = 9 ∨ ix = 10 ∨ ix = 11 ∨ ix = 12 ∨ ix = 13 ∨ ix = 14 ∨ ix = 15 := by omega
    have hh := hI.held
    clear hi
    rcases hcase with rfl | rfl | rfl | rfl | rfl | rfl | rfl | rfl | rfl | rfl | rfl | rfl | rfl | rfl | rfl | rfl
    · simp only [List.getElem?_toArray, List.getElem?_cons_zero, Option.some.injEq] at ho
      subst ho
      refine ⟨rfl, ?_⟩
      have e7 : A_.tmps[7]?.getD undef = .pointer (some ⟨v1.heap.size, 0, none⟩) := by rw [hI.low 7 (by decide)]; rfl
      clear hI hdep
      obtain ⟨⟨fa0, fa1, fa2, fa3, fa4, fa5, fa6, fa7, fa8, fa9, fa10⟩, ⟨fb0, fb1, fb2, fb3, fb4, fb5, fb6, fb7, fb8, fb9, fb10⟩, fc0, fc1, fc2, fc3, fc4, fc5, fc6, fc7, fc8, fc9, fc10⟩ := HK.out w3 (S4.out.trans (hh.mono S4.out.size))
      exact .run rfl (.agg #[.int .i64 ek1, .int .i64 en1, .int .i64 ea1, .int .i64 ec1, .int .i64 eh1, .int .i64 et1, .int .i64 ei1, .int .i64 ep1, .slice B1 m1 c1, .bool false, .slice none 0 0]) w3 (by simp [execOp, go_sem, Act.eval, *]) (Below.refl _ _) rfl
    · simp only [List.getElem?_toArray, List.getElem?_cons_succ, List.getElem?_cons_zero, Option.some.injEq] at ho
      subst ho
      refine ⟨rfl, ?_⟩
      have e8 : A_.tmps[8]?.getD undef = .pointer (some ⟨v2.heap.size, 0, none⟩) := by rw [hI.low 8 (by decide)]; rfl
      clear hI hdep
      obtain ⟨⟨fa0, fa1, fa2, fa3, fa4, fa5, fa6, fa7, fa8, fa9, fa10⟩, ⟨fb0, fb1, fb2, fb3, fb4, fb5, fb6, fb7, fb8, fb9, fb10⟩, fc0, fc1, fc2, fc3, fc4, fc5, fc6, fc7, fc8, fc9, fc10⟩ := HK.out w3 (S4.out.trans (hh.mono S4.out.size))
      exact .run rfl (.agg #[.int .i64 ek2, .int .i64 en2, .int .i64 ea2, .int .i64 ec2, .int .i64 eh2, .int .i64 et2, .int .i64 ei2, .int .i64 ep2, .slice B2 m2 c2, .bool false, .slice none 0 0]) w3 (by simp [execOp, go_sem, Act.eval, *]) (Below.refl _ _) rfl
    · simp only [List.getElem?_toArray, List.getElem?_cons_succ, List.getElem?_cons_zero, Option.some.injEq] at ho
      subst ho
      refine ⟨rfl, ?_⟩
      have e38 : A_.tmps[38]?.getD undef = .agg #[.int .i64 ek1, .int .i64 en1, .int .i64 ea1, .int .i64 ec1, .int .i64 eh1, .int .i64 et1, .int .i64 ei1, .int .i64 ep1, .slice B1 m1 c1, .bool false, .slice none 0 0] := getD_of (hI.val_ (i := 0) rfl rfl (by decide) (hdep ⟨0, .data⟩ (by simp) rfl))
      have e39 : A_.tmps[39]?.getD undef = .agg #[.int .i64 ek2, .int .i64 en2, .int .i64 ea2, .int .i64 ec2, .int .i64 eh2, .int .i64 et2, .int .i64 ei2, .int .i64 ep2, .slice B2 m2 c2, .bool false, .slice none 0 0] := getD_of (hI.val_ (i := 1) rfl rfl (by decide) (hdep ⟨1, .data⟩ (by simp) rfl))
      clear hI hdep
      exact .call rfl 13 #[.agg #[.int .i64 ek1, .int .i64 en1, .int .i64 ea1, .int .i64 ec1, .int .i64 eh1, .int .i64 et1, .int .i64 ei1, .int .i64 ep1, .slice B1 m1 c1, .bool false, .slice none 0 0], .agg #[.int .i64 ek2, .int .i64 en2, .int .i64 ea2, .int .i64 ec2, .int .i64 eh2, .int .i64 et2, .int .i64 ei2, .int .i64 ep2, .slice B2 m2 c2, .bool false, .slice none 0 0]] (by simp [go_sem, Act.eval, e38, e39]) ((HS12.out w3 (S4.out.trans (hh.mono S4.out.size))).mono fun _ _ ⟨h1_, h2_⟩ => ⟨⟨_, h1_, rfl⟩, h2_⟩)
    · simp only [List.getElem?_toArray, List.getElem?_cons_succ, List.getElem?_cons_zero, Option.some.injEq] at ho
      subst ho
      refine ⟨rfl, ?_⟩
      have e40 : A_.tmps[40]?.getD undef = .int .i64 r12 := getD_of (hI.val_ (i := 2) rfl rfl (by decide) (hdep ⟨2, .data⟩ (by simp) rfl))
      clear hI hdep
      exact .run rfl (.bool b1) w3 (by simp [execOp, go_sem, Act.eval, *]) (Below.refl _ _) rfl
    · simp only [List.getElem?_toArray, List.getElem?_cons_succ, List.getElem?_cons_zero, Option.some.injEq] at ho
      subst ho
      refine ⟨rfl, ?_⟩
      have e41 : A_.tmps[41]?.getD undef = .bool b1 := getD_of (hI.val_ (i := 3) rfl rfl (by decide) (hdep ⟨3, .data⟩ (by simp) rfl))
      clear hI hdep
      exact .run rfl (.bool b1) w3 (by simp [execOp, go_sem, Act.eval, e41]) (Below.refl _ _) rfl
    · simp only [List.getElem?_toArray, List.getElem?_cons_succ, List.getElem?_cons_zero, Option.some.injEq] at ho
      subst ho
      refine ⟨rfl, ?_⟩
      cases b1
      · have q42 : A_.tmps[42]? = some (.bool false) := hI.val_ (i := 4) rfl rfl (by decide) (hdep ⟨4, .guard⟩ (by simp) rfl)
        exact .skip ((wanted_some rfl rfl q42).trans rfl) (fun _ => rfl)
      · have q42 : A_.tmps[42]? = some (.bool true) := hI.val_ (i := 4) rfl rfl (by decide) (hdep ⟨4, .guard⟩ (by simp) rfl)
        have e8 : A_.tmps[8]?.getD undef = .pointer (some ⟨v2.heap.size, 0, none⟩) := by rw [hI.low 8 (by decide)]; rfl
        clear hI hdep
        obtain ⟨⟨fa0, fa1, fa2, fa3, fa4, fa5, fa6, fa7, fa8, fa9, fa10⟩, ⟨fb0, fb1, fb2, fb3, fb4, fb5, fb6, fb7, fb8, fb9, fb10⟩, fc0, fc1, fc2, fc3, fc4, fc5, fc6, fc7, fc8, fc9, fc10⟩ := HK.out w3 (S4.out.trans (hh.mono S4.out.size))
        exact .run ((wanted_some rfl rfl q42).trans rfl) (.agg #[.int .i64 ek2, .int .i64 en2, .int .i64 ea2, .int .i64 ec2, .int .i64 eh2, .int .i64 et2, .int .i64 ei2, .int .i64 ep2, .slice B2 m2 c2, .bool false, .slice none 0 0]) w3 (by simp [execOp, go_sem, Act.eval, *]) (Below.refl _ _) rfl
    · simp only [List.getElem?_toArray, List.getElem?_cons_succ, List.getElem?_cons_zero, Option.some.injEq] at ho
      subst ho
      refine ⟨rfl, ?_⟩
      cases b1
      · have q42 : A_.tmps[42]? = some (.bool false) := hI.val_ (i := 4) rfl rfl (by decide) (hdep ⟨4, .guard⟩ (by simp) rfl)
        exact .skip ((wanted_some rfl rfl q42).trans rfl) (fun _ => rfl)
      · have q42 : A_.tmps[42]? = some (.bool true) := hI.val_ (i := 4) rfl rfl (by decide) (hdep ⟨4, .guard⟩ (by simp) rfl)
        have e9 : A_.tmps[9]?.getD undef = .pointer (some ⟨v3.heap.size, 0, none⟩) := by rw [hI.low 9 (by decide)]; rfl
        clear hI hdep
        obtain ⟨⟨fa0, fa1, fa2, fa3, fa4, fa5, fa6, fa7, fa8, fa9, fa10⟩, ⟨fb0, fb1, fb2, fb3, fb4, fb5, fb6, fb7, fb8, fb9, fb10⟩, fc0, fc1, fc2, fc3, fc4, fc5, fc6, fc7, fc8, fc9, fc10⟩ := HK.out w3 (S4.out.trans (hh.mono S4.out.size))
        exact .run ((wanted_some rfl rfl q42).trans rfl) (.agg #[.int .i64 ek3, .int .i64 en3, .int .i64 ea3, .int .i64 ec3, .int .i64 eh3, .int .i64 et3, .int .i64 ei3, .int .i64 ep3, .slice B3 m3 c3, .bool false, .slice none 0 0]) w3 (by simp [execOp, go_sem, Act.eval, *]) (Below.refl _ _) rfl
    · simp only [List.getElem?_toArray, List.getElem?_cons_succ, List.getElem?_cons_zero, Option.some.injEq] at ho
      subst ho
      refine ⟨rfl, ?_⟩
      cases b1
      · have q42 : A_.tmps[42]? = some (.bool false) := hI.val_ (i := 4) rfl rfl (by decide) (hdep ⟨4, .guard⟩ (by simp) rfl)
        exact .skip ((wanted_some rfl rfl q42).trans rfl) (fun _ => rfl)
      · have q42 : A_.tmps[42]? = some (.bool true) := hI.val_ (i := 4) rfl rfl (by decide) (hdep ⟨4, .guard⟩ (by simp) rfl)
        have e43 : A_.tmps[43]?.getD undef = .agg #[.int .i64 ek2, .int .i64 en2, .int .i64 ea2, .int .i64 ec2, .int .i64 eh2, .int .i64 et2, .int .i64 ei2, .int .i64 ep2, .slice B2 m2 c2, .bool false, .slice none 0 0] := getD_of (hI.val_ (i := 5) rfl rfl (by decide) (hdep ⟨5, .data⟩ (by simp) rfl))
        have e44 : A_.tmps[44]?.getD undef = .agg #[.int .i64 ek3, .int .i64 en3, .int .i64 ea3, .int .i64 ec3, .int .i64 eh3, .int .i64 et3, .int .i64 ei3, .int .i64 ep3, .slice B3 m3 c3, .bool false, .slice none 0 0] := getD_of (hI.val_ (i := 6) rfl rfl (by decide) (hdep ⟨6, .data⟩ (by simp) rfl))
        clear hI hdep
        exact .call ((wanted_some rfl rfl q42).trans rfl) 13 #[.agg #[.int .i64 ek2, .int .i64 en2, .int .i64 ea2, .int .i64 ec2, .int .i64 eh2, .int .i64 et2, .int .i64 ei2, .int .i64 ep2, .slice B2 m2 c2, .bool false, .slice none 0 0], .agg #[.int .i64 ek3, .int .i64 en3, .int .i64 ea3, .int .i64 ec3, .int .i64 eh3, .int .i64 et3, .int .i64 ei3, .int .i64 ep3, .slice B3 m3 c3, .bool false, .slice none 0 0]] (by simp [go_sem, Act.eval, e43, e44]) ((HS23.out w3 (S4.out.trans (hh.mono S4.out.size))).mono fun _ _ ⟨h1_, h2_⟩ => ⟨⟨_, h1_, rfl⟩, h2_⟩)
    · simp only [List.getElem?_toArray, List.getElem?_cons_succ, List.getElem?_cons_zero, Option.some.injEq] at ho
      subst ho
      refine ⟨rfl, ?_⟩
      cases b1
      · have q42 : A_.tmps[42]? = some (.bool false) := hI.val_ (i := 4) rfl rfl (by decide) (hdep ⟨4, .guard⟩ (by simp) rfl)
        exact .skip ((wanted_some rfl rfl q42).trans rfl) (fun _ => rfl)
      · have q42 : A_.tmps[42]? = some (.bool true) := hI.val_ (i := 4) rfl rfl (by decide) (hdep ⟨4, .guard⟩ (by simp) rfl)
        have e45 : A_.tmps[45]?.getD undef = .int .i64 r23 := getD_of (hI.val_ (i := 7) rfl rfl (by decide) (hdep ⟨7, .data⟩ (by simp) rfl))
        clear hI hdep
        exact .run ((wanted_some rfl rfl q42).trans rfl) (.bool b2) w3 (by simp [execOp, go_sem, Act.eval, *]) (Below.refl _ _) rfl
    · simp only [List.getElem?_toArray, List.getElem?_cons_succ, List.getElem?_cons_zero, Option.some.injEq] at ho
      subst ho
      refine ⟨rfl, ?_⟩
      cases b1
      · have e42 : A_.tmps[42]?.getD undef = .bool false := getD_of (hI.val_ (i := 4) rfl rfl (by decide) (hdep ⟨4, .data⟩ (by simp) rfl))
        have e46 : A_.tmps[46]?.getD undef = undef := getD_of (hI.val_ (i := 8) rfl rfl (by decide) (hdep ⟨8, .data⟩ (by simp) rfl))
        clear hI hdep
        exact .run rfl (.bool false) w3 (by simp [execOp, go_sem, Act.eval, e42, e46]) (Below.refl _ _) rfl
      · have e42 : A_.tmps[42]?.getD undef = .bool true := getD_of (hI.val_ (i := 4) rfl rfl (by decide) (hdep ⟨4, .data⟩ (by simp) rfl))
        have e46 : A_.tmps[46]?.getD undef = .bool b2 := getD_of (hI.val_ (i := 8) rfl rfl (by decide) (hdep ⟨8, .data⟩ (by simp) rfl))
        clear hI hdep
        exact .run rfl (.bool b2) w3 (by simp [execOp, go_sem, Act.eval, e42, e46]) (Below.refl _ _) rfl
    · simp only [List.getElem?_toArray, List.getElem?_cons_succ, List.getElem?_cons_zero, Option.some.injEq] at ho
      subst ho
      refine ⟨rfl, ?_⟩
      have e47 : A_.tmps[47]?.getD undef = .bool (b1 && b2) := getD_of (hI.val_ (i := 9) rfl rfl (by decide) (hdep ⟨9, .data⟩ (by simp) rfl))
      clear hI hdep
      exact .run rfl (.bool (b1 && b2)) w3 (by simp [execOp, go_sem, Act.eval, e47]) (Below.refl _ _) rfl
    · simp only [List.getElem?_toArray, List.getElem?_cons_succ, List.getElem?_cons_zero, Option.some.injEq] at ho
      subst ho
      refine ⟨rfl, ?_⟩
      cases b1
      · have q48 : A_.tmps[48]? = some (.bool false) := hI.val_ (i := 10) rfl rfl (by decide) (hdep ⟨10, .guard⟩ (by simp) rfl)
        exact .skip ((wanted_some rfl rfl q48).trans rfl) (fun _ => rfl)
      · cases b2
        · have q48 : A_.tmps[48]? = some (.bool false) := hI.val_ (i := 10) rfl rfl (by decide) (hdep ⟨10, .guard⟩ (by simp) rfl)
          exact .skip ((wanted_some rfl rfl q48).trans rfl) (fun _ => rfl)
        · have q48 : A_.tmps[48]? = some (.bool true) := hI.val_ (i := 10) rfl rfl (by decide) (hdep ⟨10, .guard⟩ (by simp) rfl)
          have e7 : A_.tmps[7]?.getD undef = .pointer (some ⟨v1.heap.size, 0, none⟩) := by rw [hI.low 7 (by decide)]; rfl
          clear hI hdep
          obtain ⟨⟨fa0, fa1, fa2, fa3, fa4, fa5, fa6, fa7, fa8, fa9, fa10⟩, ⟨fb0, fb1, fb2, fb3, fb4, fb5, fb6, fb7, fb8, fb9, fb10⟩, fc0, fc1, fc2, fc3, fc4, fc5, fc6, fc7, fc8, fc9, fc10⟩ := HK.out w3 (S4.out.trans (hh.mono S4.out.size))
          exact .run ((wanted_some rfl rfl q48).trans rfl) (.agg #[.int .i64 ek1, .int .i64 en1, .int .i64 ea1, .int .i64 ec1, .int .i64 eh1, .int .i64 et1, .int .i64 ei1, .int .i64 ep1, .slice B1 m1 c1, .bool false, .slice none 0 0]) w3 (by simp [execOp, go_sem, Act.eval, *]) (Below.refl _ _) rfl
    · simp only [List.getElem?_toArray, List.getElem?_cons_succ, List.getElem?_cons_zero, Option.some.injEq] at ho
      subst ho
      refine ⟨rfl, ?_⟩
      cases b1
      · have q48 : A_.tmps[48]? = some (.bool false) := hI.val_ (i := 10) rfl rfl (by decide) (hdep ⟨10, .guard⟩ (by simp) rfl)
        exact .skip ((wanted_some rfl rfl q48).trans rfl) (fun _ => rfl)
      · cases b2
        · have q48 : A_.tmps[48]? = some (.bool false) := hI.val_ (i := 10) rfl rfl (by decide) (hdep ⟨10, .guard⟩ (by simp) rfl)
          exact .skip ((wanted_some rfl rfl q48).trans rfl) (fun _ => rfl)
        · have q48 : A_.tmps[48]? = some (.bool true) := hI.val_ (i := 10) rfl rfl (by decide) (hdep ⟨10, .guard⟩ (by simp) rfl)
          have e9 : A_.tmps[9]?.getD undef = .pointer (some ⟨v3.heap.size, 0, none⟩) := by rw [hI.low 9 (by decide)]; rfl
          clear hI hdep
          obtain ⟨⟨fa0, fa1, fa2, fa3, fa4, fa5, fa6, fa7, fa8, fa9, fa10⟩, ⟨fb0, fb1, fb2, fb3, fb4, fb5, fb6, fb7, fb8, fb9, fb10⟩, fc0, fc1, fc2, fc3, fc4, fc5, fc6, fc7, fc8, fc9, fc10⟩ := HK.out w3 (S4.out.trans (hh.mono S4.out.size))
          exact .run ((wanted_some rfl rfl q48).trans rfl) (.agg #[.int .i64 ek3, .int .i64 en3, .int .i64 ea3, .int .i64 ec3, .int .i64 eh3, .int .i64 et3, .int .i64 ei3, .int .i64 ep3, .slice B3 m3 c3, .bool false, .slice none 0 0]) w3 (by simp [execOp, go_sem, Act.eval, *]) (Below.refl _ _) rfl
    · simp only [List.getElem?_toArray, List.getElem?_cons_succ, List.getElem?_cons_zero, Option.some.injEq] at ho
      subst ho
      refine ⟨rfl, ?_⟩
      cases b1
      · have q48 : A_.tmps[48]? = some (.bool false) := hI.val_ (i := 10) rfl rfl (by decide) (hdep ⟨10, .guard⟩ (by simp) rfl)
        exact .skip ((wanted_some rfl rfl q48).trans rfl) (fun _ => rfl)
      · cases b2
        · have q48 : A_.tmps[48]? = some (.bool false) := hI.val_ (i := 10) rfl rfl (by decide) (hdep ⟨10, .guard⟩ (by simp) rfl)
          exact .skip ((wanted_some rfl rfl q48).trans rfl) (fun _ => rfl)
        · have q48 : A_.tmps[48]? = some (.bool true) := hI.val_ (i := 10) rfl rfl (by decide) (hdep ⟨10, .guard⟩ (by simp) rfl)
          have e49 : A_.tmps[49]?.getD undef = .agg #[.int .i64 ek1, .int .i64 en1, .int .i64 ea1, .int .i64 ec1, .int .i64 eh1, .int .i64 et1, .int .i64 ei1, .int .i64 ep1, .slice B1 m1 c1, .bool false, .slice none 0 0] := getD_of (hI.val_ (i := 11) rfl rfl (by decide) (hdep ⟨11, .data⟩ (by simp) rfl))
          have e50 : A_.tmps[50]?.getD undef = .agg #[.int .i64 ek3, .int .i64 en3, .int .i64 ea3, .int .i64 ec3, .int .i64 eh3, .int .i64 et3, .int .i64 ei3, .int .i64 ep3, .slice B3 m3 c3, .bool false, .slice none 0 0] := getD_of (hI.val_ (i := 12) rfl rfl (by decide) (hdep ⟨12, .data⟩ (by simp) rfl))
          clear hI hdep
          exact .call ((wanted_some rfl rfl q48).trans rfl) 13 #[.agg #[.int .i64 ek1, .int .i64 en1, .int .i64 ea1, .int .i64 ec1, .int .i64 eh1, .int .i64 et1, .int .i64 ei1, .int .i64 ep1, .slice B1 m1 c1, .bool false, .slice none 0 0], .agg #[.int .i64 ek3, .int .i64 en3, .int .i64 ea3, .int .i64 ec3, .int .i64 eh3, .int .i64 et3, .int .i64 ei3, .int .i64 ep3, .slice B3 m3 c3, .bool false, .slice none 0 0]] (by simp [go_sem, Act.eval, e49, e50]) ((HS13.out w3 (S4.out.trans (hh.mono S4.out.size))).mono fun _ _ ⟨h1_, h2_⟩ => ⟨⟨_, h1_, rfl⟩, h2_⟩)
    · simp only [List.getElem?_toArray, List.getElem?_cons_succ, List.getElem?_cons_zero, Option.some.injEq] at ho
      subst ho
      refine ⟨rfl, ?_⟩
      cases b1
      · have q48 : A_.tmps[48]? = some (.bool false) := hI.val_ (i := 10) rfl rfl (by decide) (hdep ⟨10, .guard⟩ (by simp) rfl)
        exact .skip ((wanted_some rfl rfl q48).trans rfl) (fun _ => rfl)
      · cases b2
        · have q48 : A_.tmps[48]? = some (.bool false) := hI.val_ (i := 10) rfl rfl (by decide) (hdep ⟨10, .guard⟩ (by simp) rfl)
          exact .skip ((wanted_some rfl rfl q48).trans rfl) (fun _ => rfl)
        · have q48 : A_.tmps[48]? = some (.bool true) := hI.val_ (i := 10) rfl rfl (by decide) (hdep ⟨10, .guard⟩ (by simp) rfl)
          have e51 : A_.tmps[51]?.getD undef = .int .i64 r13 := getD_of (hI.val_ (i := 13) rfl rfl (by decide) (hdep ⟨13, .data⟩ (by simp) rfl))
          clear hI hdep
          exact .run ((wanted_some rfl rfl q48).trans rfl) (.bool b3) w3 (by simp [execOp, go_sem, Act.eval, *]) (Below.refl _ _) rfl
    · simp only [List.getElem?_toArray, List.getElem?_cons_succ, List.getElem?_cons_zero, Option.some.injEq] at ho
      subst ho
      refine ⟨rfl, ?_⟩
      cases b1
      · cases b2
        · have e48 : A_.tmps[48]?.getD undef = .bool false := getD_of (hI.val_ (i := 10) rfl rfl (by decide) (hdep ⟨10, .data⟩ (by simp) rfl))
          have e52 : A_.tmps[52]?.getD undef = undef := getD_of (hI.val_ (i := 14) rfl rfl (by decide) (hdep ⟨14, .data⟩ (by simp) rfl))
          clear hI hdep
          exact .run rfl (.bool false) w3 (by simp [execOp, go_sem, Act.eval, e48, e52]) (Below.refl _ _) rfl
        · have e48 : A_.tmps[48]?.getD undef = .bool false := getD_of (hI.val_ (i := 10) rfl rfl (by decide) (hdep ⟨10, .data⟩ (by simp) rfl))
          have e52 : A_.tmps[52]?.getD undef = undef := getD_of (hI.val_ (i := 14) rfl rfl (by decide) (hdep ⟨14, .data⟩ (by simp) rfl))
          clear hI hdep
          exact .run rfl (.bool false) w3 (by simp [execOp, go_sem, Act.eval, e48, e52]) (Below.refl _ _) rfl
      · cases b2
        · have e48 : A_.tmps[48]?.getD undef = .bool false := getD_of (hI.val_ (i := 10) rfl rfl (by decide) (hdep ⟨10, .data⟩ (by simp) rfl))
          have e52 : A_.tmps[52]?.getD undef = undef := getD_of (hI.val_ (i := 14) rfl rfl (by decide) (hdep ⟨14, .data⟩ (by simp) rfl))
          clear hI hdep
          exact .run rfl (.bool false) w3 (by simp [execOp, go_sem, Act.eval, e48, e52]) (Below.refl _ _) rfl
        · have e48 : A_.tmps[48]?.getD undef = .bool true := getD_of (hI.val_ (i := 10) rfl rfl (by decide) (hdep ⟨10, .data⟩ (by simp) rfl))
          have e52 : A_.tmps[52]?.getD undef = .bool b3 := getD_of (hI.val_ (i := 14) rfl rfl (by decide) (hdep ⟨14, .data⟩ (by simp) rfl))
          clear hI hdep
          exact .run rfl (.bool b3) w3 (by simp [execOp, go_sem, Act.eval, e48, e52]) (Below.refl _ _) rfl
  case fin =>
  intro A_ w3 hs hd hlow hS hok
  obtain ⟨y43, hy43, _⟩ := hok 5 43 _ (by decide) rfl rfl
  obtain ⟨y44, hy44, _⟩ := hok 6 44 _ (by decide) rfl rfl
  obtain ⟨y45, hy45, _⟩ := hok 7 45 _ (by decide) rfl rfl
  obtain ⟨y46, hy46, _⟩ := hok 8 46 _ (by decide) rfl rfl
  obtain ⟨y49, hy49, _⟩ := hok 11 49 _ (by decide) rfl rfl
  obtain ⟨y50, hy50, _⟩ := hok 12 50 _ (by decide) rfl rfl
  obtain ⟨y51, hy51, _⟩ := hok 13 51 _ (by decide) rfl rfl
  obtain ⟨y52, hy52, _⟩ := hok 14 52 _ (by decide) rfl rfl
  obtain rfl : A_ = ⟨#[.slice A1 n1 k1, .slice A2 n2 k2, .slice A3 n3 k3, undef, undef, undef, .bool false, .pointer (some ⟨v1.heap.size, 0, none⟩), .pointer (some ⟨v2.heap.size, 0, none⟩), .pointer (some ⟨v3.heap.size, 0, none⟩), .slice A1 n1 k1, .agg #[.int .i64 ek1, .int .i64 en1, .int .i64 ea1, .int .i64 ec1, .int .i64 eh1, .int .i64 et1, .int .i64 ei1, .int .i64 ep1, .slice B1 m1 c1, .bool false, .slice none 0 0], .slice A2 n2 k2, .agg #[.int .i64 ek2, .int .i64 en2, .int .i64 ea2, .int .i64 ec2, .int .i64 eh2, .int .i64 et2, .int .i64 ei2, .int .i64 ep2, .slice B2 m2 c2, .bool false, .slice none 0 0], .slice A3 n3 k3, .agg #[.int .i64 ek3, .int .i64 en3, .int .i64 ea3, .int .i64 ec3, .int .i64 eh3, .int .i64 et3, .int .i64 ei3, .int .i64 ep3, .slice B3 m3 c3, .bool false, .slice none 0 0], .agg #[.int .i64 ek1, .int .i64 en1, .int .i64 ea1, .int .i64 ec1, .int .i64 eh1, .int .i64 et1, .int .i64 ei1, .int .i64 ep1, .slice B1 m1 c1, .bool false, .slice none 0 0], .agg #[.int .i64 ek2, .int .i64 en2, .int .i64 ea2, .int .i64 ec2, .int .i64 eh2, .int .i64 et2, .int .i64 ei2, .int .i64 ep2, .slice B2 m2 c2, .bool false, .slice none 0 0], .int .i64 r12, .agg #[.int .i64 ek2, .int .i64 en2, .int .i64 ea2, .int .i64 ec2, .int .i64 eh2, .int .i64 et2, .int .i64 ei2, .int .i64 ep2, .slice B2 m2 c2, .bool false, .slice none 0 0], .agg #[.int .i64 ek1, .int .i64 en1, .int .i64 ea1, .int .i64 ec1, .int .i64 eh1, .int .i64 et1, .int .i64 ei1, .int .i64 ep1, .slice B1 m1 c1, .bool false, .slice none 0 0], .int .i64 r21, .int .i64 r12, .bool false, .bool false, .pointer (some ⟨v1.heap.size, 0, none⟩), .agg #[.int .i64 ek1, .int .i64 en1, .int .i64 ea1, .int .i64 ec1, .int .i64 eh1, .int .i64 et1, .int .i64 ei1, .int .i64 ep1], .pointer (some ⟨v2.heap.size, 0, none⟩), .agg #[.int .i64 ek2, .int .i64 en2, .int .i64 ea2, .int .i64 ec2, .int .i64 eh2, .int .i64 et2, .int .i64 ei2, .int .i64 ep2], .int .i64 e12, .pointer (some ⟨v2.heap.size, 0, none⟩), .agg #[.int .i64 ek2, .int .i64 en2, .int .i64 ea2, .int .i64 ec2, .int .i64 eh2, .int .i64 et2, .int .i64 ei2, .int .i64 ep2], .pointer (some ⟨v1.heap.size, 0, none⟩), .agg #[.int .i64 ek1, .int .i64 en1, .int .i64 ea1, .int .i64 ec1, .int .i64 eh1, .int .i64 et1, .int .i64 ei1, .int .i64 ep1], .int .i64 e21, .int .i64 e12, .bool false, .bool false, .agg #[.int .i64 ek1, .int .i64 en1, .int .i64 ea1, .int .i64 ec1, .int .i64 eh1, .int .i64 et1, .int .i64 ei1, .int .i64 ep1, .slice B1 m1 c1, .bool false, .slice none 0 0], .agg #[.int .i64 ek2, .int .i64 en2, .int .i64 ea2, .int .i64 ec2, .int .i64 eh2, .int .i64 et2, .int .i64 ei2, .int .i64 ep2, .slice B2 m2 c2, .bool false, .slice none 0 0], .int .i64 r12, .bool b1, .bool b1, y43, y44, y45, y46, .bool (b1 && b2), .bool (b1 && b2), y49, y50, y51, y52, .bool ((b1 && b2) && b3), undef, undef, undef, undef, undef, undef, undef, undef, undef, undef, undef, undef, undef, undef, undef, undef, undef, undef, undef, undef, undef, undef, undef, undef, undef, undef, undef, undef, undef, undef, undef, undef, undef, undef, undef, undef, undef, undef, undef, undef, undef, undef, undef], []⟩ := act_ext hd hs (fun j hj => match j, hj with | 0, _ => (hlow 0 (by decide)).trans rfl | 1, _ => (hlow 1 (by decide)).trans rfl | 2, _ => (hlow 2 (by decide)).trans rfl | 3, _ => (hlow 3 (by decide)).trans rfl | 4, _ => (hlow 4 (by decide)).trans rfl | 5, _ => (hlow 5 (by decide)).trans rfl | 6, _ => (hlow 6 (by decide)).trans rfl | 7, _ => (hlow 7 (by decide)).trans rfl | 8, _ => (hlow 8 (by decide)).trans rfl | 9, _ => (hlow 9 (by decide)).trans rfl | 10, _ => (hlow 10 (by decide)).trans rfl | 11, _ => (hlow 11 (by decide)).trans rfl | 12, _ => (hlow 12 (by decide)).trans rfl | 13, _ => (hlow 13 (by decide)).trans rfl | 14, _ => (hlow 14 (by decide)).trans rfl | 15, _ => (hlow 15 (by decide)).trans rfl | 16, _ => (hlow 16 (by decide)).trans rfl | 17, _ => (hlow 17 (by decide)).trans rfl | 18, _ => (hlow 18 (by decide)).trans rfl | 19, _ => (hlow 19 (by decide)).trans rfl | 20, _ => (hlow 20 (by decide)).trans rfl | 21, _ => (hlow 21 (by decide)).trans rfl | 22, _ => (hlow 22 (by decide)).trans rfl | 23, _ => (hlow 23 (by decide)).trans rfl | 24, _ => (hlow 24 (by decide)).trans rfl | 25, _ => (hlow 25 (by decide)).trans rfl | 26, _ => (hlow 26 (by decide)).trans rfl | 27, _ => (hlow 27 (by decide)).trans rfl | 28, _ => (hlow 28 (by decide)).trans rfl | 29, _ => (hlow 29 (by decide)).trans rfl | 30, _ => (hlow 30 (by decide)).trans rfl | 31, _ => (hlow 31 (by decide)).trans rfl | 32, _ => (hlow 32 (by decide)).trans rfl | 33, _ => (hlow 33 (by decide)).trans rfl | 34, _ => (hlow 34 (by decide)).trans rfl | 35, _ => (hlow 35 (by decide)).trans rfl | 36, _ => (hlow 36 (by decide)).trans rfl | 37, _ => (hlow 37 (by decide)).trans rfl | 38, _ => RgX.val_at (hok 0 38 _ (by decide) rfl rfl) | 39, _ => RgX.val_at (hok 1 39 _ (by decide) rfl rfl) | 40, _ => RgX.val_at (hok 2 40 _ (by decide) rfl rfl) | 41, _ => RgX.val_at (hok 3 41 _ (by decide) rfl rfl) | 42, _ => RgX.val_at (hok 4 42 _ (by decide) rfl rfl) | 43, _ => hy43 | 44, _ => hy44 | 45, _ => hy45 | 46, _ => hy46 | 47, _ => RgX.val_at (hok 9 47 _ (by decide) rfl rfl) | 48, _ => RgX.val_at (hok 10 48 _ (by decide) rfl rfl) | 49, _ => hy49 | 50, _ => hy50 | 51, _ => hy51 | 52, _ => hy52 | 53, _ => RgX.val_at (hok 15 53 _ (by decide) rfl rfl) | 54, _ => (hlow 54 (by decide)).trans rfl | 55, _ => (hlow 55 (by decide)).trans rfl | 56, _ => (hlow 56 (by decide)).trans rfl | 57, _ => (hlow 57 (by decide)).trans rfl | 58, _ => (hlow 58 (by decide)).trans rfl | 59, _ => (hlow 59 (by decide)).trans rfl | 60, _ => (hlow 60 (by decide)).trans rfl | 61, _ => (hlow 61 (by decide)).trans rfl | 62, _ => (hlow 62 (by decide)).trans rfl | 63, _ => (hlow 63 (by decide)).trans rfl | 64, _ => (hlow 64 (by decide)).trans rfl | 65, _ => (hlow 65 (by decide)).trans rfl | 66, _ => (hlow 66 (by decide)).trans rfl | 67, _ => (hlow 67 (by decide)).trans rfl | 68, _ => (hlow 68 (by decide)).trans rfl | 69, _ => (hlow 69 (by decide)).trans rfl | 70, _ => (hlow 70 (by decide)).trans rfl | 71, _ => (hlow 71 (by decide)).trans rfl | 72, _ => (hlow 72 (by decide)).trans rfl | 73, _ => (hlow 73 (by decide)).trans rfl | 74, _ => (hlow 74 (by decide)).trans rfl | 75, _ => (hlow 75 (by decide)).trans rfl | 76, _ => (hlow 76 (by decide)).trans rfl | 77, _ => (hlow 77 (by decide)).trans rfl | 78, _ => (hlow 78 (by decide)).trans rfl | 79, _ => (hlow 79 (by decide)).trans rfl | 80, _ => (hlow 80 (by decide)).trans rfl | 81, _ => (hlow 81 (by decide)).trans rfl | 82, _ => (hlow 82 (by decide)).trans rfl | 83, _ => (hlow 83 (by decide)).trans rfl | 84, _ => (hlow 84 (by decide)).trans rfl | 85, _ => (hlow 85 (by decide)).trans rfl | 86, _ => (hlow 86 (by decide)).trans rfl | 87, _ => (hlow 87 (by decide)).trans rfl | 88, _ => (hlow 88 (by decide)).trans rfl | 89, _ => (hlow 89 (by decide)).trans rfl | 90, _ => (hlow 90 (by decide)).trans rfl | 91, _ => (hlow 91 (by decide)).trans rfl | 92, _ => (hlow 92 (by decide)).trans rfl | 93, _ => (hlow 93 (by decide)).trans rfl | 94, _ => (hlow 94 (by decide)).trans rfl | 95, _ => (hlow 95 (by decide)).trans rfl | 96, _ => (hlow 96 (by decide)).trans rfl | n + 97, h => absurd h (by show ¬ n + 97 < 97; omega))
  clear hs hd hlow hok hy43 hy44 hy45 hy46 hy49 hy50 hy51 hy52
  rw [t1]
  have S6 := Lib.hid (S4.out.trans (hS.mono S4.out.size))
  have B6 := Lib.hid (B4.out.trans (hS.mono B4.out.size))
  clear hS t1 hb1 hb2 hb3
  obtain ⟨W6, hW6⟩ : ∃ W, W = w3 := ⟨_, rfl⟩
  subst hW6
  go_upto_region 8 with fail
  obtain ⟨d1, hd1⟩ : ∃ b, decide (e12 < 0) = b := ⟨_, rfl⟩
  obtain ⟨d2, hd2⟩ : ∃ b, decide (e23 ≤ 0) = b := ⟨_, rfl⟩
  obtain ⟨d3, hd3⟩ : ∃ b, decide (e13 ≥ 0) = b := ⟨_, rfl⟩
  have t2 := t2.out
  rw [hd1, hd2, hd3] at t2
  refine RgX.seq 22 (fun i => ( 54 + i)) (fun ix_ => match ix_ with | 0 => .v (.pointer (some ⟨v1.heap.size, 0, none⟩)) | 1 => .v (.agg #[.int .i64 ek1, .int .i64 en1, .int .i64 ea1, .int .i64 ec1, .int .i64 eh1, .int .i64 et1, .int .i64 ei1, .int .i64 ep1]) | 2 => .v (.pointer (some ⟨v2.heap.size, 0, none⟩)) | 3 => .v (.agg #[.int .i64 ek2, .int .i64 en2, .int .i64 ea2, .int .i64 ec2, .int .i64 eh2, .int .i64 et2, .int .i64 ei2, .int .i64 ep2]) | 4 => .v (.int .i64 e12) | 5 => .v (.bool d1) | 6 => .v (.bool d1) | 7 => (bif d1 then (.v (.pointer (some ⟨v2.heap.size, 0, none⟩)) : RgX.Sp) else .v undef) | 8 => (bif d1 then (.v (.agg #[.int .i64 ek2, .int .i64 en2, .int .i64 ea2, .int .i64 ec2, .int .i64 eh2, .int .i64 et2, .int .i64 ei2, .int .i64 ep2]) : RgX.Sp) else .v undef) | 9 => (bif d1 then (.v (.pointer (some ⟨v3.heap.size, 0, none⟩)) : RgX.Sp) else .v undef) | 10 => (bif d1 then (.v (.agg #[.int .i64 ek3, .int .i64 en3, .int .i64 ea3, .int .i64 ec3, .int .i64 eh3, .int .i64 et3, .int .i64 ei3, .int .i64 ep3]) : RgX.Sp) else .v undef) | 11 => (bif d1 then (.v (.int .i64 e23) : RgX.Sp) else .v undef) | 12 => (bif d1 then (.v (.bool d2) : RgX.Sp) else .v undef) | 13 => .v (.bool (d1 && d2)) | 14 => .v (.bool (d1 && d2)) | 15 => (bif (d1 && d2) then (.v (.pointer (some ⟨v1.heap.size, 0, none⟩)) : RgX.Sp) else .v undef) | 16 => (bif (d1 && d2) then (.v (.agg #[.int .i64 ek1, .int .i64 en1, .int .i64 ea1, .int .i64 ec1, .int .i64 eh1, .int .i64 et1, .int .i64 ei1, .int .i64 ep1]) : RgX.Sp) else .v undef) | 17 => (bif (d1 && d2) then (.v (.pointer (some ⟨v3.heap.size, 0, none⟩)) : RgX.Sp) else .v undef) | 18 => (bif (d1 && d2) then (.v (.agg #[.int .i64 ek3, .int .i64 en3, .int .i64 ea3, .int .i64 ec3, .int .i64 eh3, .int .i64 et3, .int .i64 ei3, .int .i64 ep3]) : RgX.Sp) else .v undef) | 19 => (bif (d1 && d2) then (.v (.int .i64 e13) : RgX.Sp) else .v undef) | 20 => (bif (d1 && d2) then (.v (.bool d3) : RgX.Sp) else .v undef) | 21 => .v (.bool ((d1 && d2) && d3)) | _ => .any) rfl (by kernel_rfl)  (fun i hi => by show ( 54 + i) < 97; (repeat' split) <;> omega) (fun i j hi hj => by show ( 54 + i) = ( 54 + j) → i = j; (repeat' split) <;> omega) ?step ?fin
  case step =>
    intro L_ A_ w3 ix op_ hI ho hdep
    have hi : ix < 22 := (Array.getElem?_eq_some_iff.1 ho).1
    have hcase : ix = 0 ∨ ix = 1 ∨ ix = 2 ∨ ix = 3 ∨ ix = 4 ∨ ix = 5 ∨ ix = 6 ∨ ix = 7 ∨ ix = 8 ∨ ix = 9 ∨ ix = 10 ∨ ix = 11 ∨ ix = 12 ∨ ix = 13 ∨ ix = 14 ∨ ix = 15 ∨ ix = 16 ∨ ix = 17 ∨ ix = 18 ∨ ix = 19 ∨ ix = 20 ∨ ix = 21 := by omega
    have hh := hI.held
    clear hi
    rcases hcase with rfl | rfl | rfl | rfl | rfl | rfl | rfl | rfl | rfl | rfl | rfl | rfl | rfl | rfl | rfl | rfl | rfl | rfl | rfl | rfl | rfl | rfl
    · simp only [List.getElem?_toArray, List.getElem?_cons_zero, Option.some.injEq] at ho
      subst ho
      refine ⟨rfl, ?_⟩
      have e7 : A_.tmps[7]?.getD undef = .pointer (some ⟨v1.heap.size, 0, none⟩) := by rw [hI.low 7 (by decide)]; rfl
      clear hI hdep
      exact .run rfl (.pointer (some ⟨v1.heap.size, 0, none⟩)) w3 (by simp [execOp, go_sem, Act.eval, e7]) (Below.refl _ _) rfl
    · simp only [List.getElem?_toArray, List.getElem?_cons_succ, List.getElem?_cons_zero, Option.some.injEq] at ho
      subst ho
      refine ⟨rfl, ?_⟩
      have e54 : A_.tmps[54]?.getD undef = .pointer (some ⟨v1.heap.size, 0, none⟩) := getD_of (hI.val_ (i := 0) rfl rfl (by decide) (hdep ⟨0, .data⟩ (by simp) rfl))
      clear hI hdep
      obtain ⟨⟨fa0, fa1, fa2, fa3, fa4, fa5, fa6, fa7, fa8, fa9, fa10⟩, ⟨fb0, fb1, fb2, fb3, fb4, fb5, fb6, fb7, fb8, fb9, fb10⟩, fc0, fc1, fc2, fc3, fc4, fc5, fc6, fc7, fc8, fc9, fc10⟩ := HK.out w3 (S6.out.trans (hh.mono S6.out.size))
      exact .run rfl (.agg #[.int .i64 ek1, .int .i64 en1, .int .i64 ea1, .int .i64 ec1, .int .i64 eh1, .int .i64 et1, .int .i64 ei1, .int .i64 ep1]) w3 (by simp [execOp, go_sem, Act.eval, *]) (Below.refl _ _) rfl
    · simp only [List.getElem?_toArray, List.getElem?_cons_succ, List.getElem?_cons_zero, Option.some.injEq] at ho
      subst ho
      refine ⟨rfl, ?_⟩
      have e8 : A_.tmps[8]?.getD undef = .pointer (some ⟨v2.heap.size, 0, none⟩) := by rw [hI.low 8 (by decide)]; rfl
      clear hI hdep
      exact .run rfl (.pointer (some ⟨v2.heap.size, 0, none⟩)) w3 (by simp [execOp, go_sem, Act.eval, e8]) (Below.refl _ _) rfl
    · simp only [List.getElem?_toArray, List.getElem?_cons_succ, List.getElem?_cons_zero, Option.some.injEq] at ho
      subst ho
      refine ⟨rfl, ?_⟩
      have e56 : A_.tmps[56]?.getD undef = .pointer (some ⟨v2.heap.size, 0, none⟩) := getD_of (hI.val_ (i := 2) rfl rfl (by decide) (hdep ⟨2, .data⟩ (by simp) rfl))
      clear hI hdep
      obtain ⟨⟨fa0, fa1, fa2, fa3, fa4, fa5, fa6, fa7, fa8, fa9, fa10⟩, ⟨fb0, fb1, fb2, fb3, fb4, fb5, fb6, fb7, fb8, fb9, fb10⟩, fc0, fc1, fc2, fc3, fc4, fc5, fc6, fc7, fc8, fc9, fc10⟩ := HK.out w3 (S6.out.trans (hh.mono S6.out.size))
      exact .run rfl (.agg #[.int .i64 ek2, .int .i64 en2, .int .i64 ea2, .int .i64 ec2, .int .i64 eh2, .int .i64 et2, .int .i64 ei2, .int .i64 ep2]) w3 (by simp [execOp, go_sem, Act.eval, *]) (Below.refl _ _) rfl
    · simp only [List.getElem?_toArray, List.getElem?_cons_succ, List.getElem?_cons_zero, Option.some.injEq] at ho
      subst ho
      refine ⟨rfl, ?_⟩
      have e55 : A_.tmps[55]?.getD undef = .agg #[.int .i64 ek1, .int .i64 en1, .int .i64 ea1, .int .i64 ec1, .int .i64 eh1, .int .i64 et1, .int .i64 ei1, .int .i64 ep1] := getD_of (hI.val_ (i := 1) rfl rfl (by decide) (hdep ⟨1, .data⟩ (by simp) rfl))
      have e57 : A_.tmps[57]?.getD undef = .agg #[.int .i64 ek2, .int .i64 en2, .int .i64 ea2, .int .i64 ec2, .int .i64 eh2, .int .i64 et2, .int .i64 ei2, .int .i64 ep2] := getD_of (hI.val_ (i := 3) rfl rfl (by decide) (hdep ⟨3, .data⟩ (by simp) rfl))
      clear hI hdep
      exact .call rfl 6 #[.agg #[.int .i64 ek1, .int .i64 en1, .int .i64 ea1, .int .i64 ec1, .int .i64 eh1, .int .i64 et1, .int .i64 ei1, .int .i64 ep1], .agg #[.int .i64 ek2, .int .i64 en2, .int .i64 ea2, .int .i64 ec2, .int .i64 eh2, .int .i64 et2, .int .i64 ei2, .int .i64 ep2]] (by simp [go_sem, Act.eval, e55, e57]) ((HE12.out w3).mono fun _ _ ⟨h1_, h2_⟩ => ⟨⟨_, h1_, rfl⟩, h2_⟩)
    · simp only [List.getElem?_toArray, List.getElem?_cons_succ, List.getElem?_cons_zero, Option.some.injEq] at ho
      subst ho
      refine ⟨rfl, ?_⟩
      have e58 : A_.tmps[58]?.getD undef = .int .i64 e12 := getD_of (hI.val_ (i := 4) rfl rfl (by decide) (hdep ⟨4, .data⟩ (by simp) rfl))
      clear hI hdep
      exact .run rfl (.bool d1) w3 (by simp [execOp, go_sem, Act.eval, *]) (Below.refl _ _) rfl
    · simp only [List.getElem?_toArray, List.getElem?_cons_succ, List.getElem?_cons_zero, Option.some.injEq] at ho
      subst ho
      refine ⟨rfl, ?_⟩
      have e59 : A_.tmps[59]?.getD undef = .bool d1 := getD_of (hI.val_ (i := 5) rfl rfl (by decide) (hdep ⟨5, .data⟩ (by simp) rfl))
      clear hI hdep
      exact .run rfl (.bool d1) w3 (by simp [execOp, go_sem, Act.eval, e59]) (Below.refl _ _) rfl
    · simp only [List.getElem?_toArray, List.getElem?_cons_succ, List.getElem?_cons_zero, Option.some.injEq] at ho
      subst ho
      refine ⟨rfl, ?_⟩
      cases d1
      · have q60 : A_.tmps[60]? = some (.bool false) := hI.val_ (i := 6) rfl rfl (by decide) (hdep ⟨6, .guard⟩ (by simp) rfl)
        exact .skip ((wanted_some rfl rfl q60).trans rfl) (fun _ => rfl)
      · have q60 : A_.tmps[60]? = some (.bool true) := hI.val_ (i := 6) rfl rfl (by decide) (hdep ⟨6, .guard⟩ (by simp) rfl)
        have e8 : A_.tmps[8]?.getD undef = .pointer (some ⟨v2.heap.size, 0, none⟩) := by rw [hI.low 8 (by decide)]; rfl
        clear hI hdep
        exact .run ((wanted_some rfl rfl q60).trans rfl) (.pointer (some ⟨v2.heap.size, 0, none⟩)) w3 (by simp [execOp, go_sem, Act.eval, e8]) (Below.refl _ _) rfl
    · simp only [List.getElem?_toArray, List.getElem?_cons_succ, List.getElem?_cons_zero, Option.some.injEq] at ho
      subst ho
      refine ⟨rfl, ?_⟩
      cases d1
      · have q60 : A_.tmps[60]? = some (.bool false) := hI.val_ (i := 6) rfl rfl (by decide) (hdep ⟨6, .guard⟩ (by simp) rfl)
        exact .skip ((wanted_some rfl rfl q60).trans rfl) (fun _ => rfl)
      · have q60 : A_.tmps[60]? = some (.bool true) := hI.val_ (i := 6) rfl rfl (by decide) (hdep ⟨6, .guard⟩ (by simp) rfl)
        have e61 : A_.tmps[61]?.getD undef = .pointer (some ⟨v2.heap.size, 0, none⟩) := getD_of (hI.val_ (i := 7) rfl rfl (by decide) (hdep ⟨7, .data⟩ (by simp) rfl))
        clear hI hdep
        obtain ⟨⟨fa0, fa1, fa2, fa3, fa4, fa5, fa6, fa7, fa8, fa9, fa10⟩, ⟨fb0, fb1, fb2, fb3, fb4, fb5, fb6, fb7, fb8, fb9, fb10⟩, fc0, fc1, fc2, fc3, fc4, fc5, fc6, fc7, fc8, fc9, fc10⟩ := HK.out w3 (S6.out.trans (hh.mono S6.out.size))
        exact .run ((wanted_some rfl rfl q60).trans rfl) (.agg #[.int .i64 ek2, .int .i64 en2, .int .i64 ea2, .int .i64 ec2, .int .i64 eh2, .int .i64 et2, .int .i64 ei2, .int .i64 ep2]) w3 (by simp [execOp, go_sem, Act.eval, *]) (Below.refl _ _) rfl
    · simp only [List.getElem?_toArray, List.getElem?_cons_succ, List.getElem?_cons_zero, Option.some.injEq] at ho
      subst ho
      refine ⟨rfl, ?_⟩
      cases d1
      · have q60 : A_.tmps[60]? = some (.bool false) := hI.val_ (i := 6) rfl rfl (by decide) (hdep ⟨6, .guard⟩ (by simp) rfl)
        exact .skip ((wanted_some rfl rfl q60).trans rfl) (fun _ => rfl)
      · have q60 : A_.tmps[60]? = some (.bool true) := hI.val_ (i := 6) rfl rfl (by decide) (hdep ⟨6, .guard⟩ (by simp) rfl)
        have e9 : A_.tmps[9]?.getD undef = .pointer (some ⟨v3.heap.size, 0, none⟩) := by rw [hI.low 9 (by decide)]; rfl
        clear hI hdep
        exact .run ((wanted_some rfl rfl q60).trans rfl) (.pointer (some ⟨v3.heap.size, 0, none⟩)) w3 (by simp [execOp, go_sem, Act.eval, e9]) (Below.refl _ _) rfl
    · simp only [List.getElem?_toArray, List.getElem?_cons_succ, List.getElem?_cons_zero, Option.some.injEq] at ho
      subst ho
      refine ⟨rfl, ?_⟩
      cases d1
      · have q60 : A_.tmps[60]? = some (.bool false) := hI.val_ (i := 6) rfl rfl (by decide) (hdep ⟨6, .guard⟩ (by simp) rfl)
        exact .skip ((wanted_some rfl rfl q60).trans rfl) (fun _ => rfl)
      · have q60 : A_.tmps[60]? = some (.bool true) := hI.val_ (i := 6) rfl rfl (by decide) (hdep ⟨6, .guard⟩ (by simp) rfl)
        have e63 : A_.tmps[63]?.getD undef = .pointer (some ⟨v3.heap.size, 0, none⟩) := getD_of (hI.val_ (i := 9) rfl rfl (by decide) (hdep ⟨9, .data⟩ (by simp) rfl))
        clear hI hdep
        obtain ⟨⟨fa0, fa1, fa2, fa3, fa4, fa5, fa6, fa7, fa8, fa9, fa10⟩, ⟨fb0, fb1, fb2, fb3, fb4, fb5, fb6, fb7, fb8, fb9, fb10⟩, fc0, fc1, fc2, fc3, fc4, fc5, fc6, fc7, fc8, fc9, fc10⟩ := HK.out w3 (S6.out.trans (hh.mono S6.out.size))
        exact .run ((wanted_some rfl rfl q60).trans rfl) (.agg #[.int .i64 ek3, .int .i64 en3, .int .i64 ea3, .int .i64 ec3, .int .i64 eh3, .int .i64 et3, .int .i64 ei3, .int .i64 ep3]) w3 (by simp [execOp, go_sem, Act.eval, *]) (Below.refl _ _) rfl
    · simp only [List.getElem?_toArray, List.getElem?_cons_succ, List.getElem?_cons_zero, Option.some.injEq] at ho
      subst ho
      refine ⟨rfl, ?_⟩
      cases d1
      · have q60 : A_.tmps[60]? = some (.bool false) := hI.val_ (i := 6) rfl rfl (by decide) (hdep ⟨6, .guard⟩ (by simp) rfl)
        exact .skip ((wanted_some rfl rfl q60).trans rfl) (fun _ => rfl)
      · have q60 : A_.tmps[60]? = some (.bool true) := hI.val_ (i := 6) rfl rfl (by decide) (hdep ⟨6, .guard⟩ (by simp) rfl)
        have e62 : A_.tmps[62]?.getD undef = .agg #[.int .i64 ek2, .int .i64 en2, .int .i64 ea2, .int .i64 ec2, .int .i64 eh2, .int .i64 et2, .int .i64 ei2, .int .i64 ep2] := getD_of (hI.val_ (i := 8) rfl rfl (by decide) (hdep ⟨8, .data⟩ (by simp) rfl))
        have e64 : A_.tmps[64]?.getD undef = .agg #[.int .i64 ek3, .int .i64 en3, .int .i64 ea3, .int .i64 ec3, .int .i64 eh3, .int .i64 et3, .int .i64 ei3, .int .i64 ep3] := getD_of (hI.val_ (i := 10) rfl rfl (by decide) (hdep ⟨10, .data⟩ (by simp) rfl))
        clear hI hdep
        exact .call ((wanted_some rfl rfl q60).trans rfl) 6 #[.agg #[.int .i64 ek2, .int .i64 en2, .int .i64 ea2, .int .i64 ec2, .int .i64 eh2, .int .i64 et2, .int .i64 ei2, .int .i64 ep2], .agg #[.int .i64 ek3, .int .i64 en3, .int .i64 ea3, .int .i64 ec3, .int .i64 eh3, .int .i64 et3, .int .i64 ei3, .int .i64 ep3]] (by simp [go_sem, Act.eval, e62, e64]) ((HE23.out w3).mono fun _ _ ⟨h1_, h2_⟩ => ⟨⟨_, h1_, rfl⟩, h2_⟩)
    · simp only [List.getElem?_toArray, List.getElem?_cons_succ, List.getElem?_cons_zero, Option.some.injEq] at ho
      subst ho
      refine ⟨rfl, ?_⟩
      cases d1
      · have q60 : A_.tmps[60]? = some (.bool false) := hI.val_ (i := 6) rfl rfl (by decide) (hdep ⟨6, .guard⟩ (by simp) rfl)
        exact .skip ((wanted_some rfl rfl q60).trans rfl) (fun _ => rfl)
      · have q60 : A_.tmps[60]? = some (.bool true) := hI.val_ (i := 6) rfl rfl (by decide) (hdep ⟨6, .guard⟩ (by simp) rfl)
        have e65 : A_.tmps[65]?.getD undef = .int .i64 e23 := getD_of (hI.val_ (i := 11) rfl rfl (by decide) (hdep ⟨11, .data⟩ (by simp) rfl))
        clear hI hdep
        exact .run ((wanted_some rfl rfl q60).trans rfl) (.bool d2) w3 (by simp [execOp, go_sem, Act.eval, *]) (Below.refl _ _) rfl
    · simp only [List.getElem?_toArray, List.getElem?_cons_succ, List.getElem?_cons_zero, Option.some.injEq] at ho
      subst ho
      refine ⟨rfl, ?_⟩
      cases d1
      · have e60 : A_.tmps[60]?.getD undef = .bool false := getD_of (hI.val_ (i := 6) rfl rfl (by decide) (hdep ⟨6, .data⟩ (by simp) rfl))
        have e66 : A_.tmps[66]?.getD undef = undef := getD_of (hI.val_ (i := 12) rfl rfl (by decide) (hdep ⟨12, .data⟩ (by simp) rfl))
        clear hI hdep
        exact .run rfl (.bool false) w3 (by simp [execOp, go_sem, Act.eval, e60, e66]) (Below.refl _ _) rfl
      · have e60 : A_.tmps[60]?.getD undef = .bool true := getD_of (hI.val_ (i := 6) rfl rfl (by decide) (hdep ⟨6, .data⟩ (by simp) rfl))
        have e66 : A_.tmps[66]?.getD undef = .bool d2 := getD_of (hI.val_ (i := 12) rfl rfl (by decide) (hdep ⟨12, .data⟩ (by simp) rfl))
        clear hI hdep
        exact .run rfl (.bool d2) w3 (by simp [execOp, go_sem, Act.eval, e60, e66]) (Below.refl _ _) rfl
    · simp only [List.getElem?_toArray, List.getElem?_cons_succ, List.getElem?_cons_zero, Option.some.injEq] at ho
      subst ho
      refine ⟨rfl, ?_⟩
      have e67 : A_.tmps[67]?.getD undef = .bool (d1 && d2) := getD_of (hI.val_ (i := 13) rfl rfl (by decide) (hdep ⟨13, .data⟩ (by simp) rfl))
      clear hI hdep
      exact .run rfl (.bool (d1 && d2)) w3 (by simp [execOp, go_sem, Act.eval, e67]) (Below.refl _ _) rfl
    · simp only [List.getElem?_toArray, List.getElem?_cons_succ, List.getElem?_cons_zero, Option.some.injEq] at ho
      subst ho
      refine ⟨rfl, ?_⟩
      cases d1
      · have q68 : A_.tmps[68]? = some (.bool false) := hI.val_ (i := 14) rfl rfl (by decide) (hdep ⟨14, .guard⟩ (by simp) rfl)
        exact .skip ((wanted_some rfl rfl q68).trans rfl) (fun _ => rfl)
      · cases d2
        · have q68 : A_.tmps[68]? = some (.bool false) := hI.val_ (i := 14) rfl rfl (by decide) (hdep ⟨14, .guard⟩ (by simp) rfl)
          exact .skip ((wanted_some rfl rfl q68).trans rfl) (fun _ => rfl)
        · have q68 : A_.tmps[68]? = some (.bool true) := hI.val_ (i := 14) rfl rfl (by decide) (hdep ⟨14, .guard⟩ (by simp) rfl)
          have e7 : A_.tmps[7]?.getD undef = .pointer (some ⟨v1.heap.size, 0, none⟩) := by rw [hI.low 7 (by decide)]; rfl
          clear hI hdep
          exact .run ((wanted_some rfl rfl q68).trans rfl) (.pointer (some ⟨v1.heap.size, 0, none⟩)) w3 (by simp [execOp, go_sem, Act.eval, e7]) (Below.refl _ _) rfl
    · simp only [List.getElem?_toArray, List.getElem?_cons_succ, List.getElem?_cons_zero, Option.some.injEq] at ho
      subst ho
      refine ⟨rfl, ?_⟩
      cases d1
      · have q68 : A_.tmps[68]? = some (.bool false) := hI.val_ (i := 14) rfl rfl (by decide) (hdep ⟨14, .guard⟩ (by simp) rfl)
        exact .skip ((wanted_some rfl rfl q68).trans rfl) (fun _ => rfl)
      · cases d2
        · have q68 : A_.tmps[68]? = some (.bool false) := hI.val_ (i := 14) rfl rfl (by decide) (hdep ⟨14, .guard⟩ (by simp) rfl)
          exact .skip ((wanted_some rfl rfl q68).trans rfl) (fun _ => rfl)
        · have q68 : A_.tmps[68]? = some (.bool true) := hI.val_ (i := 14) rfl rfl (by decide) (hdep ⟨14, .guard⟩ (by simp) rfl)
          have e69 : A_.tmps[69]?.getD undef = .pointer (some ⟨v1.heap.size, 0, none⟩) := getD_of (hI.val_ (i := 15) rfl rfl (by decide) (hdep ⟨15, .data⟩ (by simp) rfl))
          clear hI hdep
          obtain ⟨⟨fa0, fa1, fa2, fa3, fa4, fa5, fa6, fa7, fa8, fa9, fa10⟩, ⟨fb0, fb1, fb2, fb3, fb4, fb5, fb6, fb7, fb8, fb9, fb10⟩, fc0, fc1, fc2, fc3, fc4, fc5, fc6, fc7, fc8, fc9, fc10⟩ := HK.out w3 (S6.out.trans (hh.mono S6.out.size))
          exact .run ((wanted_some rfl rfl q68).trans rfl) (.agg #[.int .i64 ek1, .int .i64 en1, .int .i64 ea1, .int .i64 ec1, .int .i64 eh1, .int .i64 et1, .int .i64 ei1, .int .i64 ep1]) w3 (by simp [execOp, go_sem, Act.eval, *]) (Below.refl _ _) rfl
    · simp only [List.getElem?_toArray, List.getElem?_cons_succ, List.getElem?_cons_zero, Option.some.injEq] at ho
      subst ho
      refine ⟨rfl, ?_⟩
      cases d1
      · have q68 : A_.tmps[68]? = some (.bool false) := hI.val_ (i := 14) rfl rfl (by decide) (hdep ⟨14, .guard⟩ (by simp) rfl)
        exact .skip ((wanted_some rfl rfl q68).trans rfl) (fun _ => rfl)
      · cases d2
        · have q68 : A_.tmps[68]? = some (.bool false) := hI.val_ (i := 14) rfl rfl (by decide) (hdep ⟨14, .guard⟩ (by simp) rfl)
          exact .skip ((wanted_some rfl rfl q68).trans rfl) (fun _ => rfl)
        · have q68 : A_.tmps[68]? = some (.bool true) := hI.val_ (i := 14) rfl rfl (by decide) (hdep ⟨14, .guard⟩ (by simp) rfl)
          have e9 : A_.tmps[9]?.getD undef = .pointer (some ⟨v3.heap.size, 0, none⟩) := by rw [hI.low 9 (by decide)]; rfl
          clear hI hdep
          exact .run ((wanted_some rfl rfl q68).trans rfl) (.pointer (some ⟨v3.heap.size, 0, none⟩)) w3 (by simp [execOp, go_sem, Act.eval, e9]) (Below.refl _ _) rfl
    · simp only [List.getElem?_toArray, List.getElem?_cons_succ, List.getElem?_cons_zero, Option.some.injEq] at ho
      subst ho
      refine ⟨rfl, ?_⟩
      cases d1
      · have q68 : A_.tmps[68]? = some (.bool false) := hI.val_ (i := 14) rfl rfl (by decide) (hdep ⟨14, .guard⟩ (by simp) rfl)
        exact .skip ((wanted_some rfl rfl q68).trans rfl) (fun _ => rfl)
      · cases d2
        · have q68 : A_.tmps[68]? = some (.bool false) := hI.val_ (i := 14) rfl rfl (by decide) (hdep ⟨14, .guard⟩ (by simp) rfl)
          exact .skip ((wanted_some rfl rfl q68).trans rfl) (fun _ => rfl)
        · have q68 : A_.tmps[68]? = some (.bool true) := hI.val_ (i := 14) rfl rfl (by decide) (hdep ⟨14, .guard⟩ (by simp) rfl)
          have e71 : A_.tmps[71]?.getD undef = .pointer (some ⟨v3.heap.size, 0, none⟩) := getD_of (hI.val_ (i := 17) rfl rfl (by decide) (hdep ⟨17, .data⟩ (by simp) rfl))
          clear hI hdep
          obtain ⟨⟨fa0, fa1, fa2, fa3, fa4, fa5, fa6, fa7, fa8, fa9, fa10⟩, ⟨fb0, fb1, fb2, fb3, fb4, fb5, fb6, fb7, fb8, fb9, fb10⟩, fc0, fc1, fc2, fc3, fc4, fc5, fc6, fc7, fc8, fc9, fc10⟩ := HK.out w3 (S6.out.trans (hh.mono S6.out.size))
          exact .run ((wanted_some rfl rfl q68).trans rfl) (.agg #[.int .i64 ek3, .int .i64 en3, .int .i64 ea3, .int .i64 ec3, .int .i64 eh3, .int .i64 et3, .int .i64 ei3, .int .i64 ep3]) w3 (by simp [execOp, go_sem, Act.eval, *]) (Below.refl _ _) rfl
    · simp only [List.getElem?_toArray, List.getElem?_cons_succ, List.getElem?_cons_zero, Option.some.injEq] at ho
      subst ho
      refine ⟨rfl, ?_⟩
      cases d1
      · have q68 : A_.tmps[68]? = some (.bool false) := hI.val_ (i := 14) rfl rfl (by decide) (hdep ⟨14, .guard⟩ (by simp) rfl)
        exact .skip ((wanted_some rfl rfl q68).trans rfl) (fun _ => rfl)
      · cases d2
        · have q68 : A_.tmps[68]? = some (.bool false) := hI.val_ (i := 14) rfl rfl (by decide) (hdep ⟨14, .guard⟩ (by simp) rfl)
          exact .skip ((wanted_some rfl rfl q68).trans rfl) (fun _ => rfl)
        · have q68 : A_.tmps[68]? = some (.bool true) := hI.val_ (i := 14) rfl rfl (by decide) (hdep ⟨14, .guard⟩ (by simp) rfl)
          have e70 : A_.tmps[70]?.getD undef = .agg #[.int .i64 ek1, .int .i64 en1, .int .i64 ea1, .int .i64 ec1, .int .i64 eh1, .int .i64 et1, .int .i64 ei1, .int .i64 ep1] := getD_of (hI.val_ (i := 16) rfl rfl (by decide) (hdep ⟨16, .data⟩ (by simp) rfl))
          have e72 : A_.tmps[72]?.getD undef = .agg #[.int .i64 ek3, .int .i64 en3, .int .i64 ea3, .int .i64 ec3, .int .i64 eh3, .int .i64 et3, .int .i64 ei3, .int .i64 ep3] := getD_of (hI.val_ (i := 18) rfl rfl (by decide) (hdep ⟨18, .data⟩ (by simp) rfl))
          clear hI hdep
          exact .call ((wanted_some rfl rfl q68).trans rfl) 6 #[.agg #[.int .i64 ek1, .int .i64 en1, .int .i64 ea1, .int .i64 ec1, .int .i64 eh1, .int .i64 et1, .int .i64 ei1, .int .i64 ep1], .agg #[.int .i64 ek3, .int .i64 en3, .int .i64 ea3, .int .i64 ec3, .int .i64 eh3, .int .i64 et3, .int .i64 ei3, .int .i64 ep3]] (by simp [go_sem, Act.eval, e70, e72]) ((HE13.out w3).mono fun _ _ ⟨h1_, h2_⟩ => ⟨⟨_, h1_, rfl⟩, h2_⟩)
    · simp only [List.getElem?_toArray, List.getElem?_cons_succ, List.getElem?_cons_zero, Option.some.injEq] at ho
      subst ho
      refine ⟨rfl, ?_⟩
      cases d1
      · have q68 : A_.tmps[68]? = some (.bool false) := hI.val_ (i := 14) rfl rfl (by decide) (hdep ⟨14, .guard⟩ (by simp) rfl)
        exact .skip ((wanted_some rfl rfl q68).trans rfl) (fun _ => rfl)
      · cases d2
        · have q68 : A_.tmps[68]? = some (.bool false) := hI.val_ (i := 14) rfl rfl (by decide) (hdep ⟨14, .guard⟩ (by simp) rfl)
          exact .skip ((wanted_some rfl rfl q68).trans rfl) (fun _ => rfl)
        · have q68 : A_.tmps[68]? = some (.bool true) := hI.val_ (i := 14) rfl rfl (by decide) (hdep ⟨14, .guard⟩ (by simp) rfl)
          have e73 : A_.tmps[73]?.getD undef = .int .i64 e13 := getD_of (hI.val_ (i := 19) rfl rfl (by decide) (hdep ⟨19, .data⟩ (by simp) rfl))
          clear hI hdep
          exact .run ((wanted_some rfl rfl q68).trans rfl) (.bool d3) w3 (by simp [execOp, go_sem, Act.eval, *]) (Below.refl _ _) rfl
    · simp only [List.getElem?_toArray, List.getElem?_cons_succ, List.getElem?_cons_zero, Option.some.injEq] at ho
      subst ho
      refine ⟨rfl, ?_⟩
      cases d1
      · cases d2
        · have e68 : A_.tmps[68]?.getD undef = .bool false := getD_of (hI.val_ (i := 14) rfl rfl (by decide) (hdep ⟨14, .data⟩ (by simp) rfl))
          have e74 : A_.tmps[74]?.getD undef = undef := getD_of (hI.val_ (i := 20) rfl rfl (by decide) (hdep ⟨20, .data⟩ (by simp) rfl))
          clear hI hdep
          exact .run rfl (.bool false) w3 (by simp [execOp, go_sem, Act.eval, e68, e74]) (Below.refl _ _) rfl
        · have e68 : A_.tmps[68]?.getD undef = .bool false := getD_of (hI.val_ (i := 14) rfl rfl (by decide) (hdep ⟨14, .data⟩ (by simp) rfl))
          have e74 : A_.tmps[74]?.getD undef = undef := getD_of (hI.val_ (i := 20) rfl rfl (by decide) (hdep ⟨20, .data⟩ (by simp) rfl))
          clear hI hdep
          exact .run rfl (.bool false) w3 (by simp [execOp, go_sem, Act.eval, e68, e74]) (Below.refl _ _) rfl
      · cases d2
        · have e68 : A_.tmps[68]?.getD undef = .bool false := getD_of (hI.val_ (i := 14) rfl rfl (by decide) (hdep ⟨14, .data⟩ (by simp) rfl))
          have e74 : A_.tmps[74]?.getD undef = undef := getD_of (hI.val_ (i := 20) rfl rfl (by decide) (hdep ⟨20, .data⟩ (by simp) rfl))
          clear hI hdep
          exact .run rfl (.bool false) w3 (by simp [execOp, go_sem, Act.eval, e68, e74]) (Below.refl _ _) rfl
        · have e68 : A_.tmps[68]?.getD undef = .bool true := getD_of (hI.val_ (i := 14) rfl rfl (by decide) (hdep ⟨14, .data⟩ (by simp) rfl))
          have e74 : A_.tmps[74]?.getD undef = .bool d3 := getD_of (hI.val_ (i := 20) rfl rfl (by decide) (hdep ⟨20, .data⟩ (by simp) rfl))
          clear hI hdep
          exact .run rfl (.bool d3) w3 (by simp [execOp, go_sem, Act.eval, e68, e74]) (Below.refl _ _) rfl
  case fin =>
  intro A_ w3 hs hd hlow hS hok
  obtain ⟨y61, hy61, _⟩ := hok 7 61 _ (by decide) rfl rfl
  obtain ⟨y62, hy62, _⟩ := hok 8 62 _ (by decide) rfl rfl
  obtain ⟨y63, hy63, _⟩ := hok 9 63 _ (by decide) rfl rfl
  obtain ⟨y64, hy64, _⟩ := hok 10 64 _ (by decide) rfl rfl
  obtain ⟨y65, hy65, _⟩ := hok 11 65 _ (by decide) rfl rfl
  obtain ⟨y66, hy66, _⟩ := hok 12 66 _ (by decide) rfl rfl
  obtain ⟨y69, hy69, _⟩ := hok 15 69 _ (by decide) rfl rfl
  obtain ⟨y70, hy70, _⟩ := hok 16 70 _ (by decide) rfl rfl
  obtain ⟨y71, hy71, _⟩ := hok 17 71 _ (by decide) rfl rfl
  obtain ⟨y72, hy72, _⟩ := hok 18 72 _ (by decide) rfl rfl
  obtain ⟨y73, hy73, _⟩ := hok 19 73 _ (by decide) rfl rfl
  obtain ⟨y74, hy74, _⟩ := hok 20 74 _ (by decide) rfl rfl
  obtain rfl : A_ = ⟨#[.slice A1 n1 k1, .slice A2 n2 k2, .slice A3 n3 k3, undef, undef, undef, .bool false, .pointer (some ⟨v1.heap.size, 0, none⟩), .pointer (some ⟨v2.heap.size, 0, none⟩), .pointer (some ⟨v3.heap.size, 0, none⟩), .slice A1 n1 k1, .agg #[.int .i64 ek1, .int .i64 en1, .int .i64 ea1, .int .i64 ec1, .int .i64 eh1, .int .i64 et1, .int .i64 ei1, .int .i64 ep1, .slice B1 m1 c1, .bool false, .slice none 0 0], .slice A2 n2 k2, .agg #[.int .i64 ek2, .int .i64 en2, .int .i64 ea2, .int .i64 ec2, .int .i64 eh2, .int .i64 et2, .int .i64 ei2, .int .i64 ep2, .slice B2 m2 c2, .bool false, .slice none 0 0], .slice A3 n3 k3, .agg #[.int .i64 ek3, .int .i64 en3, .int .i64 ea3, .int .i64 ec3, .int .i64 eh3, .int .i64 et3, .int .i64 ei3, .int .i64 ep3, .slice B3 m3 c3, .bool false, .slice none 0 0], .agg #[.int .i64 ek1, .int .i64 en1, .int .i64 ea1, .int .i64 ec1, .int .i64 eh1, .int .i64 et1, .int .i64 ei1, .int .i64 ep1, .slice B1 m1 c1, .bool false, .slice none 0 0], .agg #[.int .i64 ek2, .int .i64 en2, .int .i64 ea2, .int .i64 ec2, .int .i64 eh2, .int .i64 et2, .int .i64 ei2, .int .i64 ep2, .slice B2 m2 c2, .bool false, .slice none 0 0], .int .i64 r12, .agg #[.int .i64 ek2, .int .i64 en2, .int .i64 ea2, .int .i64 ec2, .int .i64 eh2, .int .i64 et2, .int .i64 ei2, .int .i64 ep2, .slice B2 m2 c2, .bool false, .slice none 0 0], .agg #[.int .i64 ek1, .int .i64 en1, .int .i64 ea1, .int .i64 ec1, .int .i64 eh1, .int .i64 et1, .int .i64 ei1, .int .i64 ep1, .slice B1 m1 c1, .bool false, .slice none 0 0], .int .i64 r21, .int .i64 r12, .bool false, .bool false, .pointer (some ⟨v1.heap.size, 0, none⟩), .agg #[.int .i64 ek1, .int .i64 en1, .int .i64 ea1, .int .i64 ec1, .int .i64 eh1, .int .i64 et1, .int .i64 ei1, .int .i64 ep1], .pointer (some ⟨v2.heap.size, 0, none⟩), .agg #[.int .i64 ek2, .int .i64 en2, .int .i64 ea2, .int .i64 ec2, .int .i64 eh2, .int .i64 et2, .int .i64 ei2, .int .i64 ep2], .int .i64 e12, .pointer (some ⟨v2.heap.size, 0, none⟩), .agg #[.int .i64 ek2, .int .i64 en2, .int .i64 ea2, .int .i64 ec2, .int .i64 eh2, .int .i64 et2, .int .i64 ei2, .int .i64 ep2], .pointer (some ⟨v1.heap.size, 0, none⟩), .agg #[.int .i64 ek1, .int .i64 en1, .int .i64 ea1, .int .i64 ec1, .int .i64 eh1, .int .i64 et1, .int .i64 ei1, .int .i64 ep1], .int .i64 e21, .int .i64 e12, .bool false, .bool false, .agg #[.int .i64 ek1, .int .i64 en1, .int .i64 ea1, .int .i64 ec1, .int .i64 eh1, .int .i64 et1, .int .i64 ei1, .int .i64 ep1, .slice B1 m1 c1, .bool false, .slice none 0 0], .agg #[.int .i64 ek2, .int .i64 en2, .int .i64 ea2, .int .i64 ec2, .int .i64 eh2, .int .i64 et2, .int .i64 ei2, .int .i64 ep2, .slice B2 m2 c2, .bool false, .slice none 0 0], .int .i64 r12, .bool b1, .bool b1, y43, y44, y45, y46, .bool (b1 && b2), .bool (b1 && b2), y49, y50, y51, y52, .bool false, .pointer (some ⟨v1.heap.size, 0, none⟩), .agg #[.int .i64 ek1, .int .i64 en1, .int .i64 ea1, .int .i64 ec1, .int .i64 eh1, .int .i64 et1, .int .i64 ei1, .int .i64 ep1], .pointer (some ⟨v2.heap.size, 0, none⟩), .agg #[.int .i64 ek2, .int .i64 en2, .int .i64 ea2, .int .i64 ec2, .int .i64 eh2, .int .i64 et2, .int .i64 ei2, .int .i64 ep2], .int .i64 e12, .bool d1, .bool d1, y61, y62, y63, y64, y65, y66, .bool (d1 && d2), .bool (d1 && d2), y69, y70, y71, y72, y73, y74, .bool ((d1 && d2) && d3), undef, undef, undef, undef, undef, undef, undef, undef, undef, undef, undef, undef, undef, undef, undef, undef, undef, undef, undef, undef, undef], []⟩ := act_ext hd hs (fun j hj => match j, hj with | 0, _ => (hlow 0 (by decide)).trans rfl | 1, _ => (hlow 1 (by decide)).trans rfl | 2, _ => (hlow 2 (by decide)).trans rfl | 3, _ => (hlow 3 (by decide)).trans rfl | 4, _ => (hlow 4 (by decide)).trans rfl | 5, _ => (hlow 5 (by decide)).trans rfl | 6, _ => (hlow 6 (by decide)).trans rfl | 7, _ => (hlow 7 (by decide)).trans rfl | 8, _ => (hlow 8 (by decide)).trans rfl | 9, _ => (hlow 9 (by decide)).trans rfl | 10, _ => (hlow 10 (by decide)).trans rfl | 11, _ => (hlow 11 (by decide)).trans rfl | 12, _ => (hlow 12 (by decide)).trans rfl | 13, _ => (hlow 13 (by decide)).trans rfl | 14, _ => (hlow 14 (by decide)).trans rfl | 15, _ => (hlow 15 (by decide)).trans rfl | 16, _ => (hlow 16 (by decide)).trans rfl | 17, _ => (hlow 17 (by decide)).trans rfl | 18, _ => (hlow 18 (by decide)).trans rfl | 19, _ => (hlow 19 (by decide)).trans rfl | 20, _ => (hlow 20 (by decide)).trans rfl | 21, _ => (hlow 21 (by decide)).trans rfl | 22, _ => (hlow 22 (by decide)).trans rfl | 23, _ => (hlow 23 (by decide)).trans rfl | 24, _ => (hlow 24 (by decide)).trans rfl | 25, _ => (hlow 25 (by decide)).trans rfl | 26, _ => (hlow 26 (by decide)).trans rfl | 27, _ => (hlow 27 (by decide)).trans rfl | 28, _ => (hlow 28 (by decide)).trans rfl | 29, _ => (hlow 29 (by decide)).trans rfl | 30, _ => (hlow 30 (by decide)).trans rfl | 31, _ => (hlow 31 (by decide)).trans rfl | 32, _ => (hlow 32 (by decide)).trans rfl | 33, _ => (hlow 33 (by decide)).trans rfl | 34, _ => (hlow 34 (by decide)).trans rfl | 35, _ => (hlow 35 (by decide)).trans rfl | 36, _ => (hlow 36 (by decide)).trans rfl | 37, _ => (hlow 37 (by decide)).trans rfl | 38, _ => (hlow 38 (by decide)).trans rfl | 39, _ => (hlow 39 (by decide)).trans rfl | 40, _ => (hlow 40 (by decide)).trans rfl | 41, _ => (hlow 41 (by decide)).trans rfl | 42, _ => (hlow 42 (by decide)).trans rfl | 43, _ => (hlow 43 (by decide)).trans rfl | 44, _ => (hlow 44 (by decide)).trans rfl | 45, _ => (hlow 45 (by decide)).trans rfl | 46, _ => (hlow 46 (by decide)).trans rfl | 47, _ => (hlow 47 (by decide)).trans rfl | 48, _ => (hlow 48 (by decide)).trans rfl | 49, _ => (hlow 49 (by decide)).trans rfl | 50, _ => (hlow 50 (by decide)).trans rfl | 51, _ => (hlow 51 (by decide)).trans rfl | 52, _ => (hlow 52 (by decide)).trans rfl | 53, _ => (hlow 53 (by decide)).trans rfl | 54, _ => RgX.val_at (hok 0 54 _ (by decide) rfl rfl) | 55, _ => RgX.val_at (hok 1 55 _ (by decide) rfl rfl) | 56, _ => RgX.val_at (hok 2 56 _ (by decide) rfl rfl) | 57, _ => RgX.val_at (hok 3 57 _ (by decide) rfl rfl) | 58, _ => RgX.val_at (hok 4 58 _ (by decide) rfl rfl) | 59, _ => RgX.val_at (hok 5 59 _ (by decide) rfl rfl) | 60, _ => RgX.val_at (hok 6 60 _ (by decide) rfl rfl) | 61, _ => hy61 | 62, _ => hy62 | 63, _ => hy63 | 64, _ => hy64 | 65, _ => hy65 | 66, _ => hy66 | 67, _ => RgX.val_at (hok 13 67 _ (by decide) rfl rfl) | 68, _ => RgX.val_at (hok 14 68 _ (by decide) rfl rfl) | 69, _ => hy69 | 70, _ => hy70 | 71, _ => hy71 | 72, _ => hy72 | 73, _ => hy73 | 74, _ => hy74 | 75, _ => RgX.val_at (hok 21 75 _ (by decide) rfl rfl) | 76, _ => (hlow 76 (by decide)).trans rfl | 77, _ => (hlow 77 (by decide)).trans rfl | 78, _ => (hlow 78 (by decide)).trans rfl | 79, _ => (hlow 79 (by decide)).trans rfl | 80, _ => (hlow 80 (by decide)).trans rfl | 81, _ => (hlow 81 (by decide)).trans rfl | 82, _ => (hlow 82 (by decide)).trans rfl | 83, _ => (hlow 83 (by decide)).trans rfl | 84, _ => (hlow 84 (by decide)).trans rfl | 85, _ => (hlow 85 (by decide)).trans rfl | 86, _ => (hlow 86 (by decide)).trans rfl | 87, _ => (hlow 87 (by decide)).trans rfl | 88, _ => (hlow 88 (by decide)).trans rfl | 89, _ => (hlow 89 (by decide)).trans rfl | 90, _ => (hlow 90 (by decide)).trans rfl | 91, _ => (hlow 91 (by decide)).trans rfl | 92, _ => (hlow 92 (by decide)).trans rfl | 93, _ => (hlow 93 (by decide)).trans rfl | 94, _ => (hlow 94 (by decide)).trans rfl | 95, _ => (hlow 95 (by decide)).trans rfl | 96, _ => (hlow 96 (by decide)).trans rfl | n + 97, h => absurd h (by show ¬ n + 97 < 97; omega))
  clear hs hd hlow hok hy61 hy62 hy63 hy64 hy65 hy66 hy69 hy70 hy71 hy72 hy73 hy74
  rw [t2]
  have S8 := Lib.hid (S6.out.trans (hS.mono S6.out.size))
  have B8 := Lib.hid (B6.out.trans (hS.mono B6.out.size))
  clear hS t2 hd1 hd2 hd3
  obtain ⟨W8, hW8⟩ : ∃ W, W = w3 := ⟨_, rfl⟩
  subst hW8
  go_wp2_with fail
  refine RgX.region 22 (fun i => (if i = 21 then 6 else 76 + i)) (fun ix_ => match ix_ with | 0 => .v (.pointer (some ⟨v1.heap.size, 0, none⟩)) | 1 => .v (.agg #[.int .i64 ek1, .int .i64 en1, .int .i64 ea1, .int .i64 ec1, .int .i64 eh1, .int .i64 et1, .int .i64 ei1, .int .i64 ep1]) | 2 => .v (.pointer (some ⟨v2.heap.size, 0, none⟩)) | 3 => .v (.agg #[.int .i64 ek2, .int .i64 en2, .int .i64 ea2, .int .i64 ec2, .int .i64 eh2, .int .i64 et2, .int .i64 ei2, .int .i64 ep2]) | 4 => .v (.int .i64 e12) | 5 => .v (.bool q) | 6 => .v (.pointer (some ⟨v1.heap.size, 0, none⟩)) | 7 => .v (.agg #[.int .i64 ek1, .int .i64 en1, .int .i64 ea1, .int .i64 ec1, .int .i64 eh1, .int .i64 et1, .int .i64 ei1, .int .i64 ep1]) | 8 => .v (.pointer (some ⟨v2.heap.size, 0, none⟩)) | 9 => .v (.agg #[.int .i64 ek2, .int .i64 en2, .int .i64 ea2, .int .i64 ec2, .int .i64 eh2, .int .i64 et2, .int .i64 ei2, .int .i64 ep2]) | 10 => .v (.bool q) | 11 => .v (.bool true) | 12 => .v (.bool true) | 13 => .v (.agg #[.int .i64 ek1, .int .i64 en1, .int .i64 ea1, .int .i64 ec1, .int .i64 eh1, .int .i64 et1, .int .i64 ei1, .int .i64 ep1, .slice B1 m1 c1, .bool false, .slice none 0 0]) | 14 => .v (.agg #[.int .i64 ek1, .int .i64 en1, .int .i64 ea1, .int .i64 ec1, .int .i64 eh1, .int .i64 et1, .int .i64 ei1, .int .i64 ep1, .slice B1 m1 c1, .bool false, .slice none 0 0]) | 15 => .v (.int .i64 0) | 16 => .v (.bool true) | 17 => .v (.bool true) | 18 => .v (.bool true) | 19 => .v (.bool true) | 20 => .v (.bool true) | 21 => .v (.bool true) | _ => .any) (by kernel_rfl) rfl (by kernel_rfl)  (fun i hi => by show (if i = 21 then 6 else 76 + i) < 97; (repeat' split) <;> omega) (fun i j hi hj => by show (if i = 21 then 6 else 76 + i) = (if j = 21 then 6 else 76 + j) → i = j; (repeat' split) <;> omega) ?step ?fin
  case step =>
    intro L_ A_ w3 ix op_ hI ho hdep
    have hi : ix < 22 := (Array.getElem?_eq_some_iff.1 ho).1
    have hcase : ix = 0 ∨ ix = 1 ∨ ix = 2 ∨ ix = 3 ∨ ix = 4 ∨ ix = 5 ∨ ix = 6 ∨ ix = 7 ∨ ix = 8 ∨ ix = 9 ∨ ix = 10 ∨ ix = 11 ∨ ix = 12 ∨ ix = 13 ∨ ix = 14 ∨ ix = 15 ∨ ix = 16 ∨ ix = 17 ∨ ix = 18 ∨ ix = 19 ∨ ix = 20 ∨ ix = 21 := by omega
    have hh := hI.held
    clear hi
    rcases hcase with rfl | rfl | rfl | rfl | rfl | rfl | rfl | rfl | rfl | rfl | rfl | rfl | rfl | rfl | rfl | rfl | rfl | rfl | rfl | rfl | rfl | rfl
    · simp only [List.getElem?_toArray, List.getElem?_cons_zero, Option.some.injEq] at ho
      subst ho
      refine ⟨rfl, ?_⟩
      have e7 : A_.tmps[7]?.getD undef = .pointer (some ⟨v1.heap.size, 0, none⟩) := by rw [hI.low 7 (by decide)]; rfl
      clear hI hdep
      exact .run rfl (.pointer (some ⟨v1.heap.size, 0, none⟩)) w3 (by simp [execOp, go_sem, Act.eval, e7]) (Below.refl _ _) rfl
    · simp only [List.getElem?_toArray, List.getElem?_cons_succ, List.getElem?_cons_zero, Option.some.injEq] at ho
      subst ho
      refine ⟨rfl, ?_⟩
      have e76 : A_.tmps[76]?.getD undef = .pointer (some ⟨v1.heap.size, 0, none⟩) := getD_of (hI.val_ (i := 0) rfl rfl (by decide) (hdep ⟨0, .data⟩ (by simp) rfl))
      clear hI hdep
      obtain ⟨⟨fa0, fa1, fa2, fa3, fa4, fa5, fa6, fa7, fa8, fa9, fa10⟩, ⟨fb0, fb1, fb2, fb3, fb4, fb5, fb6, fb7, fb8, fb9, fb10⟩, fc0, fc1, fc2, fc3, fc4, fc5, fc6, fc7, fc8, fc9, fc10⟩ := HK.out w3 (S8.out.trans (hh.mono S8.out.size))
      exact .run rfl (.agg #[.int .i64 ek1, .int .i64 en1, .int .i64 ea1, .int .i64 ec1, .int .i64 eh1, .int .i64 et1, .int .i64 ei1, .int .i64 ep1]) w3 (by simp [execOp, go_sem, Act.eval, *]) (Below.refl _ _) rfl
    · simp only [List.getElem?_toArray, List.getElem?_cons_succ, List.getElem?_cons_zero, Option.some.injEq] at ho
      subst ho
      refine ⟨rfl, ?_⟩
      have e8 : A_.tmps[8]?.getD undef = .pointer (some ⟨v2.heap.size, 0, none⟩) := by rw [hI.low 8 (by decide)]; rfl
      clear hI hdep
      exact .run rfl (.pointer (some ⟨v2.heap.size, 0, none⟩)) w3 (by simp [execOp, go_sem, Act.eval, e8]) (Below.refl _ _) rfl
    · simp only [List.getElem?_toArray, List.getElem?_cons_succ, List.getElem?_cons_zero, Option.some.injEq] at ho
      subst ho
      refine ⟨rfl, ?_⟩
      have e78 : A_.tmps[78]?.getD undef = .pointer (some ⟨v2.heap.size, 0, none⟩) := getD_of (hI.val_ (i := 2) rfl rfl (by decide) (hdep ⟨2, .data⟩ (by simp) rfl))
      clear hI hdep
      obtain ⟨⟨fa0, fa1, fa2, fa3, fa4, fa5, fa6, fa7, fa8, fa9, fa10⟩, ⟨fb0, fb1, fb2, fb3, fb4, fb5, fb6, fb7, fb8, fb9, fb10⟩, fc0, fc1, fc2, fc3, fc4, fc5, fc6, fc7, fc8, fc9, fc10⟩ := HK.out w3 (S8.out.trans (hh.mono S8.out.size))
      exact .run rfl (.agg #[.int .i64 ek2, .int .i64 en2, .int .i64 ea2, .int .i64 ec2, .int .i64 eh2, .int .i64 et2, .int .i64 ei2, .int .i64 ep2]) w3 (by simp [execOp, go_sem, Act.eval, *]) (Below.refl _ _) rfl
    · simp only [List.getElem?_toArray, List.getElem?_cons_succ, List.getElem?_cons_zero, Option.some.injEq] at ho
      subst ho
      refine ⟨rfl, ?_⟩
      have e77 : A_.tmps[77]?.getD undef = .agg #[.int .i64 ek1, .int .i64 en1, .int .i64 ea1, .int .i64 ec1, .int .i64 eh1, .int .i64 et1, .int .i64 ei1, .int .i64 ep1] := getD_of (hI.val_ (i := 1) rfl rfl (by decide) (hdep ⟨1, .data⟩ (by simp) rfl))
      have e79 : A_.tmps[79]?.getD undef = .agg #[.int .i64 ek2, .int .i64 en2, .int .i64 ea2, .int .i64 ec2, .int .i64 eh2, .int .i64 et2, .int .i64 ei2, .int .i64 ep2] := getD_of (hI.val_ (i := 3) rfl rfl (by decide) (hdep ⟨3, .data⟩ (by simp) rfl))
      clear hI hdep
      exact .call rfl 6 #[.agg #[.int .i64 ek1, .int .i64 en1, .int .i64 ea1, .int .i64 ec1, .int .i64 eh1, .int .i64 et1, .int .i64 ei1, .int .i64 ep1], .agg #[.int .i64 ek2, .int .i64 en2, .int .i64 ea2, .int .i64 ec2, .int .i64 eh2, .int .i64 et2, .int .i64 ei2, .int .i64 ep2]] (by simp [go_sem, Act.eval, e77, e79]) ((HE12.out w3).mono fun _ _ ⟨h1_, h2_⟩ => ⟨⟨_, h1_, rfl⟩, h2_⟩)
    · simp only [List.getElem?_toArray, List.getElem?_cons_succ, List.getElem?_cons_zero, Option.some.injEq] at ho
      subst ho
      refine ⟨rfl, ?_⟩
      have e80 : A_.tmps[80]?.getD undef = .int .i64 e12 := getD_of (hI.val_ (i := 4) rfl rfl (by decide) (hdep ⟨4, .data⟩ (by simp) rfl))
      clear hI hdep
      have hq : (e12 == 0) = q := HQ.out
      exact .run rfl (.bool q) w3 (by simp [execOp, go_sem, Act.eval, *]) (Below.refl _ _) rfl
    · simp only [List.getElem?_toArray, List.getElem?_cons_succ, List.getElem?_cons_zero, Option.some.injEq] at ho
      subst ho
      refine ⟨rfl, ?_⟩
      have e7 : A_.tmps[7]?.getD undef = .pointer (some ⟨v1.heap.size, 0, none⟩) := by rw [hI.low 7 (by decide)]; rfl
      clear hI hdep
      exact .run rfl (.pointer (some ⟨v1.heap.size, 0, none⟩)) w3 (by simp [execOp, go_sem, Act.eval, e7]) (Below.refl _ _) rfl
    · simp only [List.getElem?_toArray, List.getElem?_cons_succ, List.getElem?_cons_zero, Option.some.injEq] at ho
      subst ho
      refine ⟨rfl, ?_⟩
      have e82 : A_.tmps[82]?.getD undef = .pointer (some ⟨v1.heap.size, 0, none⟩) := getD_of (hI.val_ (i := 6) rfl rfl (by decide) (hdep ⟨6, .data⟩ (by simp) rfl))
      clear hI hdep
      obtain ⟨⟨fa0, fa1, fa2, fa3, fa4, fa5, fa6, fa7, fa8, fa9, fa10⟩, ⟨fb0, fb1, fb2, fb3, fb4, fb5, fb6, fb7, fb8, fb9, fb10⟩, fc0, fc1, fc2, fc3, fc4, fc5, fc6, fc7, fc8, fc9, fc10⟩ := HK.out w3 (S8.out.trans (hh.mono S8.out.size))
      exact .run rfl (.agg #[.int .i64 ek1, .int .i64 en1, .int .i64 ea1, .int .i64 ec1, .int .i64 eh1, .int .i64 et1, .int .i64 ei1, .int .i64 ep1]) w3 (by simp [execOp, go_sem, Act.eval, *]) (Below.refl _ _) rfl
    · simp only [List.getElem?_toArray, List.getElem?_cons_succ, List.getElem?_cons_zero, Option.some.injEq] at ho
      subst ho
      refine ⟨rfl, ?_⟩
      have e8 : A_.tmps[8]?.getD undef = .pointer (some ⟨v2.heap.size, 0, none⟩) := by rw [hI.low 8 (by decide)]; rfl
      clear hI hdep
      exact .run rfl (.pointer (some ⟨v2.heap.size, 0, none⟩)) w3 (by simp [execOp, go_sem, Act.eval, e8]) (Below.refl _ _) rfl
    · simp only [List.getElem?_toArray, List.getElem?_cons_succ, List.getElem?_cons_zero, Option.some.injEq] at ho
      subst ho
      refine ⟨rfl, ?_⟩
      have e84 : A_.tmps[84]?.getD undef = .pointer (some ⟨v2.heap.size, 0, none⟩) := getD_of (hI.val_ (i := 8) rfl rfl (by decide) (hdep ⟨8, .data⟩ (by simp) rfl))
      clear hI hdep
      obtain ⟨⟨fa0, fa1, fa2, fa3, fa4, fa5, fa6, fa7, fa8, fa9, fa10⟩, ⟨fb0, fb1, fb2, fb3, fb4, fb5, fb6, fb7, fb8, fb9, fb10⟩, fc0, fc1, fc2, fc3, fc4, fc5, fc6, fc7, fc8, fc9, fc10⟩ := HK.out w3 (S8.out.trans (hh.mono S8.out.size))
      exact .run rfl (.agg #[.int .i64 ek2, .int .i64 en2, .int .i64 ea2, .int .i64 ec2, .int .i64 eh2, .int .i64 et2, .int .i64 ei2, .int .i64 ep2]) w3 (by simp [execOp, go_sem, Act.eval, *]) (Below.refl _ _) rfl
    · simp only [List.getElem?_toArray, List.getElem?_cons_succ, List.getElem?_cons_zero, Option.some.injEq] at ho
      subst ho
      refine ⟨rfl, ?_⟩
      have e83 : A_.tmps[83]?.getD undef = .agg #[.int .i64 ek1, .int .i64 en1, .int .i64 ea1, .int .i64 ec1, .int .i64 eh1, .int .i64 et1, .int .i64 ei1, .int .i64 ep1] := getD_of (hI.val_ (i := 7) rfl rfl (by decide) (hdep ⟨7, .data⟩ (by simp) rfl))
      have e85 : A_.tmps[85]?.getD undef = .agg #[.int .i64 ek2, .int .i64 en2, .int .i64 ea2, .int .i64 ec2, .int .i64 eh2, .int .i64 et2, .int .i64 ei2, .int .i64 ep2] := getD_of (hI.val_ (i := 9) rfl rfl (by decide) (hdep ⟨9, .data⟩ (by simp) rfl))
      clear hI hdep
      have heq := HEQ.out
      exact .run rfl (.bool q) w3 (by simp [execOp, go_sem, Act.eval, *]) (Below.refl _ _) rfl
    · simp only [List.getElem?_toArray, List.getElem?_cons_succ, List.getElem?_cons_zero, Option.some.injEq] at ho
      subst ho
      refine ⟨rfl, ?_⟩
      have e81 : A_.tmps[81]?.getD undef = .bool q := getD_of (hI.val_ (i := 5) rfl rfl (by decide) (hdep ⟨5, .data⟩ (by simp) rfl))
      have e86 : A_.tmps[86]?.getD undef = .bool q := getD_of (hI.val_ (i := 10) rfl rfl (by decide) (hdep ⟨10, .data⟩ (by simp) rfl))
      clear hI hdep
      exact .run rfl (.bool true) w3 (by simp [execOp, go_sem, Act.eval, *]) (Below.refl _ _) rfl
    · simp only [List.getElem?_toArray, List.getElem?_cons_succ, List.getElem?_cons_zero, Option.some.injEq] at ho
      subst ho
      refine ⟨rfl, ?_⟩
      have e87 : A_.tmps[87]?.getD undef = .bool true := getD_of (hI.val_ (i := 11) rfl rfl (by decide) (hdep ⟨11, .data⟩ (by simp) rfl))
      clear hI hdep
      exact .run rfl (.bool true) w3 (by simp [execOp, go_sem, Act.eval, e87]) (Below.refl _ _) rfl
    · simp only [List.getElem?_toArray, List.getElem?_cons_succ, List.getElem?_cons_zero, Option.some.injEq] at ho
      subst ho
      refine ⟨rfl, ?_⟩
      have q88 : A_.tmps[88]? = some (.bool true) := hI.val_ (i := 12) rfl rfl (by decide) (hdep ⟨12, .guard⟩ (by simp) rfl)
      have e7 : A_.tmps[7]?.getD undef = .pointer (some ⟨v1.heap.size, 0, none⟩) := by rw [hI.low 7 (by decide)]; rfl
      clear hI hdep
      obtain ⟨⟨fa0, fa1, fa2, fa3, fa4, fa5, fa6, fa7, fa8, fa9, fa10⟩, ⟨fb0, fb1, fb2, fb3, fb4, fb5, fb6, fb7, fb8, fb9, fb10⟩, fc0, fc1, fc2, fc3, fc4, fc5, fc6, fc7, fc8, fc9, fc10⟩ := HK.out w3 (S8.out.trans (hh.mono S8.out.size))
      exact .run ((wanted_some rfl rfl q88).trans rfl) (.agg #[.int .i64 ek1, .int .i64 en1, .int .i64 ea1, .int .i64 ec1, .int .i64 eh1, .int .i64 et1, .int .i64 ei1, .int .i64 ep1, .slice B1 m1 c1, .bool false, .slice none 0 0]) w3 (by simp [execOp, go_sem, Act.eval, *]) (Below.refl _ _) rfl
    · simp only [List.getElem?_toArray, List.getElem?_cons_succ, List.getElem?_cons_zero, Option.some.injEq] at ho
      subst ho
      refine ⟨rfl, ?_⟩
      have q88 : A_.tmps[88]? = some (.bool true) := hI.val_ (i := 12) rfl rfl (by decide) (hdep ⟨12, .guard⟩ (by simp) rfl)
      have e7 : A_.tmps[7]?.getD undef = .pointer (some ⟨v1.heap.size, 0, none⟩) := by rw [hI.low 7 (by decide)]; rfl
      clear hI hdep
      obtain ⟨⟨fa0, fa1, fa2, fa3, fa4, fa5, fa6, fa7, fa8, fa9, fa10⟩, ⟨fb0, fb1, fb2, fb3, fb4, fb5, fb6, fb7, fb8, fb9, fb10⟩, fc0, fc1, fc2, fc3, fc4, fc5, fc6, fc7, fc8, fc9, fc10⟩ := HK.out w3 (S8.out.trans (hh.mono S8.out.size))
      exact .run ((wanted_some rfl rfl q88).trans rfl) (.agg #[.int .i64 ek1, .int .i64 en1, .int .i64 ea1, .int .i64 ec1, .int .i64 eh1, .int .i64 et1, .int .i64 ei1, .int .i64 ep1, .slice B1 m1 c1, .bool false, .slice none 0 0]) w3 (by simp [execOp, go_sem, Act.eval, *]) (Below.refl _ _) rfl
    · simp only [List.getElem?_toArray, List.getElem?_cons_succ, List.getElem?_cons_zero, Option.some.injEq] at ho
      subst ho
      refine ⟨rfl, ?_⟩
      have q88 : A_.tmps[88]? = some (.bool true) := hI.val_ (i := 12) rfl rfl (by decide) (hdep ⟨12, .guard⟩ (by simp) rfl)
      have e89 : A_.tmps[89]?.getD undef = .agg #[.int .i64 ek1, .int .i64 en1, .int .i64 ea1, .int .i64 ec1, .int .i64 eh1, .int .i64 et1, .int .i64 ei1, .int .i64 ep1, .slice B1 m1 c1, .bool false, .slice none 0 0] := getD_of (hI.val_ (i := 13) rfl rfl (by decide) (hdep ⟨13, .data⟩ (by simp) rfl))
      have e90 : A_.tmps[90]?.getD undef = .agg #[.int .i64 ek1, .int .i64 en1, .int .i64 ea1, .int .i64 ec1, .int .i64 eh1, .int .i64 et1, .int .i64 ei1, .int .i64 ep1, .slice B1 m1 c1, .bool false, .slice none 0 0] := getD_of (hI.val_ (i := 14) rfl rfl (by decide) (hdep ⟨14, .data⟩ (by simp) rfl))
      clear hI hdep
      exact .call ((wanted_some rfl rfl q88).trans rfl) 13 #[.agg #[.int .i64 ek1, .int .i64 en1, .int .i64 ea1, .int .i64 ec1, .int .i64 eh1, .int .i64 et1, .int .i64 ei1, .int .i64 ep1, .slice B1 m1 c1, .bool false, .slice none 0 0], .agg #[.int .i64 ek1, .int .i64 en1, .int .i64 ea1, .int .i64 ec1, .int .i64 eh1, .int .i64 et1, .int .i64 ei1, .int .i64 ep1, .slice B1 m1 c1, .bool false, .slice none 0 0]] (by simp [go_sem, Act.eval, e89, e90]) ((HS11.out w3 (S8.out.trans (hh.mono S8.out.size))).mono fun _ _ ⟨h1_, h2_⟩ => ⟨⟨_, h1_, rfl⟩, h2_⟩)
    · simp only [List.getElem?_toArray, List.getElem?_cons_succ, List.getElem?_cons_zero, Option.some.injEq] at ho
      subst ho
      refine ⟨rfl, ?_⟩
      have q88 : A_.tmps[88]? = some (.bool true) := hI.val_ (i := 12) rfl rfl (by decide) (hdep ⟨12, .guard⟩ (by simp) rfl)
      have e91 : A_.tmps[91]?.getD undef = .int .i64 0 := getD_of (hI.val_ (i := 15) rfl rfl (by decide) (hdep ⟨15, .data⟩ (by simp) rfl))
      clear hI hdep
      exact .run ((wanted_some rfl rfl q88).trans rfl) (.bool true) w3 (by simp [execOp, go_sem, Act.eval, *]) (Below.refl _ _) rfl
    · simp only [List.getElem?_toArray, List.getElem?_cons_succ, List.getElem?_cons_zero, Option.some.injEq] at ho
      subst ho
      refine ⟨rfl, ?_⟩
      have e88 : A_.tmps[88]?.getD undef = .bool true := getD_of (hI.val_ (i := 12) rfl rfl (by decide) (hdep ⟨12, .data⟩ (by simp) rfl))
      have e92 : A_.tmps[92]?.getD undef = .bool true := getD_of (hI.val_ (i := 16) rfl rfl (by decide) (hdep ⟨16, .data⟩ (by simp) rfl))
      clear hI hdep
      exact .run rfl (.bool true) w3 (by simp [execOp, go_sem, Act.eval, e88, e92]) (Below.refl _ _) rfl
    · simp only [List.getElem?_toArray, List.getElem?_cons_succ, List.getElem?_cons_zero, Option.some.injEq] at ho
      subst ho
      refine ⟨rfl, ?_⟩
      have e93 : A_.tmps[93]?.getD undef = .bool true := getD_of (hI.val_ (i := 17) rfl rfl (by decide) (hdep ⟨17, .data⟩ (by simp) rfl))
      clear hI hdep
      exact .run rfl (.bool true) w3 (by simp [execOp, go_sem, Act.eval, e93]) (Below.refl _ _) rfl
    · simp only [List.getElem?_toArray, List.getElem?_cons_succ, List.getElem?_cons_zero, Option.some.injEq] at ho
      subst ho
      refine ⟨rfl, ?_⟩
      have q94 : A_.tmps[94]? = some (.bool true) := hI.val_ (i := 18) rfl rfl (by decide) (hdep ⟨18, .guard⟩ (by simp) rfl)
      clear hI hdep
      exact .call ((wanted_some rfl rfl q94).trans rfl) 11 #[] (by simp [go_sem]) ((HL.out w3 (B8.out.trans (hh.mono B8.out.size))).mono fun _ _ ⟨h1_, h2_⟩ => ⟨⟨_, h1_, rfl⟩, h2_⟩)
    · simp only [List.getElem?_toArray, List.getElem?_cons_succ, List.getElem?_cons_zero, Option.some.injEq] at ho
      subst ho
      refine ⟨rfl, ?_⟩
      have e94 : A_.tmps[94]?.getD undef = .bool true := getD_of (hI.val_ (i := 18) rfl rfl (by decide) (hdep ⟨18, .data⟩ (by simp) rfl))
      have e95 : A_.tmps[95]?.getD undef = .bool true := getD_of (hI.val_ (i := 19) rfl rfl (by decide) (hdep ⟨19, .data⟩ (by simp) rfl))
      clear hI hdep
      exact .run rfl (.bool true) w3 (by simp [execOp, go_sem, Act.eval, e94, e95]) (Below.refl _ _) rfl
    · simp only [List.getElem?_toArray, List.getElem?_cons_succ, List.getElem?_cons_zero, Option.some.injEq] at ho
      subst ho
      refine ⟨rfl, ?_⟩
      have e96 : A_.tmps[96]?.getD undef = .bool true := getD_of (hI.val_ (i := 20) rfl rfl (by decide) (hdep ⟨20, .data⟩ (by simp) rfl))
      clear hI hdep
      exact .run rfl (.bool true) w3 (by simp [execOp, go_sem, Act.eval, e96]) (Below.refl _ _) rfl
  case fin =>
  intro A_ w3 hs hd hlow hS hok
  obtain rfl : A_ = ⟨#[.slice A1 n1 k1, .slice A2 n2 k2, .slice A3 n3 k3, undef, undef, undef, .bool true, .pointer (some ⟨v1.heap.size, 0, none⟩), .pointer (some ⟨v2.heap.size, 0, none⟩), .pointer (some ⟨v3.heap.size, 0, none⟩), .slice A1 n1 k1, .agg #[.int .i64 ek1, .int .i64 en1, .int .i64 ea1, .int .i64 ec1, .int .i64 eh1, .int .i64 et1, .int .i64 ei1, .int .i64 ep1, .slice B1 m1 c1, .bool false, .slice none 0 0], .slice A2 n2 k2, .agg #[.int .i64 ek2, .int .i64 en2, .int .i64 ea2, .int .i64 ec2, .int .i64 eh2, .int .i64 et2, .int .i64 ei2, .int .i64 ep2, .slice B2 m2 c2, .bool false, .slice none 0 0], .slice A3 n3 k3, .agg #[.int .i64 ek3, .int .i64 en3, .int .i64 ea3, .int .i64 ec3, .int .i64 eh3, .int .i64 et3, .int .i64 ei3, .int .i64 ep3, .slice B3 m3 c3, .bool false, .slice none 0 0], .agg #[.int .i64 ek1, .int .i64 en1, .int .i64 ea1, .int .i64 ec1, .int .i64 eh1, .int .i64 et1, .int .i64 ei1, .int .i64 ep1, .slice B1 m1 c1, .bool false, .slice none 0 0], .agg #[.int .i64 ek2, .int .i64 en2, .int .i64 ea2, .int .i64 ec2, .int .i64 eh2, .int .i64 et2, .int .i64 ei2, .int .i64 ep2, .slice B2 m2 c2, .bool false, .slice none 0 0], .int .i64 r12, .agg #[.int .i64 ek2, .int .i64 en2, .int .i64 ea2, .int .i64 ec2, .int .i64 eh2, .int .i64 et2, .int .i64 ei2, .int .i64 ep2, .slice B2 m2 c2, .bool false, .slice none 0 0], .agg #[.int .i64 ek1, .int .i64 en1, .int .i64 ea1, .int .i64 ec1, .int .i64 eh1, .int .i64 et1, .int .i64 ei1, .int .i64 ep1, .slice B1 m1 c1, .bool false, .slice none 0 0], .int .i64 r21, .int .i64 r12, .bool false, .bool false, .pointer (some ⟨v1.heap.size, 0, none⟩), .agg #[.int .i64 ek1, .int .i64 en1, .int .i64 ea1, .int .i64 ec1, .int .i64 eh1, .int .i64 et1, .int .i64 ei1, .int .i64 ep1], .pointer (some ⟨v2.heap.size, 0, none⟩), .agg #[.int .i64 ek2, .int .i64 en2, .int .i64 ea2, .int .i64 ec2, .int .i64 eh2, .int .i64 et2, .int .i64 ei2, .int .i64 ep2], .int .i64 e12, .pointer (some ⟨v2.heap.size, 0, none⟩), .agg #[.int .i64 ek2, .int .i64 en2, .int .i64 ea2, .int .i64 ec2, .int .i64 eh2, .int .i64 et2, .int .i64 ei2, .int .i64 ep2], .pointer (some ⟨v1.heap.size, 0, none⟩), .agg #[.int .i64 ek1, .int .i64 en1, .int .i64 ea1, .int .i64 ec1, .int .i64 eh1, .int .i64 et1, .int .i64 ei1, .int .i64 ep1], .int .i64 e21, .int .i64 e12, .bool false, .bool false, .agg #[.int .i64 ek1, .int .i64 en1, .int .i64 ea1, .int .i64 ec1, .int .i64 eh1, .int .i64 et1, .int .i64 ei1, .int .i64 ep1, .slice B1 m1 c1, .bool false, .slice none 0 0], .agg #[.int .i64 ek2, .int .i64 en2, .int .i64 ea2, .int .i64 ec2, .int .i64 eh2, .int .i64 et2, .int .i64 ei2, .int .i64 ep2, .slice B2 m2 c2, .bool false, .slice none 0 0], .int .i64 r12, .bool b1, .bool b1, y43, y44, y45, y46, .bool (b1 && b2), .bool (b1 && b2), y49, y50, y51, y52, .bool false, .pointer (some ⟨v1.heap.size, 0, none⟩), .agg #[.int .i64 ek1, .int .i64 en1, .int .i64 ea1, .int .i64 ec1, .int .i64 eh1, .int .i64 et1, .int .i64 ei1, .int .i64 ep1], .pointer (some ⟨v2.heap.size, 0, none⟩), .agg #[.int .i64 ek2, .int .i64 en2, .int .i64 ea2, .int .i64 ec2, .int .i64 eh2, .int .i64 et2, .int .i64 ei2, .int .i64 ep2], .int .i64 e12, .bool d1, .bool d1, y61, y62, y63, y64, y65, y66, .bool (d1 && d2), .bool (d1 && d2), y69, y70, y71, y72, y73, y74, .bool false, .pointer (some ⟨v1.heap.size, 0, none⟩), .agg #[.int .i64 ek1, .int .i64 en1, .int .i64 ea1, .int .i64 ec1, .int .i64 eh1, .int .i64 et1, .int .i64 ei1, .int .i64 ep1], .pointer (some ⟨v2.heap.size, 0, none⟩), .agg #[.int .i64 ek2, .int .i64 en2, .int .i64 ea2, .int .i64 ec2, .int .i64 eh2, .int .i64 et2, .int .i64 ei2, .int .i64 ep2], .int .i64 e12, .bool q, .pointer (some ⟨v1.heap.size, 0, none⟩), .agg #[.int .i64 ek1, .int .i64 en1, .int .i64 ea1, .int .i64 ec1, .int .i64 eh1, .int .i64 et1, .int .i64 ei1, .int .i64 ep1], .pointer (some ⟨v2.heap.size, 0, none⟩), .agg #[.int .i64 ek2, .int .i64 en2, .int .i64 ea2, .int .i64 ec2, .int .i64 eh2, .int .i64 et2, .int .i64 ei2, .int .i64 ep2], .bool q, .bool true, .bool true, .agg #[.int .i64 ek1, .int .i64 en1, .int .i64 ea1, .int .i64 ec1, .int .i64 eh1, .int .i64 et1, .int .i64 ei1, .int .i64 ep1, .slice B1 m1 c1, .bool false, .slice none 0 0], .agg #[.int .i64 ek1, .int .i64 en1, .int .i64 ea1, .int .i64 ec1, .int .i64 eh1, .int .i64 et1, .int .i64 ei1, .int .i64 ep1, .slice B1 m1 c1, .bool false, .slice none 0 0], .int .i64 0, .bool true, .bool true, .bool true, .bool true, .bool true], []⟩ := act_ext hd hs (fun j hj => match j, hj with | 0, _ => (hlow 0 (by decide)).trans rfl | 1, _ => (hlow 1 (by decide)).trans rfl | 2, _ => (hlow 2 (by decide)).trans rfl | 3, _ => (hlow 3 (by decide)).trans rfl | 4, _ => (hlow 4 (by decide)).trans rfl | 5, _ => (hlow 5 (by decide)).trans rfl | 6, _ => RgX.val_at (hok 21 6 _ (by decide) rfl rfl) | 7, _ => (hlow 7 (by decide)).trans rfl | 8, _ => (hlow 8 (by decide)).trans rfl | 9, _ => (hlow 9 (by decide)).trans rfl | 10, _ => (hlow 10 (by decide)).trans rfl | 11, _ => (hlow 11 (by decide)).trans rfl | 12, _ => (hlow 12 (by decide)).trans rfl | 13, _ => (hlow 13 (by decide)).trans rfl | 14, _ => (hlow 14 (by decide)).trans rfl | 15, _ => (hlow 15 (by decide)).trans rfl | 16, _ => (hlow 16 (by decide)).trans rfl | 17, _ => (hlow 17 (by decide)).trans rfl | 18, _ => (hlow 18 (by decide)).trans rfl | 19, _ => (hlow 19 (by decide)).trans rfl | 20, _ => (hlow 20 (by decide)).trans rfl | 21, _ => (hlow 21 (by decide)).trans rfl | 22, _ => (hlow 22 (by decide)).trans rfl | 23, _ => (hlow 23 (by decide)).trans rfl | 24, _ => (hlow 24 (by decide)).trans rfl | 25, _ => (hlow 25 (by decide)).trans rfl | 26, _ => (hlow 26 (by decide)).trans rfl | 27, _ => (hlow 27 (by decide)).trans rfl | 28, _ => (hlow 28 (by decide)).trans rfl | 29, _ => (hlow 29 (by decide)).trans rfl | 30, _ => (hlow 30 (by decide)).trans rfl | 31, _ => (hlow 31 (by decide)).trans rfl | 32, _ => (hlow 32 (by decide)).trans rfl | 33, _ => (hlow 33 (by decide)).trans rfl | 34, _ => (hlow 34 (by decide)).trans rfl | 35, _ => (hlow 35 (by decide)).trans rfl | 36, _ => (hlow 36 (by decide)).trans rfl | 37, _ => (hlow 37 (by decide)).trans rfl | 38, _ => (hlow 38 (by decide)).trans rfl | 39, _ => (hlow 39 (by decide)).trans rfl | 40, _ => (hlow 40 (by decide)).trans rfl | 41, _ => (hlow 41 (by decide)).trans rfl | 42, _ => (hlow 42 (by decide)).trans rfl | 43, _ => (hlow 43 (by decide)).trans rfl | 44, _ => (hlow 44 (by decide)).trans rfl | 45, _ => (hlow 45 (by decide)).trans rfl | 46, _ => (hlow 46 (by decide)).trans rfl | 47, _ => (hlow 47 (by decide)).trans rfl | 48, _ => (hlow 48 (by decide)).trans rfl | 49, _ => (hlow 49 (by decide)).trans rfl | 50, _ => (hlow 50 (by decide)).trans rfl | 51, _ => (hlow 51 (by decide)).trans rfl | 52, _ => (hlow 52 (by decide)).trans rfl | 53, _ => (hlow 53 (by decide)).trans rfl | 54, _ => (hlow 54 (by decide)).trans rfl | 55, _ => (hlow 55 (by decide)).trans rfl | 56, _ => (hlow 56 (by decide)).trans rfl | 57, _ => (hlow 57 (by decide)).trans rfl | 58, _ => (hlow 58 (by decide)).trans rfl | 59, _ => (hlow 59 (by decide)).trans rfl | 60, _ => (hlow 60 (by decide)).trans rfl | 61, _ => (hlow 61 (by decide)).trans rfl | 62, _ => (hlow 62 (by decide)).trans rfl | 63, _ => (hlow 63 (by decide)).trans rfl | 64, _ => (hlow 64 (by decide)).trans rfl | 65, _ => (hlow 65 (by decide)).trans rfl | 66, _ => (hlow 66 (by decide)).trans rfl | 67, _ => (hlow 67 (by decide)).trans rfl | 68, _ => (hlow 68 (by decide)).trans rfl | 69, _ => (hlow 69 (by decide)).trans rfl | 70, _ => (hlow 70 (by decide)).trans rfl | 71, _ => (hlow 71 (by decide)).trans rfl | 72, _ => (hlow 72 (by decide)).trans rfl | 73, _ => (hlow 73 (by decide)).trans rfl | 74, _ => (hlow 74 (by decide)).trans rfl | 75, _ => (hlow 75 (by decide)).trans rfl | 76, _ => RgX.val_at (hok 0 76 _ (by decide) rfl rfl) | 77, _ => RgX.val_at (hok 1 77 _ (by decide) rfl rfl) | 78, _ => RgX.val_at (hok 2 78 _ (by decide) rfl rfl) | 79, _ => RgX.val_at (hok 3 79 _ (by decide) rfl rfl) | 80, _ => RgX.val_at (hok 4 80 _ (by decide) rfl rfl) | 81, _ => RgX.val_at (hok 5 81 _ (by decide) rfl rfl) | 82, _ => RgX.val_at (hok 6 82 _ (by decide) rfl rfl) | 83, _ => RgX.val_at (hok 7 83 _ (by decide) rfl rfl) | 84, _ => RgX.val_at (hok 8 84 _ (by decide) rfl rfl) | 85, _ => RgX.val_at (hok 9 85 _ (by decide) rfl rfl) | 86, _ => RgX.val_at (hok 10 86 _ (by decide) rfl rfl) | 87, _ => RgX.val_at (hok 11 87 _ (by decide) rfl rfl) | 88, _ => RgX.val_at (hok 12 88 _ (by decide) rfl rfl) | 89, _ => RgX.val_at (hok 13 89 _ (by decide) rfl rfl) | 90, _ => RgX.val_at (hok 14 90 _ (by decide) rfl rfl) | 91, _ => RgX.val_at (hok 15 91 _ (by decide) rfl rfl) | 92, _ => RgX.val_at (hok 16 92 _ (by decide) rfl rfl) | 93, _ => RgX.val_at (hok 17 93 _ (by decide) rfl rfl) | 94, _ => RgX.val_at (hok 18 94 _ (by decide) rfl rfl) | 95, _ => RgX.val_at (hok 19 95 _ (by decide) rfl rfl) | 96, _ => RgX.val_at (hok 20 96 _ (by decide) rfl rfl) | n + 97, h => absurd h (by show ¬ n + 97 < 97; omega))
  clear hs hd hlow hok 
  go_wp2_with fail
  go_ret
  exact ⟨rfl, B8.out.trans (hS.mono B8.out.size)⟩
end Go.Proofs.YtggallpnbbidfaaDoor.LawNamesOrder
