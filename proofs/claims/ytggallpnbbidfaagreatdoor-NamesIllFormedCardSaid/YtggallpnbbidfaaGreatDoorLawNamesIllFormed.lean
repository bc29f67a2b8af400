/-
  The walk of NamesIllFormed: events and questions have the document's texts, and none where they are not well-formed. Condition: the listed tables and variables stand (TN).
-/
import Derived.Test.YtggallpnbbidfaaGreatDoorNmRn
import Derived.Test.YtggallpnbbidfaaGreatDoorNmL
import Derived.Test.YtggallpnbbidfaaGreatDoorNmKc
import Derived.Test.YtggallpnbbidfaaGreatDoorNmAe
import Derived.Test.YtggallpnbbidfaaGreatDoorRgX
import Derived.Test.YtggallpnbbidfaaGreatDoorRgT
namespace Go.Proofs.YtggallpnbbidfaaGreatDoor.LawNamesIllFormed
open Go Go.RowKit Go.Proofs Go.Proofs.YtggallpnbbidfaaGreatDoor
attribute [local go_sem] Oper.semAt_some

theorem size_ev : (Tryz.prog.info? 28).map (·.size) = some 8 := by kernel_rfl
theorem size_qu : (Tryz.prog.info? 36).map (·.size) = some 5 := by kernel_rfl
theorem size_in : (Tryz.prog.info? 3).map (·.size) = some 1 := by kernel_rfl
set_option maxHeartbeats 4000000 in
set_option maxRecDepth 100000 in
theorem walk_0 (ek en ea ec eh et ei ep qc qh qt qk qi xk xn xa xc xh xt xi xp yc yh yt yk yi n m at_ v : Int) (s1 s2 s3 s4 : ByteArray) (w : World)
    (HA : Hid (∀ V, Calls Tryz.prog 7 #[.int .i64 at_, .int .i64 7] V fun e w' => e = .returned (.int .i64 0) ∧ V = w'))
    (HG : Hid (∀ V, Calls Tryz.prog 11 #[.int .i64 n, .int .i64 m] V fun e w' => e = .returned (.agg #[.int .i64 xk, .int .i64 xn, .int .i64 xa, .int .i64 xc, .int .i64 xh, .int .i64 xt, .int .i64 xi, .int .i64 xp]) ∧ Below V.heap.size V w'))
    (HH : Hid (∀ V, Calls Tryz.prog 12 #[.int .i64 n, .int .i64 m] V fun e w' => e = .returned (.agg #[.int .i64 yc, .int .i64 yh, .int .i64 yt, .int .i64 yk, .int .i64 yi]) ∧ Below V.heap.size V w'))
    (H1 : Hid (∀ V, Below w.heap.size w V → Calls Tryz.prog 13 #[.agg #[.int .i64 ek, .int .i64 en, .int .i64 ea, .int .i64 ec, .int .i64 eh, .int .i64 et, .int .i64 ei, .int .i64 ep]] V fun e w' => e = .returned (.string s1) ∧ Below V.heap.size V w'))
    (H2 : Hid (∀ V, Below w.heap.size w V → Calls Tryz.prog 14 #[.agg #[.int .i64 ek, .int .i64 en, .int .i64 ea, .int .i64 ec, .int .i64 eh, .int .i64 et, .int .i64 ei, .int .i64 ep]] V fun e w' => e = .returned (.string s1) ∧ Below V.heap.size V w'))
    (H3 : Hid (∀ V, Below w.heap.size w V → Calls Tryz.prog 13 #[.agg #[.int .i64 v, .int .i64 xn, .int .i64 xa, .int .i64 xc, .int .i64 xh, .int .i64 xt, .int .i64 xi, .int .i64 xp]] V fun e w' => e = .returned (.string s2) ∧ Below V.heap.size V w'))
    (H4 : Hid (∀ V, Below w.heap.size w V → Calls Tryz.prog 14 #[.agg #[.int .i64 v, .int .i64 xn, .int .i64 xa, .int .i64 xc, .int .i64 xh, .int .i64 xt, .int .i64 xi, .int .i64 xp]] V fun e w' => e = .returned (.string s2) ∧ Below V.heap.size V w'))
    (H5 : Hid (∀ V, Below w.heap.size w V → Calls Tryz.prog 15 #[.agg #[.int .i64 qc, .int .i64 qh, .int .i64 qt, .int .i64 qk, .int .i64 qi]] V fun e w' => e = .returned (.string s3) ∧ Below V.heap.size V w'))
    (H6 : Hid (∀ V, Below w.heap.size w V → Calls Tryz.prog 16 #[.agg #[.int .i64 qc, .int .i64 qh, .int .i64 qt, .int .i64 qk, .int .i64 qi]] V fun e w' => e = .returned (.string s3) ∧ Below V.heap.size V w'))
    (H7 : Hid (∀ V, Below w.heap.size w V → Calls Tryz.prog 15 #[.agg #[.int .i64 yc, .int .i64 yh, .int .i64 yt, .int .i64 v, .int .i64 yi]] V fun e w' => e = .returned (.string s4) ∧ Below V.heap.size V w'))
    (H8 : Hid (∀ V, Below w.heap.size w V → Calls Tryz.prog 16 #[.agg #[.int .i64 yc, .int .i64 yh, .int .i64 yt, .int .i64 v, .int .i64 yi]] V fun e w' => e = .returned (.string s4) ∧ Below V.heap.size V w'))
    (HL : Hid (∀ V, Below w.heap.size w V → Calls Tryz.prog 10 #[] V fun e w' => e = .returned (.bool true) ∧ Below V.heap.size V w')) :
    Calls Tryz.prog 4 #[.agg #[.int .i64 ek, .int .i64 en, .int .i64 ea, .int .i64 ec, .int .i64 eh, .int .i64 et, .int .i64 ei, .int .i64 ep], .agg #[.int .i64 qc, .int .i64 qh, .int .i64 qt, .int .i64 qk, .int .i64 qi], .int .i64 n, .int .i64 m, .int .i64 at_, .int .i64 v] w fun e w' => e = .returned (.bool true) ∧ Below w.heap.size w w' := by
  obtain ⟨U, hU, hb0, ke, kq, hlt⟩ := two_boxes w (.cells #[.int .i64 ek, .int .i64 en, .int .i64 ea, .int .i64 ec, .int .i64 eh, .int .i64 et, .int .i64 ei, .int .i64 ep] 28) (.cells #[.int .i64 qc, .int .i64 qh, .int .i64 qt, .int .i64 qk, .int .i64 qi] 36)
  have HB0 := Lib.hid (And.intro hb0 (And.intro ke (And.intro kq hlt)))
  have hs0 := hb0.size
  clear hb0 ke kq
  go_enter Tryz.func4, Tryz.ntmps4
  go_wp2_with fail
  clear hU
  refine (HG.out _).mono ?_
  rintro e v1 ⟨rfl, hb1⟩
  have h1z := hb1.size
  have HB1 := Lib.hid hb1
  clear hb1
  go_wp2_with (refine RgX.wpList_store_seg rfl 28 _ _ rfl v1.heap.size 0 (.agg #[.int .i64 xk, .int .i64 xn, .int .i64 xa, .int .i64 xc, .int .i64 xh, .int .i64 xt, .int .i64 xi, .int .i64 xp]) rfl rfl 28 #[.int .i64 0, .int .i64 0, .int .i64 0, .int .i64 0, .int .i64 0, .int .i64 0, .int .i64 0, .int .i64 0] (new_at rfl) (by rw [size_ev]; rfl) (by show 0 + 8 ≤ 8; omega) (by simp [Value.cells, Value.oneCell']) #[.int .i64 xk, .int .i64 xn, .int .i64 xa, .int .i64 xc, .int .i64 xh, .int .i64 xt, .int .i64 xi, .int .i64 xp] rfl ?_; intro u1 kx1 ho1 hz1 hx1)
  have h1u : u1.heap.size = v1.heap.size + 1 := by rw [hz1]; simp
  have hu1 : Below v1.heap.size v1 u1 := (one_box v1 _).trans hx1
  refine (HH.out _).mono ?_
  rintro e v2 ⟨rfl, hb2⟩
  have h2z := hb2.size
  have kx2 : v2.heap[v1.heap.size]? = some (.cells #[.int .i64 xk, .int .i64 xn, .int .i64 xa, .int .i64 xc, .int .i64 xh, .int .i64 xt, .int .i64 xi, .int .i64 xp] 28 (0, 0)) := (hb2.block _ (by omega)).trans kx1
  have HB2 := Lib.hid (show Below U.heap.size U v2 from (HB1.out.trans (hu1.mono h1z)).trans (hb2.mono (by omega)))
  have KX2 := Lib.hid kx2
  clear hb2 hu1 ho1 hz1 hx1 kx1 kx2 HB1
  have hne : v1.heap.size ≠ v2.heap.size := by omega
  go_wp2_with (first | (refine RgX.wpList_store_seg rfl 36 _ _ rfl v2.heap.size 0 (.agg #[.int .i64 yc, .int .i64 yh, .int .i64 yt, .int .i64 yk, .int .i64 yi]) rfl rfl 36 #[.int .i64 0, .int .i64 0, .int .i64 0, .int .i64 0, .int .i64 0] (new_at rfl) (by rw [size_qu]; rfl) (by show 0 + 5 ≤ 5; omega) (by simp [Value.cells, Value.oneCell']) #[.int .i64 yc, .int .i64 yh, .int .i64 yt, .int .i64 yk, .int .i64 yi] rfl ?_; intro u2 ky2 ho2 hz2 hx2; have kx3 : u2.heap[v1.heap.size]? = some (.cells #[.int .i64 xk, .int .i64 xn, .int .i64 xa, .int .i64 xc, .int .i64 xh, .int .i64 xt, .int .i64 xi, .int .i64 xp] 28 (0, 0)) := (ho2 _ hne).trans ((Below.heap_alloc _ _ _ (by omega)).trans KX2.out); have h2u : u2.heap.size = v2.heap.size + 1 := (by rw [hz2]; simp); have HU2 := Lib.hid (show Below U.heap.size U u2 from HB2.out.trans (((one_box v2 _).trans hx2).mono (by omega))); have KX3 := Lib.hid kx3; have KY2 := Lib.hid ky2; clear kx3 ky2 ho2 hz2 hx2) | (go_at_call 7; refine (HA.out _).mono ?_; rintro e w1 ⟨rfl, rfl⟩) | (refine RgX.wpList_store_seg rfl 3 _ _ rfl v1.heap.size 0 (.int .i64 v) rfl rfl 28 _ KX3.out (by rw [size_in]; rfl) (by show 0 + 1 ≤ 8; omega) (by simp [Value.cells, Value.oneCell']) #[.int .i64 v, .int .i64 xn, .int .i64 xa, .int .i64 xc, .int .i64 xh, .int .i64 xt, .int .i64 xi, .int .i64 xp] rfl ?_; intro u3 kx4 ho3 hz3 hx3; have ky3 : u3.heap[v2.heap.size]? = some (.cells #[.int .i64 yc, .int .i64 yh, .int .i64 yt, .int .i64 yk, .int .i64 yi] 36 (0, 0)) := (ho3 _ (fun e => hne e.symm)).trans KY2.out; have h3u : u3.heap.size = u2.heap.size := hz3; have HU3 := Lib.hid (show Below U.heap.size U u3 from HU2.out.trans (hx3.mono (by omega))); have KX4 := Lib.hid kx4; have KY3 := Lib.hid ky3; clear kx4 ky3 ho3 hz3 hx3) | (refine RgX.wpList_store_seg rfl 3 _ _ rfl v2.heap.size 3 (.int .i64 v) rfl rfl 36 _ KY3.out (by rw [size_in]; rfl) (by show 3 + 1 ≤ 5; omega) (by simp [Value.cells, Value.oneCell']) #[.int .i64 yc, .int .i64 yh, .int .i64 yt, .int .i64 v, .int .i64 yi] rfl ?_; intro u4 ky4 ho4 hz4 hx4; have kx5 : u4.heap[v1.heap.size]? = some (.cells #[.int .i64 v, .int .i64 xn, .int .i64 xa, .int .i64 xc, .int .i64 xh, .int .i64 xt, .int .i64 xi, .int .i64 xp] 28 (0, 0)) := (ho4 _ hne).trans KX4.out; have h4u : u4.heap.size = u2.heap.size := hz4.trans h3u; have HU4 := Lib.hid (show Below U.heap.size U u4 from HU3.out.trans (hx4.mono (by omega))); have KXF := Lib.hid kx5; have KYF := Lib.hid ky4; clear kx5 ky4 ho4 hz4 hx4))
  obtain ⟨hb0, ke, kq, hlt⟩ := HB0.out
  have kx := KXF.out
  have ky := KYF.out
  have hbu := HU4.out
  have hzu : u4.heap.size = v2.heap.size + 1 := by omega
  have HB := Lib.hid (show Below w.heap.size w u4 from hb0.trans (hbu.mono hb0.size))
  have HK := Lib.hid (fun (V : World) (hV : Below u4.heap.size u4 V) => And.intro (row8 ((hV.block _ (by omega)).trans ((hbu.block _ (by omega)).trans ke))) (And.intro (row5 ((hV.block _ (by omega)).trans ((hbu.block _ hlt).trans kq))) (And.intro (row8 ((hV.block _ (by omega)).trans kx)) (row5 ((hV.block _ (by omega)).trans ky)))))
  clear hb0 ke kq kx ky hbu HB0 HB2
  refine RgX.region 30 (fun i => (if i = 29 then 12 else 68 + i)) (fun ix_ => match ix_ with | 0 => .v (.agg #[.int .i64 ek, .int .i64 en, .int .i64 ea, .int .i64 ec, .int .i64 eh, .int .i64 et, .int .i64 ei, .int .i64 ep]) | 1 => .v (.string s1) | 2 => .v (.agg #[.int .i64 ek, .int .i64 en, .int .i64 ea, .int .i64 ec, .int .i64 eh, .int .i64 et, .int .i64 ei, .int .i64 ep]) | 3 => .v (.string s1) | 4 => .v (.bool true) | 5 => .v (.bool true) | 6 => .v (.agg #[.int .i64 v, .int .i64 xn, .int .i64 xa, .int .i64 xc, .int .i64 xh, .int .i64 xt, .int .i64 xi, .int .i64 xp]) | 7 => .v (.string s2) | 8 => .v (.agg #[.int .i64 v, .int .i64 xn, .int .i64 xa, .int .i64 xc, .int .i64 xh, .int .i64 xt, .int .i64 xi, .int .i64 xp]) | 9 => .v (.string s2) | 10 => .v (.bool true) | 11 => .v (.bool true) | 12 => .v (.bool true) | 13 => .v (.agg #[.int .i64 qc, .int .i64 qh, .int .i64 qt, .int .i64 qk, .int .i64 qi]) | 14 => .v (.string s3) | 15 => .v (.agg #[.int .i64 qc, .int .i64 qh, .int .i64 qt, .int .i64 qk, .int .i64 qi]) | 16 => .v (.string s3) | 17 => .v (.bool true) | 18 => .v (.bool true) | 19 => .v (.bool true) | 20 => .v (.agg #[.int .i64 yc, .int .i64 yh, .int .i64 yt, .int .i64 v, .int .i64 yi]) | 21 => .v (.string s4) | 22 => .v (.agg #[.int .i64 yc, .int .i64 yh, .int .i64 yt, .int .i64 v, .int .i64 yi]) | 23 => .v (.string s4) | 24 => .v (.bool true) | 25 => .v (.bool true) | 26 => .v (.bool true) | 27 => .v (.bool true) | 28 => .v (.bool true) | 29 => .v (.bool true) | _ => .any) (by kernel_rfl) rfl (by kernel_rfl)  (fun i hi => by show (if i = 29 then 12 else 68 + i) < 97; (repeat' split) <;> omega) (fun i j hi hj => by show (if i = 29 then 12 else 68 + i) = (if j = 29 then 12 else 68 + j) → i = j; (repeat' split) <;> omega) ?step ?fin
  case step =>
    intro L_ A_ w3 ix op_ hI ho hdep
    have hi : ix < 30 := (Array.getElem?_eq_some_iff.1 ho).1
    have hcase : ix = 0 ∨ ix = 1 ∨ ix = 2 ∨ ix = 3 ∨ ix = 4 ∨ ix = 5 ∨ ix = 6 ∨ ix = 7 ∨ ix = 8 ∨ ix = 9 ∨ ix = 10 ∨ ix = 11 ∨ ix = 12 ∨ ix = 13 ∨ ix = 14 ∨ ix = 15 ∨ ix = 16 ∨ ix = 17 ∨ ix = 18 ∨ ix = 19 ∨ ix = 20 ∨ ix = 21 ∨ ix = 22 ∨ ix = 23 ∨ ix = 24 ∨ ix = 25 ∨ ix = 26 ∨ ix = 27 ∨ ix = 28 ∨ ix = 29 := by omega
    have hh := hI.held
    clear hi
    rcases hcase with rfl | rfl | rfl | rfl | rfl | rfl | rfl | rfl | rfl | rfl | rfl | rfl | rfl | rfl | rfl | rfl | rfl | rfl | rfl | rfl | rfl | rfl | rfl | rfl | rfl | rfl | rfl | rfl | rfl | rfl
    · simp only [List.getElem?_toArray, List.getElem?_cons_zero, Option.some.injEq] at ho
      subst ho
      refine ⟨rfl, ?_⟩
      have e6 : A_.tmps[6]?.getD undef = .pointer (some ⟨w.heap.size, 0, none⟩) := by rw [hI.low 6 (by decide)]; rfl
      clear hI hdep
      obtain ⟨⟨fa0, fa1, fa2, fa3, fa4, fa5, fa6, fa7⟩, ⟨fb0, fb1, fb2, fb3, fb4⟩, ⟨fc0, fc1, fc2, fc3, fc4, fc5, fc6, fc7⟩, fd0, fd1, fd2, fd3, fd4⟩ := HK.out w3 hh
      exact .run rfl (.agg #[.int .i64 ek, .int .i64 en, .int .i64 ea, .int .i64 ec, .int .i64 eh, .int .i64 et, .int .i64 ei, .int .i64 ep]) w3 (by simp [execOp, go_sem, Act.eval, *]) (Below.refl _ _) rfl
    · simp only [List.getElem?_toArray, List.getElem?_cons_succ, List.getElem?_cons_zero, Option.some.injEq] at ho
      subst ho
      refine ⟨rfl, ?_⟩
      have e68 : A_.tmps[68]?.getD undef = .agg #[.int .i64 ek, .int .i64 en, .int .i64 ea, .int .i64 ec, .int .i64 eh, .int .i64 et, .int .i64 ei, .int .i64 ep] := getD_of (hI.val_ (i := 0) rfl rfl (by decide) (hdep ⟨0, .data⟩ (by simp) rfl))
      clear hI hdep
      exact .call rfl 13 #[.agg #[.int .i64 ek, .int .i64 en, .int .i64 ea, .int .i64 ec, .int .i64 eh, .int .i64 et, .int .i64 ei, .int .i64 ep]] (by simp [go_sem, Act.eval, e68]) ((H1.out w3 (HB.out.trans (hh.mono HB.out.size))).mono fun _ _ ⟨h1_, h2_⟩ => ⟨⟨_, h1_, rfl⟩, h2_⟩)
    · simp only [List.getElem?_toArray, List.getElem?_cons_succ, List.getElem?_cons_zero, Option.some.injEq] at ho
      subst ho
      refine ⟨rfl, ?_⟩
      have e6 : A_.tmps[6]?.getD undef = .pointer (some ⟨w.heap.size, 0, none⟩) := by rw [hI.low 6 (by decide)]; rfl
      clear hI hdep
      obtain ⟨⟨fa0, fa1, fa2, fa3, fa4, fa5, fa6, fa7⟩, ⟨fb0, fb1, fb2, fb3, fb4⟩, ⟨fc0, fc1, fc2, fc3, fc4, fc5, fc6, fc7⟩, fd0, fd1, fd2, fd3, fd4⟩ := HK.out w3 hh
      exact .run rfl (.agg #[.int .i64 ek, .int .i64 en, .int .i64 ea, .int .i64 ec, .int .i64 eh, .int .i64 et, .int .i64 ei, .int .i64 ep]) w3 (by simp [execOp, go_sem, Act.eval, *]) (Below.refl _ _) rfl
    · simp only [List.getElem?_toArray, List.getElem?_cons_succ, List.getElem?_cons_zero, Option.some.injEq] at ho
      subst ho
      refine ⟨rfl, ?_⟩
      have e70 : A_.tmps[70]?.getD undef = .agg #[.int .i64 ek, .int .i64 en, .int .i64 ea, .int .i64 ec, .int .i64 eh, .int .i64 et, .int .i64 ei, .int .i64 ep] := getD_of (hI.val_ (i := 2) rfl rfl (by decide) (hdep ⟨2, .data⟩ (by simp) rfl))
      clear hI hdep
      exact .call rfl 14 #[.agg #[.int .i64 ek, .int .i64 en, .int .i64 ea, .int .i64 ec, .int .i64 eh, .int .i64 et, .int .i64 ei, .int .i64 ep]] (by simp [go_sem, Act.eval, e70]) ((H2.out w3 (HB.out.trans (hh.mono HB.out.size))).mono fun _ _ ⟨h1_, h2_⟩ => ⟨⟨_, h1_, rfl⟩, h2_⟩)
    · simp only [List.getElem?_toArray, List.getElem?_cons_succ, List.getElem?_cons_zero, Option.some.injEq] at ho
      subst ho
      refine ⟨rfl, ?_⟩
      have e69 : A_.tmps[69]?.getD undef = .string s1 := getD_of (hI.val_ (i := 1) rfl rfl (by decide) (hdep ⟨1, .data⟩ (by simp) rfl))
      have e71 : A_.tmps[71]?.getD undef = .string s1 := getD_of (hI.val_ (i := 3) rfl rfl (by decide) (hdep ⟨3, .data⟩ (by simp) rfl))
      clear hI hdep
      exact .run rfl (.bool true) w3 (by simp [execOp, go_sem, Act.eval, *]) (Below.refl _ _) rfl
    · simp only [List.getElem?_toArray, List.getElem?_cons_succ, List.getElem?_cons_zero, Option.some.injEq] at ho
      subst ho
      refine ⟨rfl, ?_⟩
      have e72 : A_.tmps[72]?.getD undef = .bool true := getD_of (hI.val_ (i := 4) rfl rfl (by decide) (hdep ⟨4, .data⟩ (by simp) rfl))
      clear hI hdep
      exact .run rfl (.bool true) w3 (by simp [execOp, go_sem, Act.eval, e72]) (Below.refl _ _) rfl
    · simp only [List.getElem?_toArray, List.getElem?_cons_succ, List.getElem?_cons_zero, Option.some.injEq] at ho
      subst ho
      refine ⟨rfl, ?_⟩
      have q73 : A_.tmps[73]? = some (.bool true) := hI.val_ (i := 5) rfl rfl (by decide) (hdep ⟨5, .guard⟩ (by simp) rfl)
      have e13 : A_.tmps[13]?.getD undef = .pointer (some ⟨v1.heap.size, 0, none⟩) := by rw [hI.low 13 (by decide)]; rfl
      clear hI hdep
      obtain ⟨⟨fa0, fa1, fa2, fa3, fa4, fa5, fa6, fa7⟩, ⟨fb0, fb1, fb2, fb3, fb4⟩, ⟨fc0, fc1, fc2, fc3, fc4, fc5, fc6, fc7⟩, fd0, fd1, fd2, fd3, fd4⟩ := HK.out w3 hh
      exact .run ((wanted_some rfl rfl q73).trans rfl) (.agg #[.int .i64 v, .int .i64 xn, .int .i64 xa, .int .i64 xc, .int .i64 xh, .int .i64 xt, .int .i64 xi, .int .i64 xp]) w3 (by simp [execOp, go_sem, Act.eval, *]) (Below.refl _ _) rfl
    · simp only [List.getElem?_toArray, List.getElem?_cons_succ, List.getElem?_cons_zero, Option.some.injEq] at ho
      subst ho
      refine ⟨rfl, ?_⟩
      have q73 : A_.tmps[73]? = some (.bool true) := hI.val_ (i := 5) rfl rfl (by decide) (hdep ⟨5, .guard⟩ (by simp) rfl)
      have e74 : A_.tmps[74]?.getD undef = .agg #[.int .i64 v, .int .i64 xn, .int .i64 xa, .int .i64 xc, .int .i64 xh, .int .i64 xt, .int .i64 xi, .int .i64 xp] := getD_of (hI.val_ (i := 6) rfl rfl (by decide) (hdep ⟨6, .data⟩ (by simp) rfl))
      clear hI hdep
      exact .call ((wanted_some rfl rfl q73).trans rfl) 13 #[.agg #[.int .i64 v, .int .i64 xn, .int .i64 xa, .int .i64 xc, .int .i64 xh, .int .i64 xt, .int .i64 xi, .int .i64 xp]] (by simp [go_sem, Act.eval, e74]) ((H3.out w3 (HB.out.trans (hh.mono HB.out.size))).mono fun _ _ ⟨h1_, h2_⟩ => ⟨⟨_, h1_, rfl⟩, h2_⟩)
    · simp only [List.getElem?_toArray, List.getElem?_cons_succ, List.getElem?_cons_zero, Option.some.injEq] at ho
      subst ho
      refine ⟨rfl, ?_⟩
      have q73 : A_.tmps[73]? = some (.bool true) := hI.val_ (i := 5) rfl rfl (by decide) (hdep ⟨5, .guard⟩ (by simp) rfl)
      have e13 : A_.tmps[13]?.getD undef = .pointer (some ⟨v1.heap.size, 0, none⟩) := by rw [hI.low 13 (by decide)]; rfl
      clear hI hdep
      obtain ⟨⟨fa0, fa1, fa2, fa3, fa4, fa5, fa6, fa7⟩, ⟨fb0, fb1, fb2, fb3, fb4⟩, ⟨fc0, fc1, fc2, fc3, fc4, fc5, fc6, fc7⟩, fd0, fd1, fd2, fd3, fd4⟩ := HK.out w3 hh
      exact .run ((wanted_some rfl rfl q73).trans rfl) (.agg #[.int .i64 v, .int .i64 xn, .int .i64 xa, .int .i64 xc, .int .i64 xh, .int .i64 xt, .int .i64 xi, .int .i64 xp]) w3 (by simp [execOp, go_sem, Act.eval, *]) (Below.refl _ _) rfl
    · simp only [List.getElem?_toArray, List.getElem?_cons_succ, List.getElem?_cons_zero, Option.some.injEq] at ho
      subst ho
      refine ⟨rfl, ?_⟩
      have q73 : A_.tmps[73]? = some (.bool true) := hI.val_ (i := 5) rfl rfl (by decide) (hdep ⟨5, .guard⟩ (by simp) rfl)
      have e76 : A_.tmps[76]?.getD undef = .agg #[.int .i64 v, .int .i64 xn, .int .i64 xa, .int .i64 xc, .int .i64 xh, .int .i64 xt, .int .i64 xi, .int .i64 xp] := getD_of (hI.val_ (i := 8) rfl rfl (by decide) (hdep ⟨8, .data⟩ (by simp) rfl))
      clear hI hdep
      exact .call ((wanted_some rfl rfl q73).trans rfl) 14 #[.agg #[.int .i64 v, .int .i64 xn, .int .i64 xa, .int .i64 xc, .int .i64 xh, .int .i64 xt, .int .i64 xi, .int .i64 xp]] (by simp [go_sem, Act.eval, e76]) ((H4.out w3 (HB.out.trans (hh.mono HB.out.size))).mono fun _ _ ⟨h1_, h2_⟩ => ⟨⟨_, h1_, rfl⟩, h2_⟩)
    · simp only [List.getElem?_toArray, List.getElem?_cons_succ, List.getElem?_cons_zero, Option.some.injEq] at ho
      subst ho
      refine ⟨rfl, ?_⟩
      have q73 : A_.tmps[73]? = some (.bool true) := hI.val_ (i := 5) rfl rfl (by decide) (hdep ⟨5, .guard⟩ (by simp) rfl)
      have e75 : A_.tmps[75]?.getD undef = .string s2 := getD_of (hI.val_ (i := 7) rfl rfl (by decide) (hdep ⟨7, .data⟩ (by simp) rfl))
      have e77 : A_.tmps[77]?.getD undef = .string s2 := getD_of (hI.val_ (i := 9) rfl rfl (by decide) (hdep ⟨9, .data⟩ (by simp) rfl))
      clear hI hdep
      exact .run ((wanted_some rfl rfl q73).trans rfl) (.bool true) w3 (by simp [execOp, go_sem, Act.eval, *]) (Below.refl _ _) rfl
    · simp only [List.getElem?_toArray, List.getElem?_cons_succ, List.getElem?_cons_zero, Option.some.injEq] at ho
      subst ho
      refine ⟨rfl, ?_⟩
      have e73 : A_.tmps[73]?.getD undef = .bool true := getD_of (hI.val_ (i := 5) rfl rfl (by decide) (hdep ⟨5, .data⟩ (by simp) rfl))
      have e78 : A_.tmps[78]?.getD undef = .bool true := getD_of (hI.val_ (i := 10) rfl rfl (by decide) (hdep ⟨10, .data⟩ (by simp) rfl))
      clear hI hdep
      exact .run rfl (.bool true) w3 (by simp [execOp, go_sem, Act.eval, e73, e78]) (Below.refl _ _) rfl
    · simp only [List.getElem?_toArray, List.getElem?_cons_succ, List.getElem?_cons_zero, Option.some.injEq] at ho
      subst ho
      refine ⟨rfl, ?_⟩
      have e79 : A_.tmps[79]?.getD undef = .bool true := getD_of (hI.val_ (i := 11) rfl rfl (by decide) (hdep ⟨11, .data⟩ (by simp) rfl))
      clear hI hdep
      exact .run rfl (.bool true) w3 (by simp [execOp, go_sem, Act.eval, e79]) (Below.refl _ _) rfl
    · simp only [List.getElem?_toArray, List.getElem?_cons_succ, List.getElem?_cons_zero, Option.some.injEq] at ho
      subst ho
      refine ⟨rfl, ?_⟩
      have q80 : A_.tmps[80]? = some (.bool true) := hI.val_ (i := 12) rfl rfl (by decide) (hdep ⟨12, .guard⟩ (by simp) rfl)
      have e7 : A_.tmps[7]?.getD undef = .pointer (some ⟨w.heap.size + 1, 0, none⟩) := by rw [hI.low 7 (by decide)]; rfl
      clear hI hdep
      obtain ⟨⟨fa0, fa1, fa2, fa3, fa4, fa5, fa6, fa7⟩, ⟨fb0, fb1, fb2, fb3, fb4⟩, ⟨fc0, fc1, fc2, fc3, fc4, fc5, fc6, fc7⟩, fd0, fd1, fd2, fd3, fd4⟩ := HK.out w3 hh
      exact .run ((wanted_some rfl rfl q80).trans rfl) (.agg #[.int .i64 qc, .int .i64 qh, .int .i64 qt, .int .i64 qk, .int .i64 qi]) w3 (by simp [execOp, go_sem, Act.eval, *]) (Below.refl _ _) rfl
    · simp only [List.getElem?_toArray, List.getElem?_cons_succ, List.getElem?_cons_zero, Option.some.injEq] at ho
      subst ho
      refine ⟨rfl, ?_⟩
      have q80 : A_.tmps[80]? = some (.bool true) := hI.val_ (i := 12) rfl rfl (by decide) (hdep ⟨12, .guard⟩ (by simp) rfl)
      have e81 : A_.tmps[81]?.getD undef = .agg #[.int .i64 qc, .int .i64 qh, .int .i64 qt, .int .i64 qk, .int .i64 qi] := getD_of (hI.val_ (i := 13) rfl rfl (by decide) (hdep ⟨13, .data⟩ (by simp) rfl))
      clear hI hdep
      exact .call ((wanted_some rfl rfl q80).trans rfl) 15 #[.agg #[.int .i64 qc, .int .i64 qh, .int .i64 qt, .int .i64 qk, .int .i64 qi]] (by simp [go_sem, Act.eval, e81]) ((H5.out w3 (HB.out.trans (hh.mono HB.out.size))).mono fun _ _ ⟨h1_, h2_⟩ => ⟨⟨_, h1_, rfl⟩, h2_⟩)
    · simp only [List.getElem?_toArray, List.getElem?_cons_succ, List.getElem?_cons_zero, Option.some.injEq] at ho
      subst ho
      refine ⟨rfl, ?_⟩
      have q80 : A_.tmps[80]? = some (.bool true) := hI.val_ (i := 12) rfl rfl (by decide) (hdep ⟨12, .guard⟩ (by simp) rfl)
      have e7 : A_.tmps[7]?.getD undef = .pointer (some ⟨w.heap.size + 1, 0, none⟩) := by rw [hI.low 7 (by decide)]; rfl
      clear hI hdep
      obtain ⟨⟨fa0, fa1, fa2, fa3, fa4, fa5, fa6, fa7⟩, ⟨fb0, fb1, fb2, fb3, fb4⟩, ⟨fc0, fc1, fc2, fc3, fc4, fc5, fc6, fc7⟩, fd0, fd1, fd2, fd3, fd4⟩ := HK.out w3 hh
      exact .run ((wanted_some rfl rfl q80).trans rfl) (.agg #[.int .i64 qc, .int .i64 qh, .int .i64 qt, .int .i64 qk, .int .i64 qi]) w3 (by simp [execOp, go_sem, Act.eval, *]) (Below.refl _ _) rfl
    · simp only [List.getElem?_toArray, List.getElem?_cons_succ, List.getElem?_cons_zero, Option.some.injEq] at ho
      subst ho
      refine ⟨rfl, ?_⟩
      have q80 : A_.tmps[80]? = some (.bool true) := hI.val_ (i := 12) rfl rfl (by decide) (hdep ⟨12, .guard⟩ (by simp) rfl)
      have e83 : A_.tmps[83]?.getD undef = .agg #[.int .i64 qc, .int .i64 qh, .int .i64 qt, .int .i64 qk, .int .i64 qi] := getD_of (hI.val_ (i := 15) rfl rfl (by decide) (hdep ⟨15, .data⟩ (by simp) rfl))
      clear hI hdep
      exact .call ((wanted_some rfl rfl q80).trans rfl) 16 #[.agg #[.int .i64 qc, .int .i64 qh, .int .i64 qt, .int .i64 qk, .int .i64 qi]] (by simp [go_sem, Act.eval, e83]) ((H6.out w3 (HB.out.trans (hh.mono HB.out.size))).mono fun _ _ ⟨h1_, h2_⟩ => ⟨⟨_, h1_, rfl⟩, h2_⟩)
    · simp only [List.getElem?_toArray, List.getElem?_cons_succ, List.getElem?_cons_zero, Option.some.injEq] at ho
      subst ho
      refine ⟨rfl, ?_⟩
      have q80 : A_.tmps[80]? = some (.bool true) := hI.val_ (i := 12) rfl rfl (by decide) (hdep ⟨12, .guard⟩ (by simp) rfl)
      have e82 : A_.tmps[82]?.getD undef = .string s3 := getD_of (hI.val_ (i := 14) rfl rfl (by decide) (hdep ⟨14, .data⟩ (by simp) rfl))
      have e84 : A_.tmps[84]?.getD undef = .string s3 := getD_of (hI.val_ (i := 16) rfl rfl (by decide) (hdep ⟨16, .data⟩ (by simp) rfl))
      clear hI hdep
      exact .run ((wanted_some rfl rfl q80).trans rfl) (.bool true) w3 (by simp [execOp, go_sem, Act.eval, *]) (Below.refl _ _) rfl
    · simp only [List.getElem?_toArray, List.getElem?_cons_succ, List.getElem?_cons_zero, Option.some.injEq] at ho
      subst ho
      refine ⟨rfl, ?_⟩
      have e80 : A_.tmps[80]?.getD undef = .bool true := getD_of (hI.val_ (i := 12) rfl rfl (by decide) (hdep ⟨12, .data⟩ (by simp) rfl))
      have e85 : A_.tmps[85]?.getD undef = .bool true := getD_of (hI.val_ (i := 17) rfl rfl (by decide) (hdep ⟨17, .data⟩ (by simp) rfl))
      clear hI hdep
      exact .run rfl (.bool true) w3 (by simp [execOp, go_sem, Act.eval, e80, e85]) (Below.refl _ _) rfl
    · simp only [List.getElem?_toArray, List.getElem?_cons_succ, List.getElem?_cons_zero, Option.some.injEq] at ho
      subst ho
      refine ⟨rfl, ?_⟩
      have e86 : A_.tmps[86]?.getD undef = .bool true := getD_of (hI.val_ (i := 18) rfl rfl (by decide) (hdep ⟨18, .data⟩ (by simp) rfl))
      clear hI hdep
      exact .run rfl (.bool true) w3 (by simp [execOp, go_sem, Act.eval, e86]) (Below.refl _ _) rfl
    · simp only [List.getElem?_toArray, List.getElem?_cons_succ, List.getElem?_cons_zero, Option.some.injEq] at ho
      subst ho
      refine ⟨rfl, ?_⟩
      have q87 : A_.tmps[87]? = some (.bool true) := hI.val_ (i := 19) rfl rfl (by decide) (hdep ⟨19, .guard⟩ (by simp) rfl)
      have e14 : A_.tmps[14]?.getD undef = .pointer (some ⟨v2.heap.size, 0, none⟩) := by rw [hI.low 14 (by decide)]; rfl
      clear hI hdep
      obtain ⟨⟨fa0, fa1, fa2, fa3, fa4, fa5, fa6, fa7⟩, ⟨fb0, fb1, fb2, fb3, fb4⟩, ⟨fc0, fc1, fc2, fc3, fc4, fc5, fc6, fc7⟩, fd0, fd1, fd2, fd3, fd4⟩ := HK.out w3 hh
      exact .run ((wanted_some rfl rfl q87).trans rfl) (.agg #[.int .i64 yc, .int .i64 yh, .int .i64 yt, .int .i64 v, .int .i64 yi]) w3 (by simp [execOp, go_sem, Act.eval, *]) (Below.refl _ _) rfl
    · simp only [List.getElem?_toArray, List.getElem?_cons_succ, List.getElem?_cons_zero, Option.some.injEq] at ho
      subst ho
      refine ⟨rfl, ?_⟩
      have q87 : A_.tmps[87]? = some (.bool true) := hI.val_ (i := 19) rfl rfl (by decide) (hdep ⟨19, .guard⟩ (by simp) rfl)
      have e88 : A_.tmps[88]?.getD undef = .agg #[.int .i64 yc, .int .i64 yh, .int .i64 yt, .int .i64 v, .int .i64 yi] := getD_of (hI.val_ (i := 20) rfl rfl (by decide) (hdep ⟨20, .data⟩ (by simp) rfl))
      clear hI hdep
      exact .call ((wanted_some rfl rfl q87).trans rfl) 15 #[.agg #[.int .i64 yc, .int .i64 yh, .int .i64 yt, .int .i64 v, .int .i64 yi]] (by simp [go_sem, Act.eval, e88]) ((H7.out w3 (HB.out.trans (hh.mono HB.out.size))).mono fun _ _ ⟨h1_, h2_⟩ => ⟨⟨_, h1_, rfl⟩, h2_⟩)
    · simp only [List.getElem?_toArray, List.getElem?_cons_succ, List.getElem?_cons_zero, Option.some.injEq] at ho
      subst ho
      refine ⟨rfl, ?_⟩
      have q87 : A_.tmps[87]? = some (.bool true) := hI.val_ (i := 19) rfl rfl (by decide) (hdep ⟨19, .guard⟩ (by simp) rfl)
      have e14 : A_.tmps[14]?.getD undef = .pointer (some ⟨v2.heap.size, 0, none⟩) := by rw [hI.low 14 (by decide)]; rfl
      clear hI hdep
      obtain ⟨⟨fa0, fa1, fa2, fa3, fa4, fa5, fa6, fa7⟩, ⟨fb0, fb1, fb2, fb3, fb4⟩, ⟨fc0, fc1, fc2, fc3, fc4, fc5, fc6, fc7⟩, fd0, fd1, fd2, fd3, fd4⟩ := HK.out w3 hh
      exact .run ((wanted_some rfl rfl q87).trans rfl) (.agg #[.int .i64 yc, .int .i64 yh, .int .i64 yt, .int .i64 v, .int .i64 yi]) w3 (by simp [execOp, go_sem, Act.eval, *]) (Below.refl _ _) rfl
    · simp only [List.getElem?_toArray, List.getElem?_cons_succ, List.getElem?_cons_zero, Option.some.injEq] at ho
      subst ho
      refine ⟨rfl, ?_⟩
      have q87 : A_.tmps[87]? = some (.bool true) := hI.val_ (i := 19) rfl rfl (by decide) (hdep ⟨19, .guard⟩ (by simp) rfl)
      have e90 : A_.tmps[90]?.getD undef = .agg #[.int .i64 yc, .int .i64 yh, .int .i64 yt, .int .i64 v, .int .i64 yi] := getD_of (hI.val_ (i := 22) rfl rfl (by decide) (hdep ⟨22, .data⟩ (by simp) rfl))
      clear hI hdep
      exact .call ((wanted_some rfl rfl q87).trans rfl) 16 #[.agg #[.int .i64 yc, .int .i64 yh, .int .i64 yt, .int .i64 v, .int .i64 yi]] (by simp [go_sem, Act.eval, e90]) ((H8.out w3 (HB.out.trans (hh.mono HB.out.size))).mono fun _ _ ⟨h1_, h2_⟩ => ⟨⟨_, h1_, rfl⟩, h2_⟩)
    · simp only [List.getElem?_toArray, List.getElem?_cons_succ, List.getElem?_cons_zero, Option.some.injEq] at ho
      subst ho
      refine ⟨rfl, ?_⟩
      have q87 : A_.tmps[87]? = some (.bool true) := hI.val_ (i := 19) rfl rfl (by decide) (hdep ⟨19, .guard⟩ (by simp) rfl)
      have e89 : A_.tmps[89]?.getD undef = .string s4 := getD_of (hI.val_ (i := 21) rfl rfl (by decide) (hdep ⟨21, .data⟩ (by simp) rfl))
      have e91 : A_.tmps[91]?.getD undef = .string s4 := getD_of (hI.val_ (i := 23) rfl rfl (by decide) (hdep ⟨23, .data⟩ (by simp) rfl))
      clear hI hdep
      exact .run ((wanted_some rfl rfl q87).trans rfl) (.bool true) w3 (by simp [execOp, go_sem, Act.eval, *]) (Below.refl _ _) rfl
    · simp only [List.getElem?_toArray, List.getElem?_cons_succ, List.getElem?_cons_zero, Option.some.injEq] at ho
      subst ho
      refine ⟨rfl, ?_⟩
      have e87 : A_.tmps[87]?.getD undef = .bool true := getD_of (hI.val_ (i := 19) rfl rfl (by decide) (hdep ⟨19, .data⟩ (by simp) rfl))
      have e92 : A_.tmps[92]?.getD undef = .bool true := getD_of (hI.val_ (i := 24) rfl rfl (by decide) (hdep ⟨24, .data⟩ (by simp) rfl))
      clear hI hdep
      exact .run rfl (.bool true) w3 (by simp [execOp, go_sem, Act.eval, e87, e92]) (Below.refl _ _) rfl
    · simp only [List.getElem?_toArray, List.getElem?_cons_succ, List.getElem?_cons_zero, Option.some.injEq] at ho
      subst ho
      refine ⟨rfl, ?_⟩
      have e93 : A_.tmps[93]?.getD undef = .bool true := getD_of (hI.val_ (i := 25) rfl rfl (by decide) (hdep ⟨25, .data⟩ (by simp) rfl))
      clear hI hdep
      exact .run rfl (.bool true) w3 (by simp [execOp, go_sem, Act.eval, e93]) (Below.refl _ _) rfl
    · simp only [List.getElem?_toArray, List.getElem?_cons_succ, List.getElem?_cons_zero, Option.some.injEq] at ho
      subst ho
      refine ⟨rfl, ?_⟩
      have q94 : A_.tmps[94]? = some (.bool true) := hI.val_ (i := 26) rfl rfl (by decide) (hdep ⟨26, .guard⟩ (by simp) rfl)
      clear hI hdep
      exact .call ((wanted_some rfl rfl q94).trans rfl) 10 #[] (by simp [go_sem]) ((HL.out w3 (HB.out.trans (hh.mono HB.out.size))).mono fun _ _ ⟨h1_, h2_⟩ => ⟨⟨_, h1_, rfl⟩, h2_⟩)
    · simp only [List.getElem?_toArray, List.getElem?_cons_succ, List.getElem?_cons_zero, Option.some.injEq] at ho
      subst ho
      refine ⟨rfl, ?_⟩
      have e94 : A_.tmps[94]?.getD undef = .bool true := getD_of (hI.val_ (i := 26) rfl rfl (by decide) (hdep ⟨26, .data⟩ (by simp) rfl))
      have e95 : A_.tmps[95]?.getD undef = .bool true := getD_of (hI.val_ (i := 27) rfl rfl (by decide) (hdep ⟨27, .data⟩ (by simp) rfl))
      clear hI hdep
      exact .run rfl (.bool true) w3 (by simp [execOp, go_sem, Act.eval, e94, e95]) (Below.refl _ _) rfl
    · simp only [List.getElem?_toArray, List.getElem?_cons_succ, List.getElem?_cons_zero, Option.some.injEq] at ho
      subst ho
      refine ⟨rfl, ?_⟩
      have e96 : A_.tmps[96]?.getD undef = .bool true := getD_of (hI.val_ (i := 28) rfl rfl (by decide) (hdep ⟨28, .data⟩ (by simp) rfl))
      clear hI hdep
      exact .run rfl (.bool true) w3 (by simp [execOp, go_sem, Act.eval, e96]) (Below.refl _ _) rfl
  case fin =>
  intro A_ w3 hs hd hlow hS hok
  obtain rfl : A_ = ⟨#[.agg #[.int .i64 ek, .int .i64 en, .int .i64 ea, .int .i64 ec, .int .i64 eh, .int .i64 et, .int .i64 ei, .int .i64 ep], .agg #[.int .i64 qc, .int .i64 qh, .int .i64 qt, .int .i64 qk, .int .i64 qi], .int .i64 n, .int .i64 m, .int .i64 at_, .int .i64 v, .pointer (some ⟨w.heap.size, 0, none⟩), .pointer (some ⟨w.heap.size + 1, 0, none⟩), undef, undef, undef, undef, .bool true, .pointer (some ⟨v1.heap.size, 0, none⟩), .pointer (some ⟨v2.heap.size, 0, none⟩), .int .i64 n, .int .i64 m, .agg #[.int .i64 xk, .int .i64 xn, .int .i64 xa, .int .i64 xc, .int .i64 xh, .int .i64 xt, .int .i64 xi, .int .i64 xp], .int .i64 n, .int .i64 m, .agg #[.int .i64 yc, .int .i64 yh, .int .i64 yt, .int .i64 yk, .int .i64 yi], .int .i64 at_, .int .i64 0, undef, undef, undef, .bool true, .bool true, .int .i64 v, .pointer (some ⟨v1.heap.size, 0, none⟩), .int .i64 v, .pointer (some ⟨v2.heap.size, 3, none⟩), undef, undef, undef, undef, undef, undef, undef, undef, undef, undef, undef, undef, undef, undef, undef, undef, undef, undef, undef, undef, undef, undef, undef, undef, undef, undef, undef, undef, undef, undef, undef, undef, undef, undef, undef, undef, .agg #[.int .i64 ek, .int .i64 en, .int .i64 ea, .int .i64 ec, .int .i64 eh, .int .i64 et, .int .i64 ei, .int .i64 ep], .string s1, .agg #[.int .i64 ek, .int .i64 en, .int .i64 ea, .int .i64 ec, .int .i64 eh, .int .i64 et, .int .i64 ei, .int .i64 ep], .string s1, .bool true, .bool true, .agg #[.int .i64 v, .int .i64 xn, .int .i64 xa, .int .i64 xc, .int .i64 xh, .int .i64 xt, .int .i64 xi, .int .i64 xp], .string s2, .agg #[.int .i64 v, .int .i64 xn, .int .i64 xa, .int .i64 xc, .int .i64 xh, .int .i64 xt, .int .i64 xi, .int .i64 xp], .string s2, .bool true, .bool true, .bool true, .agg #[.int .i64 qc, .int .i64 qh, .int .i64 qt, .int .i64 qk, .int .i64 qi], .string s3, .agg #[.int .i64 qc, .int .i64 qh, .int .i64 qt, .int .i64 qk, .int .i64 qi], .string s3, .bool true, .bool true, .bool true, .agg #[.int .i64 yc, .int .i64 yh, .int .i64 yt, .int .i64 v, .int .i64 yi], .string s4, .agg #[.int .i64 yc, .int .i64 yh, .int .i64 yt, .int .i64 v, .int .i64 yi], .string s4, .bool true, .bool true, .bool true, .bool true, .bool true], []⟩ := act_ext hd hs (fun j hj => match j, hj with | 0, _ => (hlow 0 (by decide)).trans rfl | 1, _ => (hlow 1 (by decide)).trans rfl | 2, _ => (hlow 2 (by decide)).trans rfl | 3, _ => (hlow 3 (by decide)).trans rfl | 4, _ => (hlow 4 (by decide)).trans rfl | 5, _ => (hlow 5 (by decide)).trans rfl | 6, _ => (hlow 6 (by decide)).trans rfl | 7, _ => (hlow 7 (by decide)).trans rfl | 8, _ => (hlow 8 (by decide)).trans rfl | 9, _ => (hlow 9 (by decide)).trans rfl | 10, _ => (hlow 10 (by decide)).trans rfl | 11, _ => (hlow 11 (by decide)).trans rfl | 12, _ => RgX.val_at (hok 29 12 _ (by decide) rfl rfl) | 13, _ => (hlow 13 (by decide)).trans rfl | 14, _ => (hlow 14 (by decide)).trans rfl | 15, _ => (hlow 15 (by decide)).trans rfl | 16, _ => (hlow 16 (by decide)).trans rfl | 17, _ => (hlow 17 (by decide)).trans rfl | 18, _ => (hlow 18 (by decide)).trans rfl | 19, _ => (hlow 19 (by decide)).trans rfl | 20, _ => (hlow 20 (by decide)).trans rfl | 21, _ => (hlow 21 (by decide)).trans rfl | 22, _ => (hlow 22 (by decide)).trans rfl | 23, _ => (hlow 23 (by decide)).trans rfl | 24, _ => (hlow 24 (by decide)).trans rfl | 25, _ => (hlow 25 (by decide)).trans rfl | 26, _ => (hlow 26 (by decide)).trans rfl | 27, _ => (hlow 27 (by decide)).trans rfl | 28, _ => (hlow 28 (by decide)).trans rfl | 29, _ => (hlow 29 (by decide)).trans rfl | 30, _ => (hlow 30 (by decide)).trans rfl | 31, _ => (hlow 31 (by decide)).trans rfl | 32, _ => (hlow 32 (by decide)).trans rfl | 33, _ => (hlow 33 (by decide)).trans rfl | 34, _ => (hlow 34 (by decide)).trans rfl | 35, _ => (hlow 35 (by decide)).trans rfl | 36, _ => (hlow 36 (by decide)).trans rfl | 37, _ => (hlow 37 (by decide)).trans rfl | 38, _ => (hlow 38 (by decide)).trans rfl | 39, _ => (hlow 39 (by decide)).trans rfl | 40, _ => (hlow 40 (by decide)).trans rfl | 41, _ => (hlow 41 (by decide)).trans rfl | 42, _ => (hlow 42 (by decide)).trans rfl | 43, _ => (hlow 43 (by decide)).trans rfl | 44, _ => (hlow 44 (by decide)).trans rfl | 45, _ => (hlow 45 (by decide)).trans rfl | 46, _ => (hlow 46 (by decide)).trans rfl | 47, _ => (hlow 47 (by decide)).trans rfl | 48, _ => (hlow 48 (by decide)).trans rfl | 49, _ => (hlow 49 (by decide)).trans rfl | 50, _ => (hlow 50 (by decide)).trans rfl | 51, _ => (hlow 51 (by decide)).trans rfl | 52, _ => (hlow 52 (by decide)).trans rfl | 53, _ => (hlow 53 (by decide)).trans rfl | 54, _ => (hlow 54 (by decide)).trans rfl | 55, _ => (hlow 55 (by decide)).trans rfl | 56, _ => (hlow 56 (by decide)).trans rfl | 57, _ => (hlow 57 (by decide)).trans rfl | 58, _ => (hlow 58 (by decide)).trans rfl | 59, _ => (hlow 59 (by decide)).trans rfl | 60, _ => (hlow 60 (by decide)).trans rfl | 61, _ => (hlow 61 (by decide)).trans rfl | 62, _ => (hlow 62 (by decide)).trans rfl | 63, _ => (hlow 63 (by decide)).trans rfl | 64, _ => (hlow 64 (by decide)).trans rfl | 65, _ => (hlow 65 (by decide)).trans rfl | 66, _ => (hlow 66 (by decide)).trans rfl | 67, _ => (hlow 67 (by decide)).trans rfl | 68, _ => RgX.val_at (hok 0 68 _ (by decide) rfl rfl) | 69, _ => RgX.val_at (hok 1 69 _ (by decide) rfl rfl) | 70, _ => RgX.val_at (hok 2 70 _ (by decide) rfl rfl) | 71, _ => RgX.val_at (hok 3 71 _ (by decide) rfl rfl) | 72, _ => RgX.val_at (hok 4 72 _ (by decide) rfl rfl) | 73, _ => RgX.val_at (hok 5 73 _ (by decide) rfl rfl) | 74, _ => RgX.val_at (hok 6 74 _ (by decide) rfl rfl) | 75, _ => RgX.val_at (hok 7 75 _ (by decide) rfl rfl) | 76, _ => RgX.val_at (hok 8 76 _ (by decide) rfl rfl) | 77, _ => RgX.val_at (hok 9 77 _ (by decide) rfl rfl) | 78, _ => RgX.val_at (hok 10 78 _ (by decide) rfl rfl) | 79, _ => RgX.val_at (hok 11 79 _ (by decide) rfl rfl) | 80, _ => RgX.val_at (hok 12 80 _ (by decide) rfl rfl) | 81, _ => RgX.val_at (hok 13 81 _ (by decide) rfl rfl) | 82, _ => RgX.val_at (hok 14 82 _ (by decide) rfl rfl) | 83, _ => RgX.val_at (hok 15 83 _ (by decide) rfl rfl) | 84, _ => RgX.val_at (hok 16 84 _ (by decide) rfl rfl) | 85, _ => RgX.val_at (hok 17 85 _ (by decide) rfl rfl) | 86, _ => RgX.val_at (hok 18 86 _ (by decide) rfl rfl) | 87, _ => RgX.val_at (hok 19 87 _ (by decide) rfl rfl) | 88, _ => RgX.val_at (hok 20 88 _ (by decide) rfl rfl) | 89, _ => RgX.val_at (hok 21 89 _ (by decide) rfl rfl) | 90, _ => RgX.val_at (hok 22 90 _ (by decide) rfl rfl) | 91, _ => RgX.val_at (hok 23 91 _ (by decide) rfl rfl) | 92, _ => RgX.val_at (hok 24 92 _ (by decide) rfl rfl) | 93, _ => RgX.val_at (hok 25 93 _ (by decide) rfl rfl) | 94, _ => RgX.val_at (hok 26 94 _ (by decide) rfl rfl) | 95, _ => RgX.val_at (hok 27 95 _ (by decide) rfl rfl) | 96, _ => RgX.val_at (hok 28 96 _ (by decide) rfl rfl) | n + 97, h => absurd h (by show ¬ n + 97 < 97; omega))
  clear hs hd hlow hok 
  go_wp2_with fail
  go_ret
  exact ⟨rfl, HB.out.trans (hS.mono HB.out.size)⟩
set_option maxHeartbeats 4000000 in
set_option maxRecDepth 100000 in
theorem walk_1 (ek en ea ec eh et ei ep qc qh qt qk qi xk xn xa xc xh xt xi xp yc yh yt yk yi n m at_ v : Int) (s1 s2 s3 s4 : ByteArray) (w : World)
    (HA : Hid (∀ V, Calls Tryz.prog 7 #[.int .i64 at_, .int .i64 7] V fun e w' => e = .returned (.int .i64 1) ∧ V = w'))
    (HG : Hid (∀ V, Calls Tryz.prog 11 #[.int .i64 n, .int .i64 m] V fun e w' => e = .returned (.agg #[.int .i64 xk, .int .i64 xn, .int .i64 xa, .int .i64 xc, .int .i64 xh, .int .i64 xt, .int .i64 xi, .int .i64 xp]) ∧ Below V.heap.size V w'))
    (HH : Hid (∀ V, Calls Tryz.prog 12 #[.int .i64 n, .int .i64 m] V fun e w' => e = .returned (.agg #[.int .i64 yc, .int .i64 yh, .int .i64 yt, .int .i64 yk, .int .i64 yi]) ∧ Below V.heap.size V w'))
    (H1 : Hid (∀ V, Below w.heap.size w V → Calls Tryz.prog 13 #[.agg #[.int .i64 ek, .int .i64 en, .int .i64 ea, .int .i64 ec, .int .i64 eh, .int .i64 et, .int .i64 ei, .int .i64 ep]] V fun e w' => e = .returned (.string s1) ∧ Below V.heap.size V w'))
    (H2 : Hid (∀ V, Below w.heap.size w V → Calls Tryz.prog 14 #[.agg #[.int .i64 ek, .int .i64 en, .int .i64 ea, .int .i64 ec, .int .i64 eh, .int .i64 et, .int .i64 ei, .int .i64 ep]] V fun e w' => e = .returned (.string s1) ∧ Below V.heap.size V w'))
    (H3 : Hid (∀ V, Below w.heap.size w V → Calls Tryz.prog 13 #[.agg #[.int .i64 xk, .int .i64 v, .int .i64 xa, .int .i64 xc, .int .i64 xh, .int .i64 xt, .int .i64 xi, .int .i64 xp]] V fun e w' => e = .returned (.string s2) ∧ Below V.heap.size V w'))
    (H4 : Hid (∀ V, Below w.heap.size w V → Calls Tryz.prog 14 #[.agg #[.int .i64 xk, .int .i64 v, .int .i64 xa, .int .i64 xc, .int .i64 xh, .int .i64 xt, .int .i64 xi, .int .i64 xp]] V fun e w' => e = .returned (.string s2) ∧ Below V.heap.size V w'))
    (H5 : Hid (∀ V, Below w.heap.size w V → Calls Tryz.prog 15 #[.agg #[.int .i64 qc, .int .i64 qh, .int .i64 qt, .int .i64 qk, .int .i64 qi]] V fun e w' => e = .returned (.string s3) ∧ Below V.heap.size V w'))
    (H6 : Hid (∀ V, Below w.heap.size w V → Calls Tryz.prog 16 #[.agg #[.int .i64 qc, .int .i64 qh, .int .i64 qt, .int .i64 qk, .int .i64 qi]] V fun e w' => e = .returned (.string s3) ∧ Below V.heap.size V w'))
    (H7 : Hid (∀ V, Below w.heap.size w V → Calls Tryz.prog 15 #[.agg #[.int .i64 v, .int .i64 yh, .int .i64 yt, .int .i64 yk, .int .i64 yi]] V fun e w' => e = .returned (.string s4) ∧ Below V.heap.size V w'))
    (H8 : Hid (∀ V, Below w.heap.size w V → Calls Tryz.prog 16 #[.agg #[.int .i64 v, .int .i64 yh, .int .i64 yt, .int .i64 yk, .int .i64 yi]] V fun e w' => e = .returned (.string s4) ∧ Below V.heap.size V w'))
    (HL : Hid (∀ V, Below w.heap.size w V → Calls Tryz.prog 10 #[] V fun e w' => e = .returned (.bool true) ∧ Below V.heap.size V w')) :
    Calls Tryz.prog 4 #[.agg #[.int .i64 ek, .int .i64 en, .int .i64 ea, .int .i64 ec, .int .i64 eh, .int .i64 et, .int .i64 ei, .int .i64 ep], .agg #[.int .i64 qc, .int .i64 qh, .int .i64 qt, .int .i64 qk, .int .i64 qi], .int .i64 n, .int .i64 m, .int .i64 at_, .int .i64 v] w fun e w' => e = .returned (.bool true) ∧ Below w.heap.size w w' := by
  obtain ⟨U, hU, hb0, ke, kq, hlt⟩ := two_boxes w (.cells #[.int .i64 ek, .int .i64 en, .int .i64 ea, .int .i64 ec, .int .i64 eh, .int .i64 et, .int .i64 ei, .int .i64 ep] 28) (.cells #[.int .i64 qc, .int .i64 qh, .int .i64 qt, .int .i64 qk, .int .i64 qi] 36)
  have HB0 := Lib.hid (And.intro hb0 (And.intro ke (And.intro kq hlt)))
  have hs0 := hb0.size
  clear hb0 ke kq
  go_enter Tryz.func4, Tryz.ntmps4
  go_wp2_with fail
  clear hU
  refine (HG.out _).mono ?_
  rintro e v1 ⟨rfl, hb1⟩
  have h1z := hb1.size
  have HB1 := Lib.hid hb1
  clear hb1
  go_wp2_with (refine RgX.wpList_store_seg rfl 28 _ _ rfl v1.heap.size 0 (.agg #[.int .i64 xk, .int .i64 xn, .int .i64 xa, .int .i64 xc, .int .i64 xh, .int .i64 xt, .int .i64 xi, .int .i64 xp]) rfl rfl 28 #[.int .i64 0, .int .i64 0, .int .i64 0, .int .i64 0, .int .i64 0, .int .i64 0, .int .i64 0, .int .i64 0] (new_at rfl) (by rw [size_ev]; rfl) (by show 0 + 8 ≤ 8; omega) (by simp [Value.cells, Value.oneCell']) #[.int .i64 xk, .int .i64 xn, .int .i64 xa, .int .i64 xc, .int .i64 xh, .int .i64 xt, .int .i64 xi, .int .i64 xp] rfl ?_; intro u1 kx1 ho1 hz1 hx1)
  have h1u : u1.heap.size = v1.heap.size + 1 := by rw [hz1]; simp
  have hu1 : Below v1.heap.size v1 u1 := (one_box v1 _).trans hx1
  refine (HH.out _).mono ?_
  rintro e v2 ⟨rfl, hb2⟩
  have h2z := hb2.size
  have kx2 : v2.heap[v1.heap.size]? = some (.cells #[.int .i64 xk, .int .i64 xn, .int .i64 xa, .int .i64 xc, .int .i64 xh, .int .i64 xt, .int .i64 xi, .int .i64 xp] 28 (0, 0)) := (hb2.block _ (by omega)).trans kx1
  have HB2 := Lib.hid (show Below U.heap.size U v2 from (HB1.out.trans (hu1.mono h1z)).trans (hb2.mono (by omega)))
  have KX2 := Lib.hid kx2
  clear hb2 hu1 ho1 hz1 hx1 kx1 kx2 HB1
  have hne : v1.heap.size ≠ v2.heap.size := by omega
  go_wp2_with (first | (refine RgX.wpList_store_seg rfl 36 _ _ rfl v2.heap.size 0 (.agg #[.int .i64 yc, .int .i64 yh, .int .i64 yt, .int .i64 yk, .int .i64 yi]) rfl rfl 36 #[.int .i64 0, .int .i64 0, .int .i64 0, .int .i64 0, .int .i64 0] (new_at rfl) (by rw [size_qu]; rfl) (by show 0 + 5 ≤ 5; omega) (by simp [Value.cells, Value.oneCell']) #[.int .i64 yc, .int .i64 yh, .int .i64 yt, .int .i64 yk, .int .i64 yi] rfl ?_; intro u2 ky2 ho2 hz2 hx2; have kx3 : u2.heap[v1.heap.size]? = some (.cells #[.int .i64 xk, .int .i64 xn, .int .i64 xa, .int .i64 xc, .int .i64 xh, .int .i64 xt, .int .i64 xi, .int .i64 xp] 28 (0, 0)) := (ho2 _ hne).trans ((Below.heap_alloc _ _ _ (by omega)).trans KX2.out); have h2u : u2.heap.size = v2.heap.size + 1 := (by rw [hz2]; simp); have HU2 := Lib.hid (show Below U.heap.size U u2 from HB2.out.trans (((one_box v2 _).trans hx2).mono (by omega))); have KX3 := Lib.hid kx3; have KY2 := Lib.hid ky2; clear kx3 ky2 ho2 hz2 hx2) | (go_at_call 7; refine (HA.out _).mono ?_; rintro e w1 ⟨rfl, rfl⟩) | (refine RgX.wpList_store_seg rfl 3 _ _ rfl v1.heap.size 1 (.int .i64 v) rfl rfl 28 _ KX3.out (by rw [size_in]; rfl) (by show 1 + 1 ≤ 8; omega) (by simp [Value.cells, Value.oneCell']) #[.int .i64 xk, .int .i64 v, .int .i64 xa, .int .i64 xc, .int .i64 xh, .int .i64 xt, .int .i64 xi, .int .i64 xp] rfl ?_; intro u3 kx4 ho3 hz3 hx3; have ky3 : u3.heap[v2.heap.size]? = some (.cells #[.int .i64 yc, .int .i64 yh, .int .i64 yt, .int .i64 yk, .int .i64 yi] 36 (0, 0)) := (ho3 _ (fun e => hne e.symm)).trans KY2.out; have h3u : u3.heap.size = u2.heap.size := hz3; have HU3 := Lib.hid (show Below U.heap.size U u3 from HU2.out.trans (hx3.mono (by omega))); have KX4 := Lib.hid kx4; have KY3 := Lib.hid ky3; clear kx4 ky3 ho3 hz3 hx3) | (refine RgX.wpList_store_seg rfl 3 _ _ rfl v2.heap.size 0 (.int .i64 v) rfl rfl 36 _ KY3.out (by rw [size_in]; rfl) (by show 0 + 1 ≤ 5; omega) (by simp [Value.cells, Value.oneCell']) #[.int .i64 v, .int .i64 yh, .int .i64 yt, .int .i64 yk, .int .i64 yi] rfl ?_; intro u4 ky4 ho4 hz4 hx4; have kx5 : u4.heap[v1.heap.size]? = some (.cells #[.int .i64 xk, .int .i64 v, .int .i64 xa, .int .i64 xc, .int .i64 xh, .int .i64 xt, .int .i64 xi, .int .i64 xp] 28 (0, 0)) := (ho4 _ hne).trans KX4.out; have h4u : u4.heap.size = u2.heap.size := hz4.trans h3u; have HU4 := Lib.hid (show Below U.heap.size U u4 from HU3.out.trans (hx4.mono (by omega))); have KXF := Lib.hid kx5; have KYF := Lib.hid ky4; clear kx5 ky4 ho4 hz4 hx4))
  obtain ⟨hb0, ke, kq, hlt⟩ := HB0.out
  have kx := KXF.out
  have ky := KYF.out
  have hbu := HU4.out
  have hzu : u4.heap.size = v2.heap.size + 1 := by omega
  have HB := Lib.hid (show Below w.heap.size w u4 from hb0.trans (hbu.mono hb0.size))
  have HK := Lib.hid (fun (V : World) (hV : Below u4.heap.size u4 V) => And.intro (row8 ((hV.block _ (by omega)).trans ((hbu.block _ (by omega)).trans ke))) (And.intro (row5 ((hV.block _ (by omega)).trans ((hbu.block _ hlt).trans kq))) (And.intro (row8 ((hV.block _ (by omega)).trans kx)) (row5 ((hV.block _ (by omega)).trans ky)))))
  clear hb0 ke kq kx ky hbu HB0 HB2
  refine RgX.region 30 (fun i => (if i = 29 then 12 else 68 + i)) (fun ix_ => match ix_ with | 0 => .v (.agg #[.int .i64 ek, .int .i64 en, .int .i64 ea, .int .i64 ec, .int .i64 eh, .int .i64 et, .int .i64 ei, .int .i64 ep]) | 1 => .v (.string s1) | 2 => .v (.agg #[.int .i64 ek, .int .i64 en, .int .i64 ea, .int .i64 ec, .int .i64 eh, .int .i64 et, .int .i64 ei, .int .i64 ep]) | 3 => .v (.string s1) | 4 => .v (.bool true) | 5 => .v (.bool true) | 6 => .v (.agg #[.int .i64 xk, .int .i64 v, .int .i64 xa, .int .i64 xc, .int .i64 xh, .int .i64 xt, .int .i64 xi, .int .i64 xp]) | 7 => .v (.string s2) | 8 => .v (.agg #[.int .i64 xk, .int .i64 v, .int .i64 xa, .int .i64 xc, .int .i64 xh, .int .i64 xt, .int .i64 xi, .int .i64 xp]) | 9 => .v (.string s2) | 10 => .v (.bool true) | 11 => .v (.bool true) | 12 => .v (.bool true) | 13 => .v (.agg #[.int .i64 qc, .int .i64 qh, .int .i64 qt, .int .i64 qk, .int .i64 qi]) | 14 => .v (.string s3) | 15 => .v (.agg #[.int .i64 qc, .int .i64 qh, .int .i64 qt, .int .i64 qk, .int .i64 qi]) | 16 => .v (.string s3) | 17 => .v (.bool true) | 18 => .v (.bool true) | 19 => .v (.bool true) | 20 => .v (.agg #[.int .i64 v, .int .i64 yh, .int .i64 yt, .int .i64 yk, .int .i64 yi]) | 21 => .v (.string s4) | 22 => .v (.agg #[.int .i64 v, .int .i64 yh, .int .i64 yt, .int .i64 yk, .int .i64 yi]) | 23 => .v (.string s4) | 24 => .v (.bool true) | 25 => .v (.bool true) | 26 => .v (.bool true) | 27 => .v (.bool true) | 28 => .v (.bool true) | 29 => .v (.bool true) | _ => .any) (by kernel_rfl) rfl (by kernel_rfl)  (fun i hi => by show (if i = 29 then 12 else 68 + i) < 97; (repeat' split) <;> omega) (fun i j hi hj => by show (if i = 29 then 12 else 68 + i) = (if j = 29 then 12 else 68 + j) → i = j; (repeat' split) <;> omega) ?step ?fin
  case step =>
    intro L_ A_ w3 ix op_ hI ho hdep
    have hi : ix < 30 := (Array.getElem?_eq_some_iff.1 ho).1
    have hcase : ix = 0 ∨ ix = 1 ∨ ix = 2 ∨ ix = 3 ∨ ix = 4 ∨ ix = 5 ∨ ix = 6 ∨ ix = 7 ∨ ix = 8 ∨ ix = 9 ∨ ix = 10 ∨ ix = 11 ∨ ix = 12 ∨ ix = 13 ∨ ix = 14 ∨ ix = 15 ∨ ix = 16 ∨ ix = 17 ∨ ix = 18 ∨ ix = 19 ∨ ix = 20 ∨ ix = 21 ∨ ix = 22 ∨ ix = 23 ∨ ix = 24 ∨ ix = 25 ∨ ix = 26 ∨ ix = 27 ∨ ix = 28 ∨ ix = 29 := by omega
    have hh := hI.held
    clear hi
    rcases hcase with rfl | rfl | rfl | rfl | rfl | rfl | rfl | rfl | rfl | rfl | rfl | rfl | rfl | rfl | rfl | rfl | rfl | rfl | rfl | rfl | rfl | rfl | rfl | rfl | rfl | rfl | rfl | rfl | rfl | rfl
    · simp only [List.getElem?_toArray, List.getElem?_cons_zero, Option.some.injEq] at ho
      subst ho
      refine ⟨rfl, ?_⟩
      have e6 : A_.tmps[6]?.getD undef = .pointer (some ⟨w.heap.size, 0, none⟩) := by rw [hI.low 6 (by decide)]; rfl
      clear hI hdep
      obtain ⟨⟨fa0, fa1, fa2, fa3, fa4, fa5, fa6, fa7⟩, ⟨fb0, fb1, fb2, fb3, fb4⟩, ⟨fc0, fc1, fc2, fc3, fc4, fc5, fc6, fc7⟩, fd0, fd1, fd2, fd3, fd4⟩ := HK.out w3 hh
      exact .run rfl (.agg #[.int .i64 ek, .int .i64 en, .int .i64 ea, .int .i64 ec, .int .i64 eh, .int .i64 et, .int .i64 ei, .int .i64 ep]) w3 (by simp [execOp, go_sem, Act.eval, *]) (Below.refl _ _) rfl
    · simp only [List.getElem?_toArray, List.getElem?_cons_succ, List.getElem?_cons_zero, Option.some.injEq] at ho
      subst ho
      refine ⟨rfl, ?_⟩
      have e68 : A_.tmps[68]?.getD undef = .agg #[.int .i64 ek, .int .i64 en, .int .i64 ea, .int .i64 ec, .int .i64 eh, .int .i64 et, .int .i64 ei, .int .i64 ep] := getD_of (hI.val_ (i := 0) rfl rfl (by decide) (hdep ⟨0, .data⟩ (by simp) rfl))
      clear hI hdep
      exact .call rfl 13 #[.agg #[.int .i64 ek, .int .i64 en, .int .i64 ea, .int .i64 ec, .int .i64 eh, .int .i64 et, .int .i64 ei, .int .i64 ep]] (by simp [go_sem, Act.eval, e68]) ((H1.out w3 (HB.out.trans (hh.mono HB.out.size))).mono fun _ _ ⟨h1_, h2_⟩ => ⟨⟨_, h1_, rfl⟩, h2_⟩)
    · simp only [List.getElem?_toArray, List.getElem?_cons_succ, List.getElem?_cons_zero, Option.some.injEq] at ho
      subst ho
      refine ⟨rfl, ?_⟩
      have e6 : A_.tmps[6]?.getD undef = .pointer (some ⟨w.heap.size, 0, none⟩) := by rw [hI.low 6 (by decide)]; rfl
      clear hI hdep
      obtain ⟨⟨fa0, fa1, fa2, fa3, fa4, fa5, fa6, fa7⟩, ⟨fb0, fb1, fb2, fb3, fb4⟩, ⟨fc0, fc1, fc2, fc3, fc4, fc5, fc6, fc7⟩, fd0, fd1, fd2, fd3, fd4⟩ := HK.out w3 hh
      exact .run rfl (.agg #[.int .i64 ek, .int .i64 en, .int .i64 ea, .int .i64 ec, .int .i64 eh, .int .i64 et, .int .i64 ei, .int .i64 ep]) w3 (by simp [execOp, go_sem, Act.eval, *]) (Below.refl _ _) rfl
    · simp only [List.getElem?_toArray, List.getElem?_cons_succ, List.getElem?_cons_zero, Option.some.injEq] at ho
      subst ho
      refine ⟨rfl, ?_⟩
      have e70 : A_.tmps[70]?.getD undef = .agg #[.int .i64 ek, .int .i64 en, .int .i64 ea, .int .i64 ec, .int .i64 eh, .int .i64 et, .int .i64 ei, .int .i64 ep] := getD_of (hI.val_ (i := 2) rfl rfl (by decide) (hdep ⟨2, .data⟩ (by simp) rfl))
      clear hI hdep
      exact .call rfl 14 #[.agg #[.int .i64 ek, .int .i64 en, .int .i64 ea, .int .i64 ec, .int .i64 eh, .int .i64 et, .int .i64 ei, .int .i64 ep]] (by simp [go_sem, Act.eval, e70]) ((H2.out w3 (HB.out.trans (hh.mono HB.out.size))).mono fun _ _ ⟨h1_, h2_⟩ => ⟨⟨_, h1_, rfl⟩, h2_⟩)
    · simp only [List.getElem?_toArray, List.getElem?_cons_succ, List.getElem?_cons_zero, Option.some.injEq] at ho
      subst ho
      refine ⟨rfl, ?_⟩
      have e69 : A_.tmps[69]?.getD undef = .string s1 := getD_of (hI.val_ (i := 1) rfl rfl (by decide) (hdep ⟨1, .data⟩ (by simp) rfl))
      have e71 : A_.tmps[71]?.getD undef = .string s1 := getD_of (hI.val_ (i := 3) rfl rfl (by decide) (hdep ⟨3, .data⟩ (by simp) rfl))
      clear hI hdep
      exact .run rfl (.bool true) w3 (by simp [execOp, go_sem, Act.eval, *]) (Below.refl _ _) rfl
    · simp only [List.getElem?_toArray, List.getElem?_cons_succ, List.getElem?_cons_zero, Option.some.injEq] at ho
      subst ho
      refine ⟨rfl, ?_⟩
      have e72 : A_.tmps[72]?.getD undef = .bool true := getD_of (hI.val_ (i := 4) rfl rfl (by decide) (hdep ⟨4, .data⟩ (by simp) rfl))
      clear hI hdep
      exact .run rfl (.bool true) w3 (by simp [execOp, go_sem, Act.eval, e72]) (Below.refl _ _) rfl
    · simp only [List.getElem?_toArray, List.getElem?_cons_succ, List.getElem?_cons_zero, Option.some.injEq] at ho
      subst ho
      refine ⟨rfl, ?_⟩
      have q73 : A_.tmps[73]? = some (.bool true) := hI.val_ (i := 5) rfl rfl (by decide) (hdep ⟨5, .guard⟩ (by simp) rfl)
      have e13 : A_.tmps[13]?.getD undef = .pointer (some ⟨v1.heap.size, 0, none⟩) := by rw [hI.low 13 (by decide)]; rfl
      clear hI hdep
      obtain ⟨⟨fa0, fa1, fa2, fa3, fa4, fa5, fa6, fa7⟩, ⟨fb0, fb1, fb2, fb3, fb4⟩, ⟨fc0, fc1, fc2, fc3, fc4, fc5, fc6, fc7⟩, fd0, fd1, fd2, fd3, fd4⟩ := HK.out w3 hh
      exact .run ((wanted_some rfl rfl q73).trans rfl) (.agg #[.int .i64 xk, .int .i64 v, .int .i64 xa, .int .i64 xc, .int .i64 xh, .int .i64 xt, .int .i64 xi, .int .i64 xp]) w3 (by simp [execOp, go_sem, Act.eval, *]) (Below.refl _ _) rfl
    · simp only [List.getElem?_toArray, List.getElem?_cons_succ, List.getElem?_cons_zero, Option.some.injEq] at ho
      subst ho
      refine ⟨rfl, ?_⟩
      have q73 : A_.tmps[73]? = some (.bool true) := hI.val_ (i := 5) rfl rfl (by decide) (hdep ⟨5, .guard⟩ (by simp) rfl)
      have e74 : A_.tmps[74]?.getD undef = .agg #[.int .i64 xk, .int .i64 v, .int .i64 xa, .int .i64 xc, .int .i64 xh, .int .i64 xt, .int .i64 xi, .int .i64 xp] := getD_of (hI.val_ (i := 6) rfl rfl (by decide) (hdep ⟨6, .data⟩ (by simp) rfl))
      clear hI hdep
      exact .call ((wanted_some rfl rfl q73).trans rfl) 13 #[.agg #[.int .i64 xk, .int .i64 v, .int .i64 xa, .int .i64 xc, .int .i64 xh, .int .i64 xt, .int .i64 xi, .int .i64 xp]] (by simp [go_sem, Act.eval, e74]) ((H3.out w3 (HB.out.trans (hh.mono HB.out.size))).mono fun _ _ ⟨h1_, h2_⟩ => ⟨⟨_, h1_, rfl⟩, h2_⟩)
    · simp only [List.getElem?_toArray, List.getElem?_cons_succ, List.getElem?_cons_zero, Option.some.injEq] at ho
      subst ho
      refine ⟨rfl, ?_⟩
      have q73 : A_.tmps[73]? = some (.bool true) := hI.val_ (i := 5) rfl rfl (by decide) (hdep ⟨5, .guard⟩ (by simp) rfl)
      have e13 : A_.tmps[13]?.getD undef = .pointer (some ⟨v1.heap.size, 0, none⟩) := by rw [hI.low 13 (by decide)]; rfl
      clear hI hdep
      obtain ⟨⟨fa0, fa1, fa2, fa3, fa4, fa5, fa6, fa7⟩, ⟨fb0, fb1, fb2, fb3, fb4⟩, ⟨fc0, fc1, fc2, fc3, fc4, fc5, fc6, fc7⟩, fd0, fd1, fd2, fd3, fd4⟩ := HK.out w3 hh
      exact .run ((wanted_some rfl rfl q73).trans rfl) (.agg #[.int .i64 xk, .int .i64 v, .int .i64 xa, .int .i64 xc, .int .i64 xh, .int .i64 xt, .int .i64 xi, .int .i64 xp]) w3 (by simp [execOp, go_sem, Act.eval, *]) (Below.refl _ _) rfl
    · simp only [List.getElem?_toArray, List.getElem?_cons_succ, List.getElem?_cons_zero, Option.some.injEq] at ho
      subst ho
      refine ⟨rfl, ?_⟩
      have q73 : A_.tmps[73]? = some (.bool true) := hI.val_ (i := 5) rfl rfl (by decide) (hdep ⟨5, .guard⟩ (by simp) rfl)
      have e76 : A_.tmps[76]?.getD undef = .agg #[.int .i64 xk, .int .i64 v, .int .i64 xa, .int .i64 xc, .int .i64 xh, .int .i64 xt, .int .i64 xi, .int .i64 xp] := getD_of (hI.val_ (i := 8) rfl rfl (by decide) (hdep ⟨8, .data⟩ (by simp) rfl))
      clear hI hdep
      exact .call ((wanted_some rfl rfl q73).trans rfl) 14 #[.agg #[.int .i64 xk, .int .i64 v, .int .i64 xa, .int .i64 xc, .int .i64 xh, .int .i64 xt, .int .i64 xi, .int .i64 xp]] (by simp [go_sem, Act.eval, e76]) ((H4.out w3 (HB.out.trans (hh.mono HB.out.size))).mono fun _ _ ⟨h1_, h2_⟩ => ⟨⟨_, h1_, rfl⟩, h2_⟩)
    · simp only [List.getElem?_toArray, List.getElem?_cons_succ, List.getElem?_cons_zero, Option.some.injEq] at ho
      subst ho
      refine ⟨rfl, ?_⟩
      have q73 : A_.tmps[73]? = some (.bool true) := hI.val_ (i := 5) rfl rfl (by decide) (hdep ⟨5, .guard⟩ (by simp) rfl)
      have e75 : A_.tmps[75]?.getD undef = .string s2 := getD_of (hI.val_ (i := 7) rfl rfl (by decide) (hdep ⟨7, .data⟩ (by simp) rfl))
      have e77 : A_.tmps[77]?.getD undef = .string s2 := getD_of (hI.val_ (i := 9) rfl rfl (by decide) (hdep ⟨9, .data⟩ (by simp) rfl))
      clear hI hdep
      exact .run ((wanted_some rfl rfl q73).trans rfl) (.bool true) w3 (by simp [execOp, go_sem, Act.eval, *]) (Below.refl _ _) rfl
    · simp only [List.getElem?_toArray, List.getElem?_cons_succ, List.getElem?_cons_zero, Option.some.injEq] at ho
      subst ho
      refine ⟨rfl, ?_⟩
      have e73 : A_.tmps[73]?.getD undef = .bool true := getD_of (hI.val_ (i := 5) rfl rfl (by decide) (hdep ⟨5, .data⟩ (by simp) rfl))
      have e78 : A_.tmps[78]?.getD undef = .bool true := getD_of (hI.val_ (i := 10) rfl rfl (by decide) (hdep ⟨10, .data⟩ (by simp) rfl))
      clear hI hdep
      exact .run rfl (.bool true) w3 (by simp [execOp, go_sem, Act.eval, e73, e78]) (Below.refl _ _) rfl
    · simp only [List.getElem?_toArray, List.getElem?_cons_succ, List.getElem?_cons_zero, Option.some.injEq] at ho
      subst ho
      refine ⟨rfl, ?_⟩
      have e79 : A_.tmps[79]?.getD undef = .bool true := getD_of (hI.val_ (i := 11) rfl rfl (by decide) (hdep ⟨11, .data⟩ (by simp) rfl))
      clear hI hdep
      exact .run rfl (.bool true) w3 (by simp [execOp, go_sem, Act.eval, e79]) (Below.refl _ _) rfl
    · simp only [List.getElem?_toArray, List.getElem?_cons_succ, List.getElem?_cons_zero, Option.some.injEq] at ho
      subst ho
      refine ⟨rfl, ?_⟩
      have q80 : A_.tmps[80]? = some (.bool true) := hI.val_ (i := 12) rfl rfl (by decide) (hdep ⟨12, .guard⟩ (by simp) rfl)
      have e7 : A_.tmps[7]?.getD undef = .pointer (some ⟨w.heap.size + 1, 0, none⟩) := by rw [hI.low 7 (by decide)]; rfl
      clear hI hdep
      obtain ⟨⟨fa0, fa1, fa2, fa3, fa4, fa5, fa6, fa7⟩, ⟨fb0, fb1, fb2, fb3, fb4⟩, ⟨fc0, fc1, fc2, fc3, fc4, fc5, fc6, fc7⟩, fd0, fd1, fd2, fd3, fd4⟩ := HK.out w3 hh
      exact .run ((wanted_some rfl rfl q80).trans rfl) (.agg #[.int .i64 qc, .int .i64 qh, .int .i64 qt, .int .i64 qk, .int .i64 qi]) w3 (by simp [execOp, go_sem, Act.eval, *]) (Below.refl _ _) rfl
    · simp only [List.getElem?_toArray, List.getElem?_cons_succ, List.getElem?_cons_zero, Option.some.injEq] at ho
      subst ho
      refine ⟨rfl, ?_⟩
      have q80 : A_.tmps[80]? = some (.bool true) := hI.val_ (i := 12) rfl rfl (by decide) (hdep ⟨12, .guard⟩ (by simp) rfl)
      have e81 : A_.tmps[81]?.getD undef = .agg #[.int .i64 qc, .int .i64 qh, .int .i64 qt, .int .i64 qk, .int .i64 qi] := getD_of (hI.val_ (i := 13) rfl rfl (by decide) (hdep ⟨13, .data⟩ (by simp) rfl))
      clear hI hdep
      exact .call ((wanted_some rfl rfl q80).trans rfl) 15 #[.agg #[.int .i64 qc, .int .i64 qh, .int .i64 qt, .int .i64 qk, .int .i64 qi]] (by simp [go_sem, Act.eval, e81]) ((H5.out w3 (HB.out.trans (hh.mono HB.out.size))).mono fun _ _ ⟨h1_, h2_⟩ => ⟨⟨_, h1_, rfl⟩, h2_⟩)
    · simp only [List.getElem?_toArray, List.getElem?_cons_succ, List.getElem?_cons_zero, Option.some.injEq] at ho
      subst ho
      refine ⟨rfl, ?_⟩
      have q80 : A_.tmps[80]? = some (.bool true) := hI.val_ (i := 12) rfl rfl (by decide) (hdep ⟨12, .guard⟩ (by simp) rfl)
      have e7 : A_.tmps[7]?.getD undef = .pointer (some ⟨w.heap.size + 1, 0, none⟩) := by rw [hI.low 7 (by decide)]; rfl
      clear hI hdep
      obtain ⟨⟨fa0, fa1, fa2, fa3, fa4, fa5, fa6, fa7⟩, ⟨fb0, fb1, fb2, fb3, fb4⟩, ⟨fc0, fc1, fc2, fc3, fc4, fc5, fc6, fc7⟩, fd0, fd1, fd2, fd3, fd4⟩ := HK.out w3 hh
      exact .run ((wanted_some rfl rfl q80).trans rfl) (.agg #[.int .i64 qc, .int .i64 qh, .int .i64 qt, .int .i64 qk, .int .i64 qi]) w3 (by simp [execOp, go_sem, Act.eval, *]) (Below.refl _ _) rfl
    · simp only [List.getElem?_toArray, List.getElem?_cons_succ, List.getElem?_cons_zero, Option.some.injEq] at ho
      subst ho
      refine ⟨rfl, ?_⟩
      have q80 : A_.tmps[80]? = some (.bool true) := hI.val_ (i := 12) rfl rfl (by decide) (hdep ⟨12, .guard⟩ (by simp) rfl)
      have e83 : A_.tmps[83]?.getD undef = .agg #[.int .i64 qc, .int .i64 qh, .int .i64 qt, .int .i64 qk, .int .i64 qi] := getD_of (hI.val_ (i := 15) rfl rfl (by decide) (hdep ⟨15, .data⟩ (by simp) rfl))
      clear hI hdep
      exact .call ((wanted_some rfl rfl q80).trans rfl) 16 #[.agg #[.int .i64 qc, .int .i64 qh, .int .i64 qt, .int .i64 qk, .int .i64 qi]] (by simp [go_sem, Act.eval, e83]) ((H6.out w3 (HB.out.trans (hh.mono HB.out.size))).mono fun _ _ ⟨h1_, h2_⟩ => ⟨⟨_, h1_, rfl⟩, h2_⟩)
    · simp only [List.getElem?_toArray, List.getElem?_cons_succ, List.getElem?_cons_zero, Option.some.injEq] at ho
      subst ho
      refine ⟨rfl, ?_⟩
      have q80 : A_.tmps[80]? = some (.bool true) := hI.val_ (i := 12) rfl rfl (by decide) (hdep ⟨12, .guard⟩ (by simp) rfl)
      have e82 : A_.tmps[82]?.getD undef = .string s3 := getD_of (hI.val_ (i := 14) rfl rfl (by decide) (hdep ⟨14, .data⟩ (by simp) rfl))
      have e84 : A_.tmps[84]?.getD undef = .string s3 := getD_of (hI.val_ (i := 16) rfl rfl (by decide) (hdep ⟨16, .data⟩ (by simp) rfl))
      clear hI hdep
      exact .run ((wanted_some rfl rfl q80).trans rfl) (.bool true) w3 (by simp [execOp, go_sem, Act.eval, *]) (Below.refl _ _) rfl
    · simp only [List.getElem?_toArray, List.getElem?_cons_succ, List.getElem?_cons_zero, Option.some.injEq] at ho
      subst ho
      refine ⟨rfl, ?_⟩
      have e80 : A_.tmps[80]?.getD undef = .bool true := getD_of (hI.val_ (i := 12) rfl rfl (by decide) (hdep ⟨12, .data⟩ (by simp) rfl))
      have e85 : A_.tmps[85]?.getD undef = .bool true := getD_of (hI.val_ (i := 17) rfl rfl (by decide) (hdep ⟨17, .data⟩ (by simp) rfl))
      clear hI hdep
      exact .run rfl (.bool true) w3 (by simp [execOp, go_sem, Act.eval, e80, e85]) (Below.refl _ _) rfl
    · simp only [List.getElem?_toArray, List.getElem?_cons_succ, List.getElem?_cons_zero, Option.some.injEq] at ho
      subst ho
      refine ⟨rfl, ?_⟩
      have e86 : A_.tmps[86]?.getD undef = .bool true := getD_of (hI.val_ (i := 18) rfl rfl (by decide) (hdep ⟨18, .data⟩ (by simp) rfl))
      clear hI hdep
      exact .run rfl (.bool true) w3 (by simp [execOp, go_sem, Act.eval, e86]) (Below.refl _ _) rfl
    · simp only [List.getElem?_toArray, List.getElem?_cons_succ, List.getElem?_cons_zero, Option.some.injEq] at ho
      subst ho
      refine ⟨rfl, ?_⟩
      have q87 : A_.tmps[87]? = some (.bool true) := hI.val_ (i := 19) rfl rfl (by decide) (hdep ⟨19, .guard⟩ (by simp) rfl)
      have e14 : A_.tmps[14]?.getD undef = .pointer (some ⟨v2.heap.size, 0, none⟩) := by rw [hI.low 14 (by decide)]; rfl
      clear hI hdep
      obtain ⟨⟨fa0, fa1, fa2, fa3, fa4, fa5, fa6, fa7⟩, ⟨fb0, fb1, fb2, fb3, fb4⟩, ⟨fc0, fc1, fc2, fc3, fc4, fc5, fc6, fc7⟩, fd0, fd1, fd2, fd3, fd4⟩ := HK.out w3 hh
      exact .run ((wanted_some rfl rfl q87).trans rfl) (.agg #[.int .i64 v, .int .i64 yh, .int .i64 yt, .int .i64 yk, .int .i64 yi]) w3 (by simp [execOp, go_sem, Act.eval, *]) (Below.refl _ _) rfl
    · simp only [List.getElem?_toArray, List.getElem?_cons_succ, List.getElem?_cons_zero, Option.some.injEq] at ho
      subst ho
      refine ⟨rfl, ?_⟩
      have q87 : A_.tmps[87]? = some (.bool true) := hI.val_ (i := 19) rfl rfl (by decide) (hdep ⟨19, .guard⟩ (by simp) rfl)
      have e88 : A_.tmps[88]?.getD undef = .agg #[.int .i64 v, .int .i64 yh, .int .i64 yt, .int .i64 yk, .int .i64 yi] := getD_of (hI.val_ (i := 20) rfl rfl (by decide) (hdep ⟨20, .data⟩ (by simp) rfl))
      clear hI hdep
      exact .call ((wanted_some rfl rfl q87).trans rfl) 15 #[.agg #[.int .i64 v, .int .i64 yh, .int .i64 yt, .int .i64 yk, .int .i64 yi]] (by simp [go_sem, Act.eval, e88]) ((H7.out w3 (HB.out.trans (hh.mono HB.out.size))).mono fun _ _ ⟨h1_, h2_⟩ => ⟨⟨_, h1_, rfl⟩, h2_⟩)
    · simp only [List.getElem?_toArray, List.getElem?_cons_succ, List.getElem?_cons_zero, Option.some.injEq] at ho
      subst ho
      refine ⟨rfl, ?_⟩
      have q87 : A_.tmps[87]? = some (.bool true) := hI.val_ (i := 19) rfl rfl (by decide) (hdep ⟨19, .guard⟩ (by simp) rfl)
      have e14 : A_.tmps[14]?.getD undef = .pointer (some ⟨v2.heap.size, 0, none⟩) := by rw [hI.low 14 (by decide)]; rfl
      clear hI hdep
      obtain ⟨⟨fa0, fa1, fa2, fa3, fa4, fa5, fa6, fa7⟩, ⟨fb0, fb1, fb2, fb3, fb4⟩, ⟨fc0, fc1, fc2, fc3, fc4, fc5, fc6, fc7⟩, fd0, fd1, fd2, fd3, fd4⟩ := HK.out w3 hh
      exact .run ((wanted_some rfl rfl q87).trans rfl) (.agg #[.int .i64 v, .int .i64 yh, .int .i64 yt, .int .i64 yk, .int .i64 yi]) w3 (by simp [execOp, go_sem, Act.eval, *]) (Below.refl _ _) rfl
    · simp only [List.getElem?_toArray, List.getElem?_cons_succ, List.getElem?_cons_zero, Option.some.injEq] at ho
      subst ho
      refine ⟨rfl, ?_⟩
      have q87 : A_.tmps[87]? = some (.bool true) := hI.val_ (i := 19) rfl rfl (by decide) (hdep ⟨19, .guard⟩ (by simp) rfl)
      have e90 : A_.tmps[90]?.getD undef = .agg #[.int .i64 v, .int .i64 yh, .int .i64 yt, .int .i64 yk, .int .i64 yi] := getD_of (hI.val_ (i := 22) rfl rfl (by decide) (hdep ⟨22, .data⟩ (by simp) rfl))
      clear hI hdep
      exact .call ((wanted_some rfl rfl q87).trans rfl) 16 #[.agg #[.int .i64 v, .int .i64 yh, .int .i64 yt, .int .i64 yk, .int .i64 yi]] (by simp [go_sem, Act.eval, e90]) ((H8.out w3 (HB.out.trans (hh.mono HB.out.size))).mono fun _ _ ⟨h1_, h2_⟩ => ⟨⟨_, h1_, rfl⟩, h2_⟩)
    · simp only [List.getElem?_toArray, List.getElem?_cons_succ, List.getElem?_cons_zero, Option.some.injEq] at ho
      subst ho
      refine ⟨rfl, ?_⟩
      have q87 : A_.tmps[87]? = some (.bool true) := hI.val_ (i := 19) rfl rfl (by decide) (hdep ⟨19, .guard⟩ (by simp) rfl)
      have e89 : A_.tmps[89]?.getD undef = .string s4 := getD_of (hI.val_ (i := 21) rfl rfl (by decide) (hdep ⟨21, .data⟩ (by simp) rfl))
      have e91 : A_.tmps[91]?.getD undef = .string s4 := getD_of (hI.val_ (i := 23) rfl rfl (by decide) (hdep ⟨23, .data⟩ (by simp) rfl))
      clear hI hdep
      exact .run ((wanted_some rfl rfl q87).trans rfl) (.bool true) w3 (by simp [execOp, go_sem, Act.eval, *]) (Below.refl _ _) rfl
    · simp only [List.getElem?_toArray, List.getElem?_cons_succ, List.getElem?_cons_zero, Option.some.injEq] at ho
      subst ho
      refine ⟨rfl, ?_⟩
      have e87 : A_.tmps[87]?.getD undef = .bool true := getD_of (hI.val_ (i := 19) rfl rfl (by decide) (hdep ⟨19, .data⟩ (by simp) rfl))
      have e92 : A_.tmps[92]?.getD undef = .bool true := getD_of (hI.val_ (i := 24) rfl rfl (by decide) (hdep ⟨24, .data⟩ (by simp) rfl))
      clear hI hdep
      exact .run rfl (.bool true) w3 (by simp [execOp, go_sem, Act.eval, e87, e92]) (Below.refl _ _) rfl
    · simp only [List.getElem?_toArray, List.getElem?_cons_succ, List.getElem?_cons_zero, Option.some.injEq] at ho
      subst ho
      refine ⟨rfl, ?_⟩
      have e93 : A_.tmps[93]?.getD undef = .bool true := getD_of (hI.val_ (i := 25) rfl rfl (by decide) (hdep ⟨25, .data⟩ (by simp) rfl))
      clear hI hdep
      exact .run rfl (.bool true) w3 (by simp [execOp, go_sem, Act.eval, e93]) (Below.refl _ _) rfl
    · simp only [List.getElem?_toArray, List.getElem?_cons_succ, List.getElem?_cons_zero, Option.some.injEq] at ho
      subst ho
      refine ⟨rfl, ?_⟩
      have q94 : A_.tmps[94]? = some (.bool true) := hI.val_ (i := 26) rfl rfl (by decide) (hdep ⟨26, .guard⟩ (by simp) rfl)
      clear hI hdep
      exact .call ((wanted_some rfl rfl q94).trans rfl) 10 #[] (by simp [go_sem]) ((HL.out w3 (HB.out.trans (hh.mono HB.out.size))).mono fun _ _ ⟨h1_, h2_⟩ => ⟨⟨_, h1_, rfl⟩, h2_⟩)
    · simp only [List.getElem?_toArray, List.getElem?_cons_succ, List.getElem?_cons_zero, Option.some.injEq] at ho
      subst ho
      refine ⟨rfl, ?_⟩
      have e94 : A_.tmps[94]?.getD undef = .bool true := getD_of (hI.val_ (i := 26) rfl rfl (by decide) (hdep ⟨26, .data⟩ (by simp) rfl))
      have e95 : A_.tmps[95]?.getD undef = .bool true := getD_of (hI.val_ (i := 27) rfl rfl (by decide) (hdep ⟨27, .data⟩ (by simp) rfl))
      clear hI hdep
      exact .run rfl (.bool true) w3 (by simp [execOp, go_sem, Act.eval, e94, e95]) (Below.refl _ _) rfl
    · simp only [List.getElem?_toArray, List.getElem?_cons_succ, List.getElem?_cons_zero, Option.some.injEq] at ho
      subst ho
      refine ⟨rfl, ?_⟩
      have e96 : A_.tmps[96]?.getD undef = .bool true := getD_of (hI.val_ (i := 28) rfl rfl (by decide) (hdep ⟨28, .data⟩ (by simp) rfl))
      clear hI hdep
      exact .run rfl (.bool true) w3 (by simp [execOp, go_sem, Act.eval, e96]) (Below.refl _ _) rfl
  case fin =>
  intro A_ w3 hs hd hlow hS hok
  obtain rfl : A_ = ⟨#[.agg #[.int .i64 ek, .int .i64 en, .int .i64 ea, .int .i64 ec, .int .i64 eh, .int .i64 et, .int .i64 ei, .int .i64 ep], .agg #[.int .i64 qc, .int .i64 qh, .int .i64 qt, .int .i64 qk, .int .i64 qi], .int .i64 n, .int .i64 m, .int .i64 at_, .int .i64 v, .pointer (some ⟨w.heap.size, 0, none⟩), .pointer (some ⟨w.heap.size + 1, 0, none⟩), undef, undef, undef, undef, .bool true, .pointer (some ⟨v1.heap.size, 0, none⟩), .pointer (some ⟨v2.heap.size, 0, none⟩), .int .i64 n, .int .i64 m, .agg #[.int .i64 xk, .int .i64 xn, .int .i64 xa, .int .i64 xc, .int .i64 xh, .int .i64 xt, .int .i64 xi, .int .i64 xp], .int .i64 n, .int .i64 m, .agg #[.int .i64 yc, .int .i64 yh, .int .i64 yt, .int .i64 yk, .int .i64 yi], .int .i64 at_, .int .i64 1, undef, undef, undef, .bool false, .bool false, undef, undef, undef, undef, .bool true, .bool true, .int .i64 v, .pointer (some ⟨v1.heap.size, 1, none⟩), .int .i64 v, .pointer (some ⟨v2.heap.size, 0, none⟩), .pointer (some ⟨v2.heap.size, 0, none⟩), undef, undef, undef, undef, undef, undef, undef, undef, undef, undef, undef, undef, undef, undef, undef, undef, undef, undef, undef, undef, undef, undef, undef, undef, undef, undef, undef, undef, undef, .agg #[.int .i64 ek, .int .i64 en, .int .i64 ea, .int .i64 ec, .int .i64 eh, .int .i64 et, .int .i64 ei, .int .i64 ep], .string s1, .agg #[.int .i64 ek, .int .i64 en, .int .i64 ea, .int .i64 ec, .int .i64 eh, .int .i64 et, .int .i64 ei, .int .i64 ep], .string s1, .bool true, .bool true, .agg #[.int .i64 xk, .int .i64 v, .int .i64 xa, .int .i64 xc, .int .i64 xh, .int .i64 xt, .int .i64 xi, .int .i64 xp], .string s2, .agg #[.int .i64 xk, .int .i64 v, .int .i64 xa, .int .i64 xc, .int .i64 xh, .int .i64 xt, .int .i64 xi, .int .i64 xp], .string s2, .bool true, .bool true, .bool true, .agg #[.int .i64 qc, .int .i64 qh, .int .i64 qt, .int .i64 qk, .int .i64 qi], .string s3, .agg #[.int .i64 qc, .int .i64 qh, .int .i64 qt, .int .i64 qk, .int .i64 qi], .string s3, .bool true, .bool true, .bool true, .agg #[.int .i64 v, .int .i64 yh, .int .i64 yt, .int .i64 yk, .int .i64 yi], .string s4, .agg #[.int .i64 v, .int .i64 yh, .int .i64 yt, .int .i64 yk, .int .i64 yi], .string s4, .bool true, .bool true, .bool true, .bool true, .bool true], []⟩ := act_ext hd hs (fun j hj => match j, hj with | 0, _ => (hlow 0 (by decide)).trans rfl | 1, _ => (hlow 1 (by decide)).trans rfl | 2, _ => (hlow 2 (by decide)).trans rfl | 3, _ => (hlow 3 (by decide)).trans rfl | 4, _ => (hlow 4 (by decide)).trans rfl | 5, _ => (hlow 5 (by decide)).trans rfl | 6, _ => (hlow 6 (by decide)).trans rfl | 7, _ => (hlow 7 (by decide)).trans rfl | 8, _ => (hlow 8 (by decide)).trans rfl | 9, _ => (hlow 9 (by decide)).trans rfl | 10, _ => (hlow 10 (by decide)).trans rfl | 11, _ => (hlow 11 (by decide)).trans rfl | 12, _ => RgX.val_at (hok 29 12 _ (by decide) rfl rfl) | 13, _ => (hlow 13 (by decide)).trans rfl | 14, _ => (hlow 14 (by decide)).trans rfl | 15, _ => (hlow 15 (by decide)).trans rfl | 16, _ => (hlow 16 (by decide)).trans rfl | 17, _ => (hlow 17 (by decide)).trans rfl | 18, _ => (hlow 18 (by decide)).trans rfl | 19, _ => (hlow 19 (by decide)).trans rfl | 20, _ => (hlow 20 (by decide)).trans rfl | 21, _ => (hlow 21 (by decide)).trans rfl | 22, _ => (hlow 22 (by decide)).trans rfl | 23, _ => (hlow 23 (by decide)).trans rfl | 24, _ => (hlow 24 (by decide)).trans rfl | 25, _ => (hlow 25 (by decide)).trans rfl | 26, _ => (hlow 26 (by decide)).trans rfl | 27, _ => (hlow 27 (by decide)).trans rfl | 28, _ => (hlow 28 (by decide)).trans rfl | 29, _ => (hlow 29 (by decide)).trans rfl | 30, _ => (hlow 30 (by decide)).trans rfl | 31, _ => (hlow 31 (by decide)).trans rfl | 32, _ => (hlow 32 (by decide)).trans rfl | 33, _ => (hlow 33 (by decide)).trans rfl | 34, _ => (hlow 34 (by decide)).trans rfl | 35, _ => (hlow 35 (by decide)).trans rfl | 36, _ => (hlow 36 (by decide)).trans rfl | 37, _ => (hlow 37 (by decide)).trans rfl | 38, _ => (hlow 38 (by decide)).trans rfl | 39, _ => (hlow 39 (by decide)).trans rfl | 40, _ => (hlow 40 (by decide)).trans rfl | 41, _ => (hlow 41 (by decide)).trans rfl | 42, _ => (hlow 42 (by decide)).trans rfl | 43, _ => (hlow 43 (by decide)).trans rfl | 44, _ => (hlow 44 (by decide)).trans rfl | 45, _ => (hlow 45 (by decide)).trans rfl | 46, _ => (hlow 46 (by decide)).trans rfl | 47, _ => (hlow 47 (by decide)).trans rfl | 48, _ => (hlow 48 (by decide)).trans rfl | 49, _ => (hlow 49 (by decide)).trans rfl | 50, _ => (hlow 50 (by decide)).trans rfl | 51, _ => (hlow 51 (by decide)).trans rfl | 52, _ => (hlow 52 (by decide)).trans rfl | 53, _ => (hlow 53 (by decide)).trans rfl | 54, _ => (hlow 54 (by decide)).trans rfl | 55, _ => (hlow 55 (by decide)).trans rfl | 56, _ => (hlow 56 (by decide)).trans rfl | 57, _ => (hlow 57 (by decide)).trans rfl | 58, _ => (hlow 58 (by decide)).trans rfl | 59, _ => (hlow 59 (by decide)).trans rfl | 60, _ => (hlow 60 (by decide)).trans rfl | 61, _ => (hlow 61 (by decide)).trans rfl | 62, _ => (hlow 62 (by decide)).trans rfl | 63, _ => (hlow 63 (by decide)).trans rfl | 64, _ => (hlow 64 (by decide)).trans rfl | 65, _ => (hlow 65 (by decide)).trans rfl | 66, _ => (hlow 66 (by decide)).trans rfl | 67, _ => (hlow 67 (by decide)).trans rfl | 68, _ => RgX.val_at (hok 0 68 _ (by decide) rfl rfl) | 69, _ => RgX.val_at (hok 1 69 _ (by decide) rfl rfl) | 70, _ => RgX.val_at (hok 2 70 _ (by decide) rfl rfl) | 71, _ => RgX.val_at (hok 3 71 _ (by decide) rfl rfl) | 72, _ => RgX.val_at (hok 4 72 _ (by decide) rfl rfl) | 73, _ => RgX.val_at (hok 5 73 _ (by decide) rfl rfl) | 74, _ => RgX.val_at (hok 6 74 _ (by decide) rfl rfl) | 75, _ => RgX.val_at (hok 7 75 _ (by decide) rfl rfl) | 76, _ => RgX.val_at (hok 8 76 _ (by decide) rfl rfl) | 77, _ => RgX.val_at (hok 9 77 _ (by decide) rfl rfl) | 78, _ => RgX.val_at (hok 10 78 _ (by decide) rfl rfl) | 79, _ => RgX.val_at (hok 11 79 _ (by decide) rfl rfl) | 80, _ => RgX.val_at (hok 12 80 _ (by decide) rfl rfl) | 81, _ => RgX.val_at (hok 13 81 _ (by decide) rfl rfl) | 82, _ => RgX.val_at (hok 14 82 _ (by decide) rfl rfl) | 83, _ => RgX.val_at (hok 15 83 _ (by decide) rfl rfl) | 84, _ => RgX.val_at (hok 16 84 _ (by decide) rfl rfl) | 85, _ => RgX.val_at (hok 17 85 _ (by decide) rfl rfl) | 86, _ => RgX.val_at (hok 18 86 _ (by decide) rfl rfl) | 87, _ => RgX.val_at (hok 19 87 _ (by decide) rfl rfl) | 88, _ => RgX.val_at (hok 20 88 _ (by decide) rfl rfl) | 89, _ => RgX.val_at (hok 21 89 _ (by decide) rfl rfl) | 90, _ => RgX.val_at (hok 22 90 _ (by decide) rfl rfl) | 91, _ => RgX.val_at (hok 23 91 _ (by decide) rfl rfl) | 92, _ => RgX.val_at (hok 24 92 _ (by decide) rfl rfl) | 93, _ => RgX.val_at (hok 25 93 _ (by decide) rfl rfl) | 94, _ => RgX.val_at (hok 26 94 _ (by decide) rfl rfl) | 95, _ => RgX.val_at (hok 27 95 _ (by decide) rfl rfl) | 96, _ => RgX.val_at (hok 28 96 _ (by decide) rfl rfl) | n + 97, h => absurd h (by show ¬ n + 97 < 97; omega))
  clear hs hd hlow hok 
  go_wp2_with fail
  go_ret
  exact ⟨rfl, HB.out.trans (hS.mono HB.out.size)⟩
set_option maxHeartbeats 4000000 in
set_option maxRecDepth 100000 in
theorem walk_2 (ek en ea ec eh et ei ep qc qh qt qk qi xk xn xa xc xh xt xi xp yc yh yt yk yi n m at_ v : Int) (s1 s2 s3 s4 : ByteArray) (w : World)
    (HA : Hid (∀ V, Calls Tryz.prog 7 #[.int .i64 at_, .int .i64 7] V fun e w' => e = .returned (.int .i64 2) ∧ V = w'))
    (HG : Hid (∀ V, Calls Tryz.prog 11 #[.int .i64 n, .int .i64 m] V fun e w' => e = .returned (.agg #[.int .i64 xk, .int .i64 xn, .int .i64 xa, .int .i64 xc, .int .i64 xh, .int .i64 xt, .int .i64 xi, .int .i64 xp]) ∧ Below V.heap.size V w'))
    (HH : Hid (∀ V, Calls Tryz.prog 12 #[.int .i64 n, .int .i64 m] V fun e w' => e = .returned (.agg #[.int .i64 yc, .int .i64 yh, .int .i64 yt, .int .i64 yk, .int .i64 yi]) ∧ Below V.heap.size V w'))
    (H1 : Hid (∀ V, Below w.heap.size w V → Calls Tryz.prog 13 #[.agg #[.int .i64 ek, .int .i64 en, .int .i64 ea, .int .i64 ec, .int .i64 eh, .int .i64 et, .int .i64 ei, .int .i64 ep]] V fun e w' => e = .returned (.string s1) ∧ Below V.heap.size V w'))
    (H2 : Hid (∀ V, Below w.heap.size w V → Calls Tryz.prog 14 #[.agg #[.int .i64 ek, .int .i64 en, .int .i64 ea, .int .i64 ec, .int .i64 eh, .int .i64 et, .int .i64 ei, .int .i64 ep]] V fun e w' => e = .returned (.string s1) ∧ Below V.heap.size V w'))
    (H3 : Hid (∀ V, Below w.heap.size w V → Calls Tryz.prog 13 #[.agg #[.int .i64 xk, .int .i64 xn, .int .i64 v, .int .i64 xc, .int .i64 xh, .int .i64 xt, .int .i64 xi, .int .i64 xp]] V fun e w' => e = .returned (.string s2) ∧ Below V.heap.size V w'))
    (H4 : Hid (∀ V, Below w.heap.size w V → Calls Tryz.prog 14 #[.agg #[.int .i64 xk, .int .i64 xn, .int .i64 v, .int .i64 xc, .int .i64 xh, .int .i64 xt, .int .i64 xi, .int .i64 xp]] V fun e w' => e = .returned (.string s2) ∧ Below V.heap.size V w'))
    (H5 : Hid (∀ V, Below w.heap.size w V → Calls Tryz.prog 15 #[.agg #[.int .i64 qc, .int .i64 qh, .int .i64 qt, .int .i64 qk, .int .i64 qi]] V fun e w' => e = .returned (.string s3) ∧ Below V.heap.size V w'))
    (H6 : Hid (∀ V, Below w.heap.size w V → Calls Tryz.prog 16 #[.agg #[.int .i64 qc, .int .i64 qh, .int .i64 qt, .int .i64 qk, .int .i64 qi]] V fun e w' => e = .returned (.string s3) ∧ Below V.heap.size V w'))
    (H7 : Hid (∀ V, Below w.heap.size w V → Calls Tryz.prog 15 #[.agg #[.int .i64 yc, .int .i64 v, .int .i64 yt, .int .i64 yk, .int .i64 yi]] V fun e w' => e = .returned (.string s4) ∧ Below V.heap.size V w'))
    (H8 : Hid (∀ V, Below w.heap.size w V → Calls Tryz.prog 16 #[.agg #[.int .i64 yc, .int .i64 v, .int .i64 yt, .int .i64 yk, .int .i64 yi]] V fun e w' => e = .returned (.string s4) ∧ Below V.heap.size V w'))
    (HL : Hid (∀ V, Below w.heap.size w V → Calls Tryz.prog 10 #[] V fun e w' => e = .returned (.bool true) ∧ Below V.heap.size V w')) :
    Calls Tryz.prog 4 #[.agg #[.int .i64 ek, .int .i64 en, .int .i64 ea, .int .i64 ec, .int .i64 eh, .int .i64 et, .int .i64 ei, .int .i64 ep], .agg #[.int .i64 qc, .int .i64 qh, .int .i64 qt, .int .i64 qk, .int .i64 qi], .int .i64 n, .int .i64 m, .int .i64 at_, .int .i64 v] w fun e w' => e = .returned (.bool true) ∧ Below w.heap.size w w' := by
  obtain ⟨U, hU, hb0, ke, kq, hlt⟩ := two_boxes w (.cells #[.int .i64 ek, .int .i64 en, .int .i64 ea, .int .i64 ec, .int .i64 eh, .int .i64 et, .int .i64 ei, .int .i64 ep] 28) (.cells #[.int .i64 qc, .int .i64 qh, .int .i64 qt, .int .i64 qk, .int .i64 qi] 36)
  have HB0 := Lib.hid (And.intro hb0 (And.intro ke (And.intro kq hlt)))
  have hs0 := hb0.size
  clear hb0 ke kq
  go_enter Tryz.func4, Tryz.ntmps4
  go_wp2_with fail
  clear hU
  refine (HG.out _).mono ?_
  rintro e v1 ⟨rfl, hb1⟩
  have h1z := hb1.size
  have HB1 := Lib.hid hb1
  clear hb1
  go_wp2_with (refine RgX.wpList_store_seg rfl 28 _ _ rfl v1.heap.size 0 (.agg #[.int .i64 xk, .int .i64 xn, .int .i64 xa, .int .i64 xc, .int .i64 xh, .int .i64 xt, .int .i64 xi, .int .i64 xp]) rfl rfl 28 #[.int .i64 0, .int .i64 0, .int .i64 0, .int .i64 0, .int .i64 0, .int .i64 0, .int .i64 0, .int .i64 0] (new_at rfl) (by rw [size_ev]; rfl) (by show 0 + 8 ≤ 8; omega) (by simp [Value.cells, Value.oneCell']) #[.int .i64 xk, .int .i64 xn, .int .i64 xa, .int .i64 xc, .int .i64 xh, .int .i64 xt, .int .i64 xi, .int .i64 xp] rfl ?_; intro u1 kx1 ho1 hz1 hx1)
  have h1u : u1.heap.size = v1.heap.size + 1 := by rw [hz1]; simp
  have hu1 : Below v1.heap.size v1 u1 := (one_box v1 _).trans hx1
  refine (HH.out _).mono ?_
  rintro e v2 ⟨rfl, hb2⟩
  have h2z := hb2.size
  have kx2 : v2.heap[v1.heap.size]? = some (.cells #[.int .i64 xk, .int .i64 xn, .int .i64 xa, .int .i64 xc, .int .i64 xh, .int .i64 xt, .int .i64 xi, .int .i64 xp] 28 (0, 0)) := (hb2.block _ (by omega)).trans kx1
  have HB2 := Lib.hid (show Below U.heap.size U v2 from (HB1.out.trans (hu1.mono h1z)).trans (hb2.mono (by omega)))
  have KX2 := Lib.hid kx2
  clear hb2 hu1 ho1 hz1 hx1 kx1 kx2 HB1
  have hne : v1.heap.size ≠ v2.heap.size := by omega
  go_wp2_with (first | (refine RgX.wpList_store_seg rfl 36 _ _ rfl v2.heap.size 0 (.agg #[.int .i64 yc, .int .i64 yh, .int .i64 yt, .int .i64 yk, .int .i64 yi]) rfl rfl 36 #[.int .i64 0, .int .i64 0, .int .i64 0, .int .i64 0, .int .i64 0] (new_at rfl) (by rw [size_qu]; rfl) (by show 0 + 5 ≤ 5; omega) (by simp [Value.cells, Value.oneCell']) #[.int .i64 yc, .int .i64 yh, .int .i64 yt, .int .i64 yk, .int .i64 yi] rfl ?_; intro u2 ky2 ho2 hz2 hx2; have kx3 : u2.heap[v1.heap.size]? = some (.cells #[.int .i64 xk, .int .i64 xn, .int .i64 xa, .int .i64 xc, .int .i64 xh, .int .i64 xt, .int .i64 xi, .int .i64 xp] 28 (0, 0)) := (ho2 _ hne).trans ((Below.heap_alloc _ _ _ (by omega)).trans KX2.out); have h2u : u2.heap.size = v2.heap.size + 1 := (by rw [hz2]; simp); have HU2 := Lib.hid (show Below U.heap.size U u2 from HB2.out.trans (((one_box v2 _).trans hx2).mono (by omega))); have KX3 := Lib.hid kx3; have KY2 := Lib.hid ky2; clear kx3 ky2 ho2 hz2 hx2) | (go_at_call 7; refine (HA.out _).mono ?_; rintro e w1 ⟨rfl, rfl⟩) | (refine RgX.wpList_store_seg rfl 3 _ _ rfl v1.heap.size 2 (.int .i64 v) rfl rfl 28 _ KX3.out (by rw [size_in]; rfl) (by show 2 + 1 ≤ 8; omega) (by simp [Value.cells, Value.oneCell']) #[.int .i64 xk, .int .i64 xn, .int .i64 v, .int .i64 xc, .int .i64 xh, .int .i64 xt, .int .i64 xi, .int .i64 xp] rfl ?_; intro u3 kx4 ho3 hz3 hx3; have ky3 : u3.heap[v2.heap.size]? = some (.cells #[.int .i64 yc, .int .i64 yh, .int .i64 yt, .int .i64 yk, .int .i64 yi] 36 (0, 0)) := (ho3 _ (fun e => hne e.symm)).trans KY2.out; have h3u : u3.heap.size = u2.heap.size := hz3; have HU3 := Lib.hid (show Below U.heap.size U u3 from HU2.out.trans (hx3.mono (by omega))); have KX4 := Lib.hid kx4; have KY3 := Lib.hid ky3; clear kx4 ky3 ho3 hz3 hx3) | (refine RgX.wpList_store_seg rfl 3 _ _ rfl v2.heap.size 1 (.int .i64 v) rfl rfl 36 _ KY3.out (by rw [size_in]; rfl) (by show 1 + 1 ≤ 5; omega) (by simp [Value.cells, Value.oneCell']) #[.int .i64 yc, .int .i64 v, .int .i64 yt, .int .i64 yk, .int .i64 yi] rfl ?_; intro u4 ky4 ho4 hz4 hx4; have kx5 : u4.heap[v1.heap.size]? = some (.cells #[.int .i64 xk, .int .i64 xn, .int .i64 v, .int .i64 xc, .int .i64 xh, .int .i64 xt, .int .i64 xi, .int .i64 xp] 28 (0, 0)) := (ho4 _ hne).trans KX4.out; have h4u : u4.heap.size = u2.heap.size := hz4.trans h3u; have HU4 := Lib.hid (show Below U.heap.size U u4 from HU3.out.trans (hx4.mono (by omega))); have KXF := Lib.hid kx5; have KYF := Lib.hid ky4; clear kx5 ky4 ho4 hz4 hx4))
  obtain ⟨hb0, ke, kq, hlt⟩ := HB0.out
  have kx := KXF.out
  have ky := KYF.out
  have hbu := HU4.out
  have hzu : u4.heap.size = v2.heap.size + 1 := by omega
  have HB := Lib.hid (show Below w.heap.size w u4 from hb0.trans (hbu.mono hb0.size))
  have HK := Lib.hid (fun (V : World) (hV : Below u4.heap.size u4 V) => And.intro (row8 ((hV.block _ (by omega)).trans ((hbu.block _ (by omega)).trans ke))) (And.intro (row5 ((hV.block _ (by omega)).trans ((hbu.block _ hlt).trans kq))) (And.intro (row8 ((hV.block _ (by omega)).trans kx)) (row5 ((hV.block _ (by omega)).trans ky)))))
  clear hb0 ke kq kx ky hbu HB0 HB2
  refine RgX.region 30 (fun i => (if i = 29 then 12 else 68 + i)) (fun ix_ => match ix_ with | 0 => .v (.agg #[.int .i64 ek, .int .i64 en, .int .i64 ea, .int .i64 ec, .int .i64 eh, .int .i64 et, .int .i64 ei, .int .i64 ep]) | 1 => .v (.string s1) | 2 => .v (.agg #[.int .i64 ek, .int .i64 en, .int .i64 ea, .int .i64 ec, .int .i64 eh, .int .i64 et, .int .i64 ei, .int .i64 ep]) | 3 => .v (.string s1) | 4 => .v (.bool true) | 5 => .v (.bool true) | 6 => .v (.agg #[.int .i64 xk, .int .i64 xn, .int .i64 v, .int .i64 xc, .int .i64 xh, .int .i64 xt, .int .i64 xi, .int .i64 xp]) | 7 => .v (.string s2) | 8 => .v (.agg #[.int .i64 xk, .int .i64 xn, .int .i64 v, .int .i64 xc, .int .i64 xh, .int .i64 xt, .int .i64 xi, .int .i64 xp]) | 9 => .v (.string s2) | 10 => .v (.bool true) | 11 => .v (.bool true) | 12 => .v (.bool true) | 13 => .v (.agg #[.int .i64 qc, .int .i64 qh, .int .i64 qt, .int .i64 qk, .int .i64 qi]) | 14 => .v (.string s3) | 15 => .v (.agg #[.int .i64 qc, .int .i64 qh, .int .i64 qt, .int .i64 qk, .int .i64 qi]) | 16 => .v (.string s3) | 17 => .v (.bool true) | 18 => .v (.bool true) | 19 => .v (.bool true) | 20 => .v (.agg #[.int .i64 yc, .int .i64 v, .int .i64 yt, .int .i64 yk, .int .i64 yi]) | 21 => .v (.string s4) | 22 => .v (.agg #[.int .i64 yc, .int .i64 v, .int .i64 yt, .int .i64 yk, .int .i64 yi]) | 23 => .v (.string s4) | 24 => .v (.bool true) | 25 => .v (.bool true) | 26 => .v (.bool true) | 27 => .v (.bool true) | 28 => .v (.bool true) | 29 => .v (.bool true) | _ => .any) (by kernel_rfl) rfl (by kernel_rfl)  (fun i hi => by show (if i = 29 then 12 else 68 + i) < 97; (repeat' split) <;> omega) (fun i j hi hj => by show (if i = 29 then 12 else 68 + i) = (if j = 29 then 12 else 68 + j) → i = j; (repeat' split) <;> omega) ?step ?fin
  case step =>
    intro L_ A_ w3 ix op_ hI ho hdep
    have hi : ix < 30 := (Array.getElem?_eq_some_iff.1 ho).1
    have hcase : ix = 0 ∨ ix = 1 ∨ ix = 2 ∨ ix = 3 ∨ ix = 4 ∨ ix = 5 ∨ ix = 6 ∨ ix = 7 ∨ ix = 8 ∨ ix = 9 ∨ ix = 10 ∨ ix = 11 ∨ ix = 12 ∨ ix = 13 ∨ ix = 14 ∨ ix = 15 ∨ ix = 16 ∨ ix = 17 ∨ ix = 18 ∨ ix = 19 ∨ ix = 20 ∨ ix = 21 ∨ ix = 22 ∨ ix = 23 ∨ ix = 24 ∨ ix = 25 ∨ ix = 26 ∨ ix = 27 ∨ ix = 28 ∨ ix = 29 := by omega
    have hh := hI.held
    clear hi
    rcases hcase with rfl | rfl | rfl | rfl | rfl | rfl | rfl | rfl | rfl | rfl | rfl | rfl | rfl | rfl | rfl | rfl | rfl | rfl | rfl | rfl | rfl | rfl | rfl | rfl | rfl | rfl | rfl | rfl | rfl | rfl
    · simp only [List.getElem?_toArray, List.getElem?_cons_zero, Option.some.injEq] at ho
      subst ho
      refine ⟨rfl, ?_⟩
      have e6 : A_.tmps[6]?.getD undef = .pointer (some ⟨w.heap.size, 0, none⟩) := by rw [hI.low 6 (by decide)]; rfl
      clear hI hdep
      obtain ⟨⟨fa0, fa1, fa2, fa3, fa4, fa5, fa6, fa7⟩, ⟨fb0, fb1, fb2, fb3, fb4⟩, ⟨fc0, fc1, fc2, fc3, fc4, fc5, fc6, fc7⟩, fd0, fd1, fd2, fd3, fd4⟩ := HK.out w3 hh
      exact .run rfl (.agg #[.int .i64 ek, .int .i64 en, .int .i64 ea, .int .i64 ec, .int .i64 eh, .int .i64 et, .int .i64 ei, .int .i64 ep]) w3 (by simp [execOp, go_sem, Act.eval, *]) (Below.refl _ _) rfl
    · simp only [List.getElem?_toArray, List.getElem?_cons_succ, List.getElem?_cons_zero, Option.some.injEq] at ho
      subst ho
      refine ⟨rfl, ?_⟩
      have e68 : A_.tmps[68]?.getD undef = .agg #[.int .i64 ek, .int .i64 en, .int .i64 ea, .int .i64 ec, .int .i64 eh, .int .i64 et, .int .i64 ei, .int .i64 ep] := getD_of (hI.val_ (i := 0) rfl rfl (by decide) (hdep ⟨0, .data⟩ (by simp) rfl))
      clear hI hdep
      exact .call rfl 13 #[.agg #[.int .i64 ek, .int .i64 en, .int .i64 ea, .int .i64 ec, .int .i64 eh, .int .i64 et, .int .i64 ei, .int .i64 ep]] (by simp [go_sem, Act.eval, e68]) ((H1.out w3 (HB.out.trans (hh.mono HB.out.size))).mono fun _ _ ⟨h1_, h2_⟩ => ⟨⟨_, h1_, rfl⟩, h2_⟩)
    · simp only [List.getElem?_toArray, List.getElem?_cons_succ, List.getElem?_cons_zero, Option.some.injEq] at ho
      subst ho
      refine ⟨rfl, ?_⟩
      have e6 : A_.tmps[6]?.getD undef = .pointer (some ⟨w.heap.size, 0, none⟩) := by rw [hI.low 6 (by decide)]; rfl
      clear hI hdep
      obtain ⟨⟨fa0, fa1, fa2, fa3, fa4, fa5, fa6, fa7⟩, ⟨fb0, fb1, fb2, fb3, fb4⟩, ⟨fc0, fc1, fc2, fc3, fc4, fc5, fc6, fc7⟩, fd0, fd1, fd2, fd3, fd4⟩ := HK.out w3 hh
      exact .run rfl (.agg #[.int .i64 ek, .int .i64 en, .int .i64 ea, .int .i64 ec, .int .i64 eh, .int .i64 et, .int .i64 ei, .int .i64 ep]) w3 (by simp [execOp, go_sem, Act.eval, *]) (Below.refl _ _) rfl
    · simp only [List.getElem?_toArray, List.getElem?_cons_succ, List.getElem?_cons_zero, Option.some.injEq] at ho
      subst ho
      refine ⟨rfl, ?_⟩
      have e70 : A_.tmps[70]?.getD undef = .agg #[.int .i64 ek, .int .i64 en, .int .i64 ea, .int .i64 ec, .int .i64 eh, .int .i64 et, .int .i64 ei, .int .i64 ep] := getD_of (hI.val_ (i := 2) rfl rfl (by decide) (hdep ⟨2, .data⟩ (by simp) rfl))
      clear hI hdep
      exact .call rfl 14 #[.agg #[.int .i64 ek, .int .i64 en, .int .i64 ea, .int .i64 ec, .int .i64 eh, .int .i64 et, .int .i64 ei, .int .i64 ep]] (by simp [go_sem, Act.eval, e70]) ((H2.out w3 (HB.out.trans (hh.mono HB.out.size))).mono fun _ _ ⟨h1_, h2_⟩ => ⟨⟨_, h1_, rfl⟩, h2_⟩)
    · simp only [List.getElem?_toArray, List.getElem?_cons_succ, List.getElem?_cons_zero, Option.some.injEq] at ho
      subst ho
      refine ⟨rfl, ?_⟩
      have e69 : A_.tmps[69]?.getD undef = .string s1 := getD_of (hI.val_ (i := 1) rfl rfl (by decide) (hdep ⟨1, .data⟩ (by simp) rfl))
      have e71 : A_.tmps[71]?.getD undef = .string s1 := getD_of (hI.val_ (i := 3) rfl rfl (by decide) (hdep ⟨3, .data⟩ (by simp) rfl))
      clear hI hdep
      exact .run rfl (.bool true) w3 (by simp [execOp, go_sem, Act.eval, *]) (Below.refl _ _) rfl
    · simp only [List.getElem?_toArray, List.getElem?_cons_succ, List.getElem?_cons_zero, Option.some.injEq] at ho
      subst ho
      refine ⟨rfl, ?_⟩
      have e72 : A_.tmps[72]?.getD undef = .bool true := getD_of (hI.val_ (i := 4) rfl rfl (by decide) (hdep ⟨4, .data⟩ (by simp) rfl))
      clear hI hdep
      exact .run rfl (.bool true) w3 (by simp [execOp, go_sem, Act.eval, e72]) (Below.refl _ _) rfl
    · simp only [List.getElem?_toArray, List.getElem?_cons_succ, List.getElem?_cons_zero, Option.some.injEq] at ho
      subst ho
      refine ⟨rfl, ?_⟩
      have q73 : A_.tmps[73]? = some (.bool true) := hI.val_ (i := 5) rfl rfl (by decide) (hdep ⟨5, .guard⟩ (by simp) rfl)
      have e13 : A_.tmps[13]?.getD undef = .pointer (some ⟨v1.heap.size, 0, none⟩) := by rw [hI.low 13 (by decide)]; rfl
      clear hI hdep
      obtain ⟨⟨fa0, fa1, fa2, fa3, fa4, fa5, fa6, fa7⟩, ⟨fb0, fb1, fb2, fb3, fb4⟩, ⟨fc0, fc1, fc2, fc3, fc4, fc5, fc6, fc7⟩, fd0, fd1, fd2, fd3, fd4⟩ := HK.out w3 hh
      exact .run ((wanted_some rfl rfl q73).trans rfl) (.agg #[.int .i64 xk, .int .i64 xn, .int .i64 v, .int .i64 xc, .int .i64 xh, .int .i64 xt, .int .i64 xi, .int .i64 xp]) w3 (by simp [execOp, go_sem, Act.eval, *]) (Below.refl _ _) rfl
    · simp only [List.getElem?_toArray, List.getElem?_cons_succ, List.getElem?_cons_zero, Option.some.injEq] at ho
      subst ho
      refine ⟨rfl, ?_⟩
      have q73 : A_.tmps[73]? = some (.bool true) := hI.val_ (i := 5) rfl rfl (by decide) (hdep ⟨5, .guard⟩ (by simp) rfl)
      have e74 : A_.tmps[74]?.getD undef = .agg #[.int .i64 xk, .int .i64 xn, .int .i64 v, .int .i64 xc, .int .i64 xh, .int .i64 xt, .int .i64 xi, .int .i64 xp] := getD_of (hI.val_ (i := 6) rfl rfl (by decide) (hdep ⟨6, .data⟩ (by simp) rfl))
      clear hI hdep
      exact .call ((wanted_some rfl rfl q73).trans rfl) 13 #[.agg #[.int .i64 xk, .int .i64 xn, .int .i64 v, .int .i64 xc, .int .i64 xh, .int .i64 xt, .int .i64 xi, .int .i64 xp]] (by simp [go_sem, Act.eval, e74]) ((H3.out w3 (HB.out.trans (hh.mono HB.out.size))).mono fun _ _ ⟨h1_, h2_⟩ => ⟨⟨_, h1_, rfl⟩, h2_⟩)
    · simp only [List.getElem?_toArray, List.getElem?_cons_succ, List.getElem?_cons_zero, Option.some.injEq] at ho
      subst ho
      refine ⟨rfl, ?_⟩
      have q73 : A_.tmps[73]? = some (.bool true) := hI.val_ (i := 5) rfl rfl (by decide) (hdep ⟨5, .guard⟩ (by simp) rfl)
      have e13 : A_.tmps[13]?.getD undef = .pointer (some ⟨v1.heap.size, 0, none⟩) := by rw [hI.low 13 (by decide)]; rfl
      clear hI hdep
      obtain ⟨⟨fa0, fa1, fa2, fa3, fa4, fa5, fa6, fa7⟩, ⟨fb0, fb1, fb2, fb3, fb4⟩, ⟨fc0, fc1, fc2, fc3, fc4, fc5, fc6, fc7⟩, fd0, fd1, fd2, fd3, fd4⟩ := HK.out w3 hh
      exact .run ((wanted_some rfl rfl q73).trans rfl) (.agg #[.int .i64 xk, .int .i64 xn, .int .i64 v, .int .i64 xc, .int .i64 xh, .int .i64 xt, .int .i64 xi, .int .i64 xp]) w3 (by simp [execOp, go_sem, Act.eval, *]) (Below.refl _ _) rfl
    · simp only [List.getElem?_toArray, List.getElem?_cons_succ, List.getElem?_cons_zero, Option.some.injEq] at ho
      subst ho
      refine ⟨rfl, ?_⟩
      have q73 : A_.tmps[73]? = some (.bool true) := hI.val_ (i := 5) rfl rfl (by decide) (hdep ⟨5, .guard⟩ (by simp) rfl)
      have e76 : A_.tmps[76]?.getD undef = .agg #[.int .i64 xk, .int .i64 xn, .int .i64 v, .int .i64 xc, .int .i64 xh, .int .i64 xt, .int .i64 xi, .int .i64 xp] := getD_of (hI.val_ (i := 8) rfl rfl (by decide) (hdep ⟨8, .data⟩ (by simp) rfl))
      clear hI hdep
      exact .call ((wanted_some rfl rfl q73).trans rfl) 14 #[.agg #[.int .i64 xk, .int .i64 xn, .int .i64 v, .int .i64 xc, .int .i64 xh, .int .i64 xt, .int .i64 xi, .int .i64 xp]] (by simp [go_sem, Act.eval, e76]) ((H4.out w3 (HB.out.trans (hh.mono HB.out.size))).mono fun _ _ ⟨h1_, h2_⟩ => ⟨⟨_, h1_, rfl⟩, h2_⟩)
    · simp only [List.getElem?_toArray, List.getElem?_cons_succ, List.getElem?_cons_zero, Option.some.injEq] at ho
      subst ho
      refine ⟨rfl, ?_⟩
      have q73 : A_.tmps[73]? = some (.bool true) := hI.val_ (i := 5) rfl rfl (by decide) (hdep ⟨5, .guard⟩ (by simp) rfl)
      have e75 : A_.tmps[75]?.getD undef = .string s2 := getD_of (hI.val_ (i := 7) rfl rfl (by decide) (hdep ⟨7, .data⟩ (by simp) rfl))
      have e77 : A_.tmps[77]?.getD undef = .string s2 := getD_of (hI.val_ (i := 9) rfl rfl (by decide) (hdep ⟨9, .data⟩ (by simp) rfl))
      clear hI hdep
      exact .run ((wanted_some rfl rfl q73).trans rfl) (.bool true) w3 (by simp [execOp, go_sem, Act.eval, *]) (Below.refl _ _) rfl
    · simp only [List.getElem?_toArray, List.getElem?_cons_succ, List.getElem?_cons_zero, Option.some.injEq] at ho
      subst ho
      refine ⟨rfl, ?_⟩
      have e73 : A_.tmps[73]?.getD undef = .bool true := getD_of (hI.val_ (i := 5) rfl rfl (by decide) (hdep ⟨5, .data⟩ (by simp) rfl))
      have e78 : A_.tmps[78]?.getD undef = .bool true := getD_of (hI.val_ (i := 10) rfl rfl (by decide) (hdep ⟨10, .data⟩ (by simp) rfl))
      clear hI hdep
      exact .run rfl (.bool true) w3 (by simp [execOp, go_sem, Act.eval, e73, e78]) (Below.refl _ _) rfl
    · simp only [List.getElem?_toArray, List.getElem?_cons_succ, List.getElem?_cons_zero, Option.some.injEq] at ho
      subst ho
      refine ⟨rfl, ?_⟩
      have e79 : A_.tmps[79]?.getD undef = .bool true := getD_of (hI.val_ (i := 11) rfl rfl (by decide) (hdep ⟨11, .data⟩ (by simp) rfl))
      clear hI hdep
      exact .run rfl (.bool true) w3 (by simp [execOp, go_sem, Act.eval, e79]) (Below.refl _ _) rfl
    · simp only [List.getElem?_toArray, List.getElem?_cons_succ, List.getElem?_cons_zero, Option.some.injEq] at ho
      subst ho
      refine ⟨rfl, ?_⟩
      have q80 : A_.tmps[80]? = some (.bool true) := hI.val_ (i := 12) rfl rfl (by decide) (hdep ⟨12, .guard⟩ (by simp) rfl)
      have e7 : A_.tmps[7]?.getD undef = .pointer (some ⟨w.heap.size + 1, 0, none⟩) := by rw [hI.low 7 (by decide)]; rfl
      clear hI hdep
      obtain ⟨⟨fa0, fa1, fa2, fa3, fa4, fa5, fa6, fa7⟩, ⟨fb0, fb1, fb2, fb3, fb4⟩, ⟨fc0, fc1, fc2, fc3, fc4, fc5, fc6, fc7⟩, fd0, fd1, fd2, fd3, fd4⟩ := HK.out w3 hh
      exact .run ((wanted_some rfl rfl q80).trans rfl) (.agg #[.int .i64 qc, .int .i64 qh, .int .i64 qt, .int .i64 qk, .int .i64 qi]) w3 (by simp [execOp, go_sem, Act.eval, *]) (Below.refl _ _) rfl
    · simp only [List.getElem?_toArray, List.getElem?_cons_succ, List.getElem?_cons_zero, Option.some.injEq] at ho
      subst ho
      refine ⟨rfl, ?_⟩
      have q80 : A_.tmps[80]? = some (.bool true) := hI.val_ (i := 12) rfl rfl (by decide) (hdep ⟨12, .guard⟩ (by simp) rfl)
      have e81 : A_.tmps[81]?.getD undef = .agg #[.int .i64 qc, .int .i64 qh, .int .i64 qt, .int .i64 qk, .int .i64 qi] := getD_of (hI.val_ (i := 13) rfl rfl (by decide) (hdep ⟨13, .data⟩ (by simp) rfl))
      clear hI hdep
      exact .call ((wanted_some rfl rfl q80).trans rfl) 15 #[.agg #[.int .i64 qc, .int .i64 qh, .int .i64 qt, .int .i64 qk, .int .i64 qi]] (by simp [go_sem, Act.eval, e81]) ((H5.out w3 (HB.out.trans (hh.mono HB.out.size))).mono fun _ _ ⟨h1_, h2_⟩ => ⟨⟨_, h1_, rfl⟩, h2_⟩)
    · simp only [List.getElem?_toArray, List.getElem?_cons_succ, List.getElem?_cons_zero, Option.some.injEq] at ho
      subst ho
      refine ⟨rfl, ?_⟩
      have q80 : A_.tmps[80]? = some (.bool true) := hI.val_ (i := 12) rfl rfl (by decide) (hdep ⟨12, .guard⟩ (by simp) rfl)
      have e7 : A_.tmps[7]?.getD undef = .pointer (some ⟨w.heap.size + 1, 0, none⟩) := by rw [hI.low 7 (by decide)]; rfl
      clear hI hdep
      obtain ⟨⟨fa0, fa1, fa2, fa3, fa4, fa5, fa6, fa7⟩, ⟨fb0, fb1, fb2, fb3, fb4⟩, ⟨fc0, fc1, fc2, fc3, fc4, fc5, fc6, fc7⟩, fd0, fd1, fd2, fd3, fd4⟩ := HK.out w3 hh
      exact .run ((wanted_some rfl rfl q80).trans rfl) (.agg #[.int .i64 qc, .int .i64 qh, .int .i64 qt, .int .i64 qk, .int .i64 qi]) w3 (by simp [execOp, go_sem, Act.eval, *]) (Below.refl _ _) rfl
    · simp only [List.getElem?_toArray, List.getElem?_cons_succ, List.getElem?_cons_zero, Option.some.injEq] at ho
      subst ho
      refine ⟨rfl, ?_⟩
      have q80 : A_.tmps[80]? = some (.bool true) := hI.val_ (i := 12) rfl rfl (by decide) (hdep ⟨12, .guard⟩ (by simp) rfl)
      have e83 : A_.tmps[83]?.getD undef = .agg #[.int .i64 qc, .int .i64 qh, .int .i64 qt, .int .i64 qk, .int .i64 qi] := getD_of (hI.val_ (i := 15) rfl rfl (by decide) (hdep ⟨15, .data⟩ (by simp) rfl))
      clear hI hdep
      exact .call ((wanted_some rfl rfl q80).trans rfl) 16 #[.agg #[.int .i64 qc, .int .i64 qh, .int .i64 qt, .int .i64 qk, .int .i64 qi]] (by simp [go_sem, Act.eval, e83]) ((H6.out w3 (HB.out.trans (hh.mono HB.out.size))).mono fun _ _ ⟨h1_, h2_⟩ => ⟨⟨_, h1_, rfl⟩, h2_⟩)
    · simp only [List.getElem?_toArray, List.getElem?_cons_succ, List.getElem?_cons_zero, Option.some.injEq] at ho
      subst ho
      refine ⟨rfl, ?_⟩
      have q80 : A_.tmps[80]? = some (.bool true) := hI.val_ (i := 12) rfl rfl (by decide) (hdep ⟨12, .guard⟩ (by simp) rfl)
      have e82 : A_.tmps[82]?.getD undef = .string s3 := getD_of (hI.val_ (i := 14) rfl rfl (by decide) (hdep ⟨14, .data⟩ (by simp) rfl))
      have e84 : A_.tmps[84]?.getD undef = .string s3 := getD_of (hI.val_ (i := 16) rfl rfl (by decide) (hdep ⟨16, .data⟩ (by simp) rfl))
      clear hI hdep
      exact .run ((wanted_some rfl rfl q80).trans rfl) (.bool true) w3 (by simp [execOp, go_sem, Act.eval, *]) (Below.refl _ _) rfl
    · simp only [List.getElem?_toArray, List.getElem?_cons_succ, List.getElem?_cons_zero, Option.some.injEq] at ho
      subst ho
      refine ⟨rfl, ?_⟩
      have e80 : A_.tmps[80]?.getD undef = .bool true := getD_of (hI.val_ (i := 12) rfl rfl (by decide) (hdep ⟨12, .data⟩ (by simp) rfl))
      have e85 : A_.tmps[85]?.getD undef = .bool true := getD_of (hI.val_ (i := 17) rfl rfl (by decide) (hdep ⟨17, .data⟩ (by simp) rfl))
      clear hI hdep
      exact .run rfl (.bool true) w3 (by simp [execOp, go_sem, Act.eval, e80, e85]) (Below.refl _ _) rfl
    · simp only [List.getElem?_toArray, List.getElem?_cons_succ, List.getElem?_cons_zero, Option.some.injEq] at ho
      subst ho
      refine ⟨rfl, ?_⟩
      have e86 : A_.tmps[86]?.getD undef = .bool true := getD_of (hI.val_ (i := 18) rfl rfl (by decide) (hdep ⟨18, .data⟩ (by simp) rfl))
      clear hI hdep
      exact .run rfl (.bool true) w3 (by simp [execOp, go_sem, Act.eval, e86]) (Below.refl _ _) rfl
    · simp only [List.getElem?_toArray, List.getElem?_cons_succ, List.getElem?_cons_zero, Option.some.injEq] at ho
      subst ho
      refine ⟨rfl, ?_⟩
      have q87 : A_.tmps[87]? = some (.bool true) := hI.val_ (i := 19) rfl rfl (by decide) (hdep ⟨19, .guard⟩ (by simp) rfl)
      have e14 : A_.tmps[14]?.getD undef = .pointer (some ⟨v2.heap.size, 0, none⟩) := by rw [hI.low 14 (by decide)]; rfl
      clear hI hdep
      obtain ⟨⟨fa0, fa1, fa2, fa3, fa4, fa5, fa6, fa7⟩, ⟨fb0, fb1, fb2, fb3, fb4⟩, ⟨fc0, fc1, fc2, fc3, fc4, fc5, fc6, fc7⟩, fd0, fd1, fd2, fd3, fd4⟩ := HK.out w3 hh
      exact .run ((wanted_some rfl rfl q87).trans rfl) (.agg #[.int .i64 yc, .int .i64 v, .int .i64 yt, .int .i64 yk, .int .i64 yi]) w3 (by simp [execOp, go_sem, Act.eval, *]) (Below.refl _ _) rfl
    · simp only [List.getElem?_toArray, List.getElem?_cons_succ, List.getElem?_cons_zero, Option.some.injEq] at ho
      subst ho
      refine ⟨rfl, ?_⟩
      have q87 : A_.tmps[87]? = some (.bool true) := hI.val_ (i := 19) rfl rfl (by decide) (hdep ⟨19, .guard⟩ (by simp) rfl)
      have e88 : A_.tmps[88]?.getD undef = .agg #[.int .i64 yc, .int .i64 v, .int .i64 yt, .int .i64 yk, .int .i64 yi] := getD_of (hI.val_ (i := 20) rfl rfl (by decide) (hdep ⟨20, .data⟩ (by simp) rfl))
      clear hI hdep
      exact .call ((wanted_some rfl rfl q87).trans rfl) 15 #[.agg #[.int .i64 yc, .int .i64 v, .int .i64 yt, .int .i64 yk, .int .i64 yi]] (by simp [go_sem, Act.eval, e88]) ((H7.out w3 (HB.out.trans (hh.mono HB.out.size))).mono fun _ _ ⟨h1_, h2_⟩ => ⟨⟨_, h1_, rfl⟩, h2_⟩)
    · simp only [List.getElem?_toArray, List.getElem?_cons_succ, List.getElem?_cons_zero, Option.some.injEq] at ho
      subst ho
      refine ⟨rfl, ?_⟩
      have q87 : A_.tmps[87]? = some (.bool true) := hI.val_ (i := 19) rfl rfl (by decide) (hdep ⟨19, .guard⟩ (by simp) rfl)
      have e14 : A_.tmps[14]?.getD undef = .pointer (some ⟨v2.heap.size, 0, none⟩) := by rw [hI.low 14 (by decide)]; rfl
      clear hI hdep
      obtain ⟨⟨fa0, fa1, fa2, fa3, fa4, fa5, fa6, fa7⟩, ⟨fb0, fb1, fb2, fb3, fb4⟩, ⟨fc0, fc1, fc2, fc3, fc4, fc5, fc6, fc7⟩, fd0, fd1, fd2, fd3, fd4⟩ := HK.out w3 hh
      exact .run ((wanted_some rfl rfl q87).trans rfl) (.agg #[.int .i64 yc, .int .i64 v, .int .i64 yt, .int .i64 yk, .int .i64 yi]) w3 (by simp [execOp, go_sem, Act.eval, *]) (Below.refl _ _) rfl
    · simp only [List.getElem?_toArray, List.getElem?_cons_succ, List.getElem?_cons_zero, Option.some.injEq] at ho
      subst ho
      refine ⟨rfl, ?_⟩
      have q87 : A_.tmps[87]? = some (.bool true) := hI.val_ (i := 19) rfl rfl (by decide) (hdep ⟨19, .guard⟩ (by simp) rfl)
      have e90 : A_.tmps[90]?.getD undef = .agg #[.int .i64 yc, .int .i64 v, .int .i64 yt, .int .i64 yk, .int .i64 yi] := getD_of (hI.val_ (i := 22) rfl rfl (by decide) (hdep ⟨22, .data⟩ (by simp) rfl))
      clear hI hdep
      exact .call ((wanted_some rfl rfl q87).trans rfl) 16 #[.agg #[.int .i64 yc, .int .i64 v, .int .i64 yt, .int .i64 yk, .int .i64 yi]] (by simp [go_sem, Act.eval, e90]) ((H8.out w3 (HB.out.trans (hh.mono HB.out.size))).mono fun _ _ ⟨h1_, h2_⟩ => ⟨⟨_, h1_, rfl⟩, h2_⟩)
    · simp only [List.getElem?_toArray, List.getElem?_cons_succ, List.getElem?_cons_zero, Option.some.injEq] at ho
      subst ho
      refine ⟨rfl, ?_⟩
      have q87 : A_.tmps[87]? = some (.bool true) := hI.val_ (i := 19) rfl rfl (by decide) (hdep ⟨19, .guard⟩ (by simp) rfl)
      have e89 : A_.tmps[89]?.getD undef = .string s4 := getD_of (hI.val_ (i := 21) rfl rfl (by decide) (hdep ⟨21, .data⟩ (by simp) rfl))
      have e91 : A_.tmps[91]?.getD undef = .string s4 := getD_of (hI.val_ (i := 23) rfl rfl (by decide) (hdep ⟨23, .data⟩ (by simp) rfl))
      clear hI hdep
      exact .run ((wanted_some rfl rfl q87).trans rfl) (.bool true) w3 (by simp [execOp, go_sem, Act.eval, *]) (Below.refl _ _) rfl
    · simp only [List.getElem?_toArray, List.getElem?_cons_succ, List.getElem?_cons_zero, Option.some.injEq] at ho
      subst ho
      refine ⟨rfl, ?_⟩
      have e87 : A_.tmps[87]?.getD undef = .bool true := getD_of (hI.val_ (i := 19) rfl rfl (by decide) (hdep ⟨19, .data⟩ (by simp) rfl))
      have e92 : A_.tmps[92]?.getD undef = .bool true := getD_of (hI.val_ (i := 24) rfl rfl (by decide) (hdep ⟨24, .data⟩ (by simp) rfl))
      clear hI hdep
      exact .run rfl (.bool true) w3 (by simp [execOp, go_sem, Act.eval, e87, e92]) (Below.refl _ _) rfl
    · simp only [List.getElem?_toArray, List.getElem?_cons_succ, List.getElem?_cons_zero, Option.some.injEq] at ho
      subst ho
      refine ⟨rfl, ?_⟩
      have e93 : A_.tmps[93]?.getD undef = .bool true := getD_of (hI.val_ (i := 25) rfl rfl (by decide) (hdep ⟨25, .data⟩ (by simp) rfl))
      clear hI hdep
      exact .run rfl (.bool true) w3 (by simp [execOp, go_sem, Act.eval, e93]) (Below.refl _ _) rfl
    · simp only [List.getElem?_toArray, List.getElem?_cons_succ, List.getElem?_cons_zero, Option.some.injEq] at ho
      subst ho
      refine ⟨rfl, ?_⟩
      have q94 : A_.tmps[94]? = some (.bool true) := hI.val_ (i := 26) rfl rfl (by decide) (hdep ⟨26, .guard⟩ (by simp) rfl)
      clear hI hdep
      exact .call ((wanted_some rfl rfl q94).trans rfl) 10 #[] (by simp [go_sem]) ((HL.out w3 (HB.out.trans (hh.mono HB.out.size))).mono fun _ _ ⟨h1_, h2_⟩ => ⟨⟨_, h1_, rfl⟩, h2_⟩)
    · simp only [List.getElem?_toArray, List.getElem?_cons_succ, List.getElem?_cons_zero, Option.some.injEq] at ho
      subst ho
      refine ⟨rfl, ?_⟩
      have e94 : A_.tmps[94]?.getD undef = .bool true := getD_of (hI.val_ (i := 26) rfl rfl (by decide) (hdep ⟨26, .data⟩ (by simp) rfl))
      have e95 : A_.tmps[95]?.getD undef = .bool true := getD_of (hI.val_ (i := 27) rfl rfl (by decide) (hdep ⟨27, .data⟩ (by simp) rfl))
      clear hI hdep
      exact .run rfl (.bool true) w3 (by simp [execOp, go_sem, Act.eval, e94, e95]) (Below.refl _ _) rfl
    · simp only [List.getElem?_toArray, List.getElem?_cons_succ, List.getElem?_cons_zero, Option.some.injEq] at ho
      subst ho
      refine ⟨rfl, ?_⟩
      have e96 : A_.tmps[96]?.getD undef = .bool true := getD_of (hI.val_ (i := 28) rfl rfl (by decide) (hdep ⟨28, .data⟩ (by simp) rfl))
      clear hI hdep
      exact .run rfl (.bool true) w3 (by simp [execOp, go_sem, Act.eval, e96]) (Below.refl _ _) rfl
  case fin =>
  intro A_ w3 hs hd hlow hS hok
  obtain rfl : A_ = ⟨#[.agg #[.int .i64 ek, .int .i64 en, .int .i64 ea, .int .i64 ec, .int .i64 eh, .int .i64 et, .int .i64 ei, .int .i64 ep], .agg #[.int .i64 qc, .int .i64 qh, .int .i64 qt, .int .i64 qk, .int .i64 qi], .int .i64 n, .int .i64 m, .int .i64 at_, .int .i64 v, .pointer (some ⟨w.heap.size, 0, none⟩), .pointer (some ⟨w.heap.size + 1, 0, none⟩), undef, undef, undef, undef, .bool true, .pointer (some ⟨v1.heap.size, 0, none⟩), .pointer (some ⟨v2.heap.size, 0, none⟩), .int .i64 n, .int .i64 m, .agg #[.int .i64 xk, .int .i64 xn, .int .i64 xa, .int .i64 xc, .int .i64 xh, .int .i64 xt, .int .i64 xi, .int .i64 xp], .int .i64 n, .int .i64 m, .agg #[.int .i64 yc, .int .i64 yh, .int .i64 yt, .int .i64 yk, .int .i64 yi], .int .i64 at_, .int .i64 2, undef, undef, undef, .bool false, .bool false, undef, undef, undef, undef, .bool false, .bool false, undef, undef, undef, undef, undef, .bool true, .bool true, .int .i64 v, .pointer (some ⟨v1.heap.size, 2, none⟩), .int .i64 v, .pointer (some ⟨v2.heap.size, 0, none⟩), .pointer (some ⟨v2.heap.size, 1, none⟩), undef, undef, undef, undef, undef, undef, undef, undef, undef, undef, undef, undef, undef, undef, undef, undef, undef, undef, undef, undef, undef, undef, .agg #[.int .i64 ek, .int .i64 en, .int .i64 ea, .int .i64 ec, .int .i64 eh, .int .i64 et, .int .i64 ei, .int .i64 ep], .string s1, .agg #[.int .i64 ek, .int .i64 en, .int .i64 ea, .int .i64 ec, .int .i64 eh, .int .i64 et, .int .i64 ei, .int .i64 ep], .string s1, .bool true, .bool true, .agg #[.int .i64 xk, .int .i64 xn, .int .i64 v, .int .i64 xc, .int .i64 xh, .int .i64 xt, .int .i64 xi, .int .i64 xp], .string s2, .agg #[.int .i64 xk, .int .i64 xn, .int .i64 v, .int .i64 xc, .int .i64 xh, .int .i64 xt, .int .i64 xi, .int .i64 xp], .string s2, .bool true, .bool true, .bool true, .agg #[.int .i64 qc, .int .i64 qh, .int .i64 qt, .int .i64 qk, .int .i64 qi], .string s3, .agg #[.int .i64 qc, .int .i64 qh, .int .i64 qt, .int .i64 qk, .int .i64 qi], .string s3, .bool true, .bool true, .bool true, .agg #[.int .i64 yc, .int .i64 v, .int .i64 yt, .int .i64 yk, .int .i64 yi], .string s4, .agg #[.int .i64 yc, .int .i64 v, .int .i64 yt, .int .i64 yk, .int .i64 yi], .string s4, .bool true, .bool true, .bool true, .bool true, .bool true], []⟩ := act_ext hd hs (fun j hj => match j, hj with | 0, _ => (hlow 0 (by decide)).trans rfl | 1, _ => (hlow 1 (by decide)).trans rfl | 2, _ => (hlow 2 (by decide)).trans rfl | 3, _ => (hlow 3 (by decide)).trans rfl | 4, _ => (hlow 4 (by decide)).trans rfl | 5, _ => (hlow 5 (by decide)).trans rfl | 6, _ => (hlow 6 (by decide)).trans rfl | 7, _ => (hlow 7 (by decide)).trans rfl | 8, _ => (hlow 8 (by decide)).trans rfl | 9, _ => (hlow 9 (by decide)).trans rfl | 10, _ => (hlow 10 (by decide)).trans rfl | 11, _ => (hlow 11 (by decide)).trans rfl | 12, _ => RgX.val_at (hok 29 12 _ (by decide) rfl rfl) | 13, _ => (hlow 13 (by decide)).trans rfl | 14, _ => (hlow 14 (by decide)).trans rfl | 15, _ => (hlow 15 (by decide)).trans rfl | 16, _ => (hlow 16 (by decide)).trans rfl | 17, _ => (hlow 17 (by decide)).trans rfl | 18, _ => (hlow 18 (by decide)).trans rfl | 19, _ => (hlow 19 (by decide)).trans rfl | 20, _ => (hlow 20 (by decide)).trans rfl | 21, _ => (hlow 21 (by decide)).trans rfl | 22, _ => (hlow 22 (by decide)).trans rfl | 23, _ => (hlow 23 (by decide)).trans rfl | 24, _ => (hlow 24 (by decide)).trans rfl | 25, _ => (hlow 25 (by decide)).trans rfl | 26, _ => (hlow 26 (by decide)).trans rfl | 27, _ => (hlow 27 (by decide)).trans rfl | 28, _ => (hlow 28 (by decide)).trans rfl | 29, _ => (hlow 29 (by decide)).trans rfl | 30, _ => (hlow 30 (by decide)).trans rfl | 31, _ => (hlow 31 (by decide)).trans rfl | 32, _ => (hlow 32 (by decide)).trans rfl | 33, _ => (hlow 33 (by decide)).trans rfl | 34, _ => (hlow 34 (by decide)).trans rfl | 35, _ => (hlow 35 (by decide)).trans rfl | 36, _ => (hlow 36 (by decide)).trans rfl | 37, _ => (hlow 37 (by decide)).trans rfl | 38, _ => (hlow 38 (by decide)).trans rfl | 39, _ => (hlow 39 (by decide)).trans rfl | 40, _ => (hlow 40 (by decide)).trans rfl | 41, _ => (hlow 41 (by decide)).trans rfl | 42, _ => (hlow 42 (by decide)).trans rfl | 43, _ => (hlow 43 (by decide)).trans rfl | 44, _ => (hlow 44 (by decide)).trans rfl | 45, _ => (hlow 45 (by decide)).trans rfl | 46, _ => (hlow 46 (by decide)).trans rfl | 47, _ => (hlow 47 (by decide)).trans rfl | 48, _ => (hlow 48 (by decide)).trans rfl | 49, _ => (hlow 49 (by decide)).trans rfl | 50, _ => (hlow 50 (by decide)).trans rfl | 51, _ => (hlow 51 (by decide)).trans rfl | 52, _ => (hlow 52 (by decide)).trans rfl | 53, _ => (hlow 53 (by decide)).trans rfl | 54, _ => (hlow 54 (by decide)).trans rfl | 55, _ => (hlow 55 (by decide)).trans rfl | 56, _ => (hlow 56 (by decide)).trans rfl | 57, _ => (hlow 57 (by decide)).trans rfl | 58, _ => (hlow 58 (by decide)).trans rfl | 59, _ => (hlow 59 (by decide)).trans rfl | 60, _ => (hlow 60 (by decide)).trans rfl | 61, _ => (hlow 61 (by decide)).trans rfl | 62, _ => (hlow 62 (by decide)).trans rfl | 63, _ => (hlow 63 (by decide)).trans rfl | 64, _ => (hlow 64 (by decide)).trans rfl | 65, _ => (hlow 65 (by decide)).trans rfl | 66, _ => (hlow 66 (by decide)).trans rfl | 67, _ => (hlow 67 (by decide)).trans rfl | 68, _ => RgX.val_at (hok 0 68 _ (by decide) rfl rfl) | 69, _ => RgX.val_at (hok 1 69 _ (by decide) rfl rfl) | 70, _ => RgX.val_at (hok 2 70 _ (by decide) rfl rfl) | 71, _ => RgX.val_at (hok 3 71 _ (by decide) rfl rfl) | 72, _ => RgX.val_at (hok 4 72 _ (by decide) rfl rfl) | 73, _ => RgX.val_at (hok 5 73 _ (by decide) rfl rfl) | 74, _ => RgX.val_at (hok 6 74 _ (by decide) rfl rfl) | 75, _ => RgX.val_at (hok 7 75 _ (by decide) rfl rfl) | 76, _ => RgX.val_at (hok 8 76 _ (by decide) rfl rfl) | 77, _ => RgX.val_at (hok 9 77 _ (by decide) rfl rfl) | 78, _ => RgX.val_at (hok 10 78 _ (by decide) rfl rfl) | 79, _ => RgX.val_at (hok 11 79 _ (by decide) rfl rfl) | 80, _ => RgX.val_at (hok 12 80 _ (by decide) rfl rfl) | 81, _ => RgX.val_at (hok 13 81 _ (by decide) rfl rfl) | 82, _ => RgX.val_at (hok 14 82 _ (by decide) rfl rfl) | 83, _ => RgX.val_at (hok 15 83 _ (by decide) rfl rfl) | 84, _ => RgX.val_at (hok 16 84 _ (by decide) rfl rfl) | 85, _ => RgX.val_at (hok 17 85 _ (by decide) rfl rfl) | 86, _ => RgX.val_at (hok 18 86 _ (by decide) rfl rfl) | 87, _ => RgX.val_at (hok 19 87 _ (by decide) rfl rfl) | 88, _ => RgX.val_at (hok 20 88 _ (by decide) rfl rfl) | 89, _ => RgX.val_at (hok 21 89 _ (by decide) rfl rfl) | 90, _ => RgX.val_at (hok 22 90 _ (by decide) rfl rfl) | 91, _ => RgX.val_at (hok 23 91 _ (by decide) rfl rfl) | 92, _ => RgX.val_at (hok 24 92 _ (by decide) rfl rfl) | 93, _ => RgX.val_at (hok 25 93 _ (by decide) rfl rfl) | 94, _ => RgX.val_at (hok 26 94 _ (by decide) rfl rfl) | 95, _ => RgX.val_at (hok 27 95 _ (by decide) rfl rfl) | 96, _ => RgX.val_at (hok 28 96 _ (by decide) rfl rfl) | n + 97, h => absurd h (by show ¬ n + 97 < 97; omega))
  clear hs hd hlow hok 
  go_wp2_with fail
  go_ret
  exact ⟨rfl, HB.out.trans (hS.mono HB.out.size)⟩
set_option maxHeartbeats 4000000 in
set_option maxRecDepth 100000 in
theorem walk_3 (ek en ea ec eh et ei ep qc qh qt qk qi xk xn xa xc xh xt xi xp yc yh yt yk yi n m at_ v : Int) (s1 s2 s3 s4 : ByteArray) (w : World)
    (HA : Hid (∀ V, Calls Tryz.prog 7 #[.int .i64 at_, .int .i64 7] V fun e w' => e = .returned (.int .i64 3) ∧ V = w'))
    (HG : Hid (∀ V, Calls Tryz.prog 11 #[.int .i64 n, .int .i64 m] V fun e w' => e = .returned (.agg #[.int .i64 xk, .int .i64 xn, .int .i64 xa, .int .i64 xc, .int .i64 xh, .int .i64 xt, .int .i64 xi, .int .i64 xp]) ∧ Below V.heap.size V w'))
    (HH : Hid (∀ V, Calls Tryz.prog 12 #[.int .i64 n, .int .i64 m] V fun e w' => e = .returned (.agg #[.int .i64 yc, .int .i64 yh, .int .i64 yt, .int .i64 yk, .int .i64 yi]) ∧ Below V.heap.size V w'))
    (H1 : Hid (∀ V, Below w.heap.size w V → Calls Tryz.prog 13 #[.agg #[.int .i64 ek, .int .i64 en, .int .i64 ea, .int .i64 ec, .int .i64 eh, .int .i64 et, .int .i64 ei, .int .i64 ep]] V fun e w' => e = .returned (.string s1) ∧ Below V.heap.size V w'))
    (H2 : Hid (∀ V, Below w.heap.size w V → Calls Tryz.prog 14 #[.agg #[.int .i64 ek, .int .i64 en, .int .i64 ea, .int .i64 ec, .int .i64 eh, .int .i64 et, .int .i64 ei, .int .i64 ep]] V fun e w' => e = .returned (.string s1) ∧ Below V.heap.size V w'))
    (H3 : Hid (∀ V, Below w.heap.size w V → Calls Tryz.prog 13 #[.agg #[.int .i64 xk, .int .i64 xn, .int .i64 xa, .int .i64 v, .int .i64 xh, .int .i64 xt, .int .i64 xi, .int .i64 xp]] V fun e w' => e = .returned (.string s2) ∧ Below V.heap.size V w'))
    (H4 : Hid (∀ V, Below w.heap.size w V → Calls Tryz.prog 14 #[.agg #[.int .i64 xk, .int .i64 xn, .int .i64 xa, .int .i64 v, .int .i64 xh, .int .i64 xt, .int .i64 xi, .int .i64 xp]] V fun e w' => e = .returned (.string s2) ∧ Below V.heap.size V w'))
    (H5 : Hid (∀ V, Below w.heap.size w V → Calls Tryz.prog 15 #[.agg #[.int .i64 qc, .int .i64 qh, .int .i64 qt, .int .i64 qk, .int .i64 qi]] V fun e w' => e = .returned (.string s3) ∧ Below V.heap.size V w'))
    (H6 : Hid (∀ V, Below w.heap.size w V → Calls Tryz.prog 16 #[.agg #[.int .i64 qc, .int .i64 qh, .int .i64 qt, .int .i64 qk, .int .i64 qi]] V fun e w' => e = .returned (.string s3) ∧ Below V.heap.size V w'))
    (H7 : Hid (∀ V, Below w.heap.size w V → Calls Tryz.prog 15 #[.agg #[.int .i64 yc, .int .i64 yh, .int .i64 v, .int .i64 yk, .int .i64 yi]] V fun e w' => e = .returned (.string s4) ∧ Below V.heap.size V w'))
    (H8 : Hid (∀ V, Below w.heap.size w V → Calls Tryz.prog 16 #[.agg #[.int .i64 yc, .int .i64 yh, .int .i64 v, .int .i64 yk, .int .i64 yi]] V fun e w' => e = .returned (.string s4) ∧ Below V.heap.size V w'))
    (HL : Hid (∀ V, Below w.heap.size w V → Calls Tryz.prog 10 #[] V fun e w' => e = .returned (.bool true) ∧ Below V.heap.size V w')) :
    Calls Tryz.prog 4 #[.agg #[.int .i64 ek, .int .i64 en, .int .i64 ea, .int .i64 ec, .int .i64 eh, .int .i64 et, .int .i64 ei, .int .i64 ep], .agg #[.int .i64 qc, .int .i64 qh, .int .i64 qt, .int .i64 qk, .int .i64 qi], .int .i64 n, .int .i64 m, .int .i64 at_, .int .i64 v] w fun e w' => e = .returned (.bool true) ∧ Below w.heap.size w w' := by
  obtain ⟨U, hU, hb0, ke, kq, hlt⟩ := two_boxes w (.cells #[.int .i64 ek, .int .i64 en, .int .i64 ea, .int .i64 ec, .int .i64 eh, .int .i64 et, .int .i64 ei, .int .i64 ep] 28) (.cells #[.int .i64 qc, .int .i64 qh, .int .i64 qt, .int .i64 qk, .int .i64 qi] 36)
  have HB0 := Lib.hid (And.intro hb0 (And.intro ke (And.intro kq hlt)))
  have hs0 := hb0.size
  clear hb0 ke kq
  go_enter Tryz.func4, Tryz.ntmps4
  go_wp2_with fail
  clear hU
  refine (HG.out _).mono ?_
  rintro e v1 ⟨rfl, hb1⟩
  have h1z := hb1.size
  have HB1 := Lib.hid hb1
  clear hb1
  go_wp2_with (refine RgX.wpList_store_seg rfl 28 _ _ rfl v1.heap.size 0 (.agg #[.int .i64 xk, .int .i64 xn, .int .i64 xa, .int .i64 xc, .int .i64 xh, .int .i64 xt, .int .i64 xi, .int .i64 xp]) rfl rfl 28 #[.int .i64 0, .int .i64 0, .int .i64 0, .int .i64 0, .int .i64 0, .int .i64 0, .int .i64 0, .int .i64 0] (new_at rfl) (by rw [size_ev]; rfl) (by show 0 + 8 ≤ 8; omega) (by simp [Value.cells, Value.oneCell']) #[.int .i64 xk, .int .i64 xn, .int .i64 xa, .int .i64 xc, .int .i64 xh, .int .i64 xt, .int .i64 xi, .int .i64 xp] rfl ?_; intro u1 kx1 ho1 hz1 hx1)
  have h1u : u1.heap.size = v1.heap.size + 1 := by rw [hz1]; simp
  have hu1 : Below v1.heap.size v1 u1 := (one_box v1 _).trans hx1
  refine (HH.out _).mono ?_
  rintro e v2 ⟨rfl, hb2⟩
  have h2z := hb2.size
  have kx2 : v2.heap[v1.heap.size]? = some (.cells #[.int .i64 xk, .int .i64 xn, .int .i64 xa, .int .i64 xc, .int .i64 xh, .int .i64 xt, .int .i64 xi, .int .i64 xp] 28 (0, 0)) := (hb2.block _ (by omega)).trans kx1
  have HB2 := Lib.hid (show Below U.heap.size U v2 from (HB1.out.trans (hu1.mono h1z)).trans (hb2.mono (by omega)))
  have KX2 := Lib.hid kx2
  clear hb2 hu1 ho1 hz1 hx1 kx1 kx2 HB1
  have hne : v1.heap.size ≠ v2.heap.size := by omega
  go_wp2_with (first | (refine RgX.wpList_store_seg rfl 36 _ _ rfl v2.heap.size 0 (.agg #[.int .i64 yc, .int .i64 yh, .int .i64 yt, .int .i64 yk, .int .i64 yi]) rfl rfl 36 #[.int .i64 0, .int .i64 0, .int .i64 0, .int .i64 0, .int .i64 0] (new_at rfl) (by rw [size_qu]; rfl) (by show 0 + 5 ≤ 5; omega) (by simp [Value.cells, Value.oneCell']) #[.int .i64 yc, .int .i64 yh, .int .i64 yt, .int .i64 yk, .int .i64 yi] rfl ?_; intro u2 ky2 ho2 hz2 hx2; have kx3 : u2.heap[v1.heap.size]? = some (.cells #[.int .i64 xk, .int .i64 xn, .int .i64 xa, .int .i64 xc, .int .i64 xh, .int .i64 xt, .int .i64 xi, .int .i64 xp] 28 (0, 0)) := (ho2 _ hne).trans ((Below.heap_alloc _ _ _ (by omega)).trans KX2.out); have h2u : u2.heap.size = v2.heap.size + 1 := (by rw [hz2]; simp); have HU2 := Lib.hid (show Below U.heap.size U u2 from HB2.out.trans (((one_box v2 _).trans hx2).mono (by omega))); have KX3 := Lib.hid kx3; have KY2 := Lib.hid ky2; clear kx3 ky2 ho2 hz2 hx2) | (go_at_call 7; refine (HA.out _).mono ?_; rintro e w1 ⟨rfl, rfl⟩) | (refine RgX.wpList_store_seg rfl 3 _ _ rfl v1.heap.size 3 (.int .i64 v) rfl rfl 28 _ KX3.out (by rw [size_in]; rfl) (by show 3 + 1 ≤ 8; omega) (by simp [Value.cells, Value.oneCell']) #[.int .i64 xk, .int .i64 xn, .int .i64 xa, .int .i64 v, .int .i64 xh, .int .i64 xt, .int .i64 xi, .int .i64 xp] rfl ?_; intro u3 kx4 ho3 hz3 hx3; have ky3 : u3.heap[v2.heap.size]? = some (.cells #[.int .i64 yc, .int .i64 yh, .int .i64 yt, .int .i64 yk, .int .i64 yi] 36 (0, 0)) := (ho3 _ (fun e => hne e.symm)).trans KY2.out; have h3u : u3.heap.size = u2.heap.size := hz3; have HU3 := Lib.hid (show Below U.heap.size U u3 from HU2.out.trans (hx3.mono (by omega))); have KX4 := Lib.hid kx4; have KY3 := Lib.hid ky3; clear kx4 ky3 ho3 hz3 hx3) | (refine RgX.wpList_store_seg rfl 3 _ _ rfl v2.heap.size 2 (.int .i64 v) rfl rfl 36 _ KY3.out (by rw [size_in]; rfl) (by show 2 + 1 ≤ 5; omega) (by simp [Value.cells, Value.oneCell']) #[.int .i64 yc, .int .i64 yh, .int .i64 v, .int .i64 yk, .int .i64 yi] rfl ?_; intro u4 ky4 ho4 hz4 hx4; have kx5 : u4.heap[v1.heap.size]? = some (.cells #[.int .i64 xk, .int .i64 xn, .int .i64 xa, .int .i64 v, .int .i64 xh, .int .i64 xt, .int .i64 xi, .int .i64 xp] 28 (0, 0)) := (ho4 _ hne).trans KX4.out; have h4u : u4.heap.size = u2.heap.size := hz4.trans h3u; have HU4 := Lib.hid (show Below U.heap.size U u4 from HU3.out.trans (hx4.mono (by omega))); have KXF := Lib.hid kx5; have KYF := Lib.hid ky4; clear kx5 ky4 ho4 hz4 hx4))
  obtain ⟨hb0, ke, kq, hlt⟩ := HB0.out
  have kx := KXF.out
  have ky := KYF.out
  have hbu := HU4.out
  have hzu : u4.heap.size = v2.heap.size + 1 := by omega
  have HB := Lib.hid (show Below w.heap.size w u4 from hb0.trans (hbu.mono hb0.size))
  have HK := Lib.hid (fun (V : World) (hV : Below u4.heap.size u4 V) => And.intro (row8 ((hV.block _ (by omega)).trans ((hbu.block _ (by omega)).trans ke))) (And.intro (row5 ((hV.block _ (by omega)).trans ((hbu.block _ hlt).trans kq))) (And.intro (row8 ((hV.block _ (by omega)).trans kx)) (row5 ((hV.block _ (by omega)).trans ky)))))
  clear hb0 ke kq kx ky hbu HB0 HB2
  refine RgX.region 30 (fun i => (if i = 29 then 12 else 68 + i)) (fun ix_ => match ix_ with | 0 => .v (.agg #[.int .i64 ek, .int .i64 en, .int .i64 ea, .int .i64 ec, .int .i64 eh, .int .i64 et, .int .i64 ei, .int .i64 ep]) | 1 => .v (.string s1) | 2 => .v (.agg #[.int .i64 ek, .int .i64 en, .int .i64 ea, .int .i64 ec, .int .i64 eh, .int .i64 et, .int .i64 ei, .int .i64 ep]) | 3 => .v (.string s1) | 4 => .v (.bool true) | 5 => .v (.bool true) | 6 => .v (.agg #[.int .i64 xk, .int .i64 xn, .int .i64 xa, .int .i64 v, .int .i64 xh, .int .i64 xt, .int .i64 xi, .int .i64 xp]) | 7 => .v (.string s2) | 8 => .v (.agg #[.int .i64 xk, .int .i64 xn, .int .i64 xa, .int .i64 v, .int .i64 xh, .int .i64 xt, .int .i64 xi, .int .i64 xp]) | 9 => .v (.string s2) | 10 => .v (.bool true) | 11 => .v (.bool true) | 12 => .v (.bool true) | 13 => .v (.agg #[.int .i64 qc, .int .i64 qh, .int .i64 qt, .int .i64 qk, .int .i64 qi]) | 14 => .v (.string s3) | 15 => .v (.agg #[.int .i64 qc, .int .i64 qh, .int .i64 qt, .int .i64 qk, .int .i64 qi]) | 16 => .v (.string s3) | 17 => .v (.bool true) | 18 => .v (.bool true) | 19 => .v (.bool true) | 20 => .v (.agg #[.int .i64 yc, .int .i64 yh, .int .i64 v, .int .i64 yk, .int .i64 yi]) | 21 => .v (.string s4) | 22 => .v (.agg #[.int .i64 yc, .int .i64 yh, .int .i64 v, .int .i64 yk, .int .i64 yi]) | 23 => .v (.string s4) | 24 => .v (.bool true) | 25 => .v (.bool true) | 26 => .v (.bool true) | 27 => .v (.bool true) | 28 => .v (.bool true) | 29 => .v (.bool true) | _ => .any) (by kernel_rfl) rfl (by kernel_rfl)  (fun i hi => by show (if i = 29 then 12 else 68 + i) < 97; (repeat' split) <;> omega) (fun i j hi hj => by show (if i = 29 then 12 else 68 + i) = (if j = 29 then 12 else 68 + j) → i = j; (repeat' split) <;> omega) ?step ?fin
  case step =>
    intro L_ A_ w3 ix op_ hI ho hdep
    have hi : ix < 30 := (Array.getElem?_eq_some_iff.1 ho).1
    have hcase : ix = 0 ∨ ix = 1 ∨ ix = 2 ∨ ix = 3 ∨ ix = 4 ∨ ix = 5 ∨ ix = 6 ∨ ix = 7 ∨ ix = 8 ∨ ix = 9 ∨ ix = 10 ∨ ix = 11 ∨ ix = 12 ∨ ix = 13 ∨ ix = 14 ∨ ix = 15 ∨ ix = 16 ∨ ix = 17 ∨ ix = 18 ∨ ix = 19 ∨ ix = 20 ∨ ix = 21 ∨ ix = 22 ∨ ix = 23 ∨ ix = 24 ∨ ix = 25 ∨ ix = 26 ∨ ix = 27 ∨ ix = 28 ∨ ix = 29 := by omega
    have hh := hI.held
    clear hi
    rcases hcase with rfl | rfl | rfl | rfl | rfl | rfl | rfl | rfl | rfl | rfl | rfl | rfl | rfl | rfl | rfl | rfl | rfl | rfl | rfl | rfl | rfl | rfl | rfl | rfl | rfl | rfl | rfl | rfl | rfl | rfl
    · simp only [List.getElem?_toArray, List.getElem?_cons_zero, Option.some.injEq] at ho
      subst ho
      refine ⟨rfl, ?_⟩
      have e6 : A_.tmps[6]?.getD undef = .pointer (some ⟨w.heap.size, 0, none⟩) := by rw [hI.low 6 (by decide)]; rfl
      clear hI hdep
      obtain ⟨⟨fa0, fa1, fa2, fa3, fa4, fa5, fa6, fa7⟩, ⟨fb0, fb1, fb2, fb3, fb4⟩, ⟨fc0, fc1, fc2, fc3, fc4, fc5, fc6, fc7⟩, fd0, fd1, fd2, fd3, fd4⟩ := HK.out w3 hh
      exact .run rfl (.agg #[.int .i64 ek, .int .i64 en, .int .i64 ea, .int .i64 ec, .int .i64 eh, .int .i64 et, .int .i64 ei, .int .i64 ep]) w3 (by simp [execOp, go_sem, Act.eval, *]) (Below.refl _ _) rfl
    · simp only [List.getElem?_toArray, List.getElem?_cons_succ, List.getElem?_cons_zero, Option.some.injEq] at ho
      subst ho
      refine ⟨rfl, ?_⟩
      have e68 : A_.tmps[68]?.getD undef = .agg #[.int .i64 ek, .int .i64 en, .int .i64 ea, .int .i64 ec, .int .i64 eh, .int .i64 et, .int .i64 ei, .int .i64 ep] := getD_of (hI.val_ (i := 0) rfl rfl (by decide) (hdep ⟨0, .data⟩ (by simp) rfl))
      clear hI hdep
      exact .call rfl 13 #[.agg #[.int .i64 ek, .int .i64 en, .int .i64 ea, .int .i64 ec, .int .i64 eh, .int .i64 et, .int .i64 ei, .int .i64 ep]] (by simp [go_sem, Act.eval, e68]) ((H1.out w3 (HB.out.trans (hh.mono HB.out.size))).mono fun _ _ ⟨h1_, h2_⟩ => ⟨⟨_, h1_, rfl⟩, h2_⟩)
    · simp only [List.getElem?_toArray, List.getElem?_cons_succ, List.getElem?_cons_zero, Option.some.injEq] at ho
      subst ho
      refine ⟨rfl, ?_⟩
      have e6 : A_.tmps[6]?.getD undef = .pointer (some ⟨w.heap.size, 0, none⟩) := by rw [hI.low 6 (by decide)]; rfl
      clear hI hdep
      obtain ⟨⟨fa0, fa1, fa2, fa3, fa4, fa5, fa6, fa7⟩, ⟨fb0, fb1, fb2, fb3, fb4⟩, ⟨fc0, fc1, fc2, fc3, fc4, fc5, fc6, fc7⟩, fd0, fd1, fd2, fd3, fd4⟩ := HK.out w3 hh
      exact .run rfl (.agg #[.int .i64 ek, .int .i64 en, .int .i64 ea, .int .i64 ec, .int .i64 eh, .int .i64 et, .int .i64 ei, .int .i64 ep]) w3 (by simp [execOp, go_sem, Act.eval, *]) (Below.refl _ _) rfl
    · simp only [List.getElem?_toArray, List.getElem?_cons_succ, List.getElem?_cons_zero, Option.some.injEq] at ho
      subst ho
      refine ⟨rfl, ?_⟩
      have e70 : A_.tmps[70]?.getD undef = .agg #[.int .i64 ek, .int .i64 en, .int .i64 ea, .int .i64 ec, .int .i64 eh, .int .i64 et, .int .i64 ei, .int .i64 ep] := getD_of (hI.val_ (i := 2) rfl rfl (by decide) (hdep ⟨2, .data⟩ (by simp) rfl))
      clear hI hdep
      exact .call rfl 14 #[.agg #[.int .i64 ek, .int .i64 en, .int .i64 ea, .int .i64 ec, .int .i64 eh, .int .i64 et, .int .i64 ei, .int .i64 ep]] (by simp [go_sem, Act.eval, e70]) ((H2.out w3 (HB.out.trans (hh.mono HB.out.size))).mono fun _ _ ⟨h1_, h2_⟩ => ⟨⟨_, h1_, rfl⟩, h2_⟩)
    · simp only [List.getElem?_toArray, List.getElem?_cons_succ, List.getElem?_cons_zero, Option.some.injEq] at ho
      subst ho
      refine ⟨rfl, ?_⟩
      have e69 : A_.tmps[69]?.getD undef = .string s1 := getD_of (hI.val_ (i := 1) rfl rfl (by decide) (hdep ⟨1, .data⟩ (by simp) rfl))
      have e71 : A_.tmps[71]?.getD undef = .string s1 := getD_of (hI.val_ (i := 3) rfl rfl (by decide) (hdep ⟨3, .data⟩ (by simp) rfl))
      clear hI hdep
      exact .run rfl (.bool true) w3 (by simp [execOp, go_sem, Act.eval, *]) (Below.refl _ _) rfl
    · simp only [List.getElem?_toArray, List.getElem?_cons_succ, List.getElem?_cons_zero, Option.some.injEq] at ho
      subst ho
      refine ⟨rfl, ?_⟩
      have e72 : A_.tmps[72]?.getD undef = .bool true := getD_of (hI.val_ (i := 4) rfl rfl (by decide) (hdep ⟨4, .data⟩ (by simp) rfl))
      clear hI hdep
      exact .run rfl (.bool true) w3 (by simp [execOp, go_sem, Act.eval, e72]) (Below.refl _ _) rfl
    · simp only [List.getElem?_toArray, List.getElem?_cons_succ, List.getElem?_cons_zero, Option.some.injEq] at ho
      subst ho
      refine ⟨rfl, ?_⟩
      have q73 : A_.tmps[73]? = some (.bool true) := hI.val_ (i := 5) rfl rfl (by decide) (hdep ⟨5, .guard⟩ (by simp) rfl)
      have e13 : A_.tmps[13]?.getD undef = .pointer (some ⟨v1.heap.size, 0, none⟩) := by rw [hI.low 13 (by decide)]; rfl
      clear hI hdep
      obtain ⟨⟨fa0, fa1, fa2, fa3, fa4, fa5, fa6, fa7⟩, ⟨fb0, fb1, fb2, fb3, fb4⟩, ⟨fc0, fc1, fc2, fc3, fc4, fc5, fc6, fc7⟩, fd0, fd1, fd2, fd3, fd4⟩ := HK.out w3 hh
      exact .run ((wanted_some rfl rfl q73).trans rfl) (.agg #[.int .i64 xk, .int .i64 xn, .int .i64 xa, .int .i64 v, .int .i64 xh, .int .i64 xt, .int .i64 xi, .int .i64 xp]) w3 (by simp [execOp, go_sem, Act.eval, *]) (Below.refl _ _) rfl
    · simp only [List.getElem?_toArray, List.getElem?_cons_succ, List.getElem?_cons_zero, Option.some.injEq] at ho
      subst ho
      refine ⟨rfl, ?_⟩
      have q73 : A_.tmps[73]? = some (.bool true) := hI.val_ (i := 5) rfl rfl (by decide) (hdep ⟨5, .guard⟩ (by simp) rfl)
      have e74 : A_.tmps[74]?.getD undef = .agg #[.int .i64 xk, .int .i64 xn, .int .i64 xa, .int .i64 v, .int .i64 xh, .int .i64 xt, .int .i64 xi, .int .i64 xp] := getD_of (hI.val_ (i := 6) rfl rfl (by decide) (hdep ⟨6, .data⟩ (by simp) rfl))
      clear hI hdep
      exact .call ((wanted_some rfl rfl q73).trans rfl) 13 #[.agg #[.int .i64 xk, .int .i64 xn, .int .i64 xa, .int .i64 v, .int .i64 xh, .int .i64 xt, .int .i64 xi, .int .i64 xp]] (by simp [go_sem, Act.eval, e74]) ((H3.out w3 (HB.out.trans (hh.mono HB.out.size))).mono fun _ _ ⟨h1_, h2_⟩ => ⟨⟨_, h1_, rfl⟩, h2_⟩)
    · simp only [List.getElem?_toArray, List.getElem?_cons_succ, List.getElem?_cons_zero, Option.some.injEq] at ho
      subst ho
      refine ⟨rfl, ?_⟩
      have q73 : A_.tmps[73]? = some (.bool true) := hI.val_ (i := 5) rfl rfl (by decide) (hdep ⟨5, .guard⟩ (by simp) rfl)
      have e13 : A_.tmps[13]?.getD undef = .pointer (some ⟨v1.heap.size, 0, none⟩) := by rw [hI.low 13 (by decide)]; rfl
      clear hI hdep
      obtain ⟨⟨fa0, fa1, fa2, fa3, fa4, fa5, fa6, fa7⟩, ⟨fb0, fb1, fb2, fb3, fb4⟩, ⟨fc0, fc1, fc2, fc3, fc4, fc5, fc6, fc7⟩, fd0, fd1, fd2, fd3, fd4⟩ := HK.out w3 hh
      exact .run ((wanted_some rfl rfl q73).trans rfl) (.agg #[.int .i64 xk, .int .i64 xn, .int .i64 xa, .int .i64 v, .int .i64 xh, .int .i64 xt, .int .i64 xi, .int .i64 xp]) w3 (by simp [execOp, go_sem, Act.eval, *]) (Below.refl _ _) rfl
    · simp only [List.getElem?_toArray, List.getElem?_cons_succ, List.getElem?_cons_zero, Option.some.injEq] at ho
      subst ho
      refine ⟨rfl, ?_⟩
      have q73 : A_.tmps[73]? = some (.bool true) := hI.val_ (i := 5) rfl rfl (by decide) (hdep ⟨5, .guard⟩ (by simp) rfl)
      have e76 : A_.tmps[76]?.getD undef = .agg #[.int .i64 xk, .int .i64 xn, .int .i64 xa, .int .i64 v, .int .i64 xh, .int .i64 xt, .int .i64 xi, .int .i64 xp] := getD_of (hI.val_ (i := 8) rfl rfl (by decide) (hdep ⟨8, .data⟩ (by simp) rfl))
      clear hI hdep
      exact .call ((wanted_some rfl rfl q73).trans rfl) 14 #[.agg #[.int .i64 xk, .int .i64 xn, .int .i64 xa, .int .i64 v, .int .i64 xh, .int .i64 xt, .int .i64 xi, .int .i64 xp]] (by simp [go_sem, Act.eval, e76]) ((H4.out w3 (HB.out.trans (hh.mono HB.out.size))).mono fun _ _ ⟨h1_, h2_⟩ => ⟨⟨_, h1_, rfl⟩, h2_⟩)
    · simp only [List.getElem?_toArray, List.getElem?_cons_succ, List.getElem?_cons_zero, Option.some.injEq] at ho
      subst ho
      refine ⟨rfl, ?_⟩
      have q73 : A_.tmps[73]? = some (.bool true) := hI.val_ (i := 5) rfl rfl (by decide) (hdep ⟨5, .guard⟩ (by simp) rfl)
      have e75 : A_.tmps[75]?.getD undef = .string s2 := getD_of (hI.val_ (i := 7) rfl rfl (by decide) (hdep ⟨7, .data⟩ (by simp) rfl))
      have e77 : A_.tmps[77]?.getD undef = .string s2 := getD_of (hI.val_ (i := 9) rfl rfl (by decide) (hdep ⟨9, .data⟩ (by simp) rfl))
      clear hI hdep
      exact .run ((wanted_some rfl rfl q73).trans rfl) (.bool true) w3 (by simp [execOp, go_sem, Act.eval, *]) (Below.refl _ _) rfl
    · simp only [List.getElem?_toArray, List.getElem?_cons_succ, List.getElem?_cons_zero, Option.some.injEq] at ho
      subst ho
      refine ⟨rfl, ?_⟩
      have e73 : A_.tmps[73]?.getD undef = .bool true := getD_of (hI.val_ (i := 5) rfl rfl (by decide) (hdep ⟨5, .data⟩ (by simp) rfl))
      have e78 : A_.tmps[78]?.getD undef = .bool true := getD_of (hI.val_ (i := 10) rfl rfl (by decide) (hdep ⟨10, .data⟩ (by simp) rfl))
      clear hI hdep
      exact .run rfl (.bool true) w3 (by simp [execOp, go_sem, Act.eval, e73, e78]) (Below.refl _ _) rfl
    · simp only [List.getElem?_toArray, List.getElem?_cons_succ, List.getElem?_cons_zero, Option.some.injEq] at ho
      subst ho
      refine ⟨rfl, ?_⟩
      have e79 : A_.tmps[79]?.getD undef = .bool true := getD_of (hI.val_ (i := 11) rfl rfl (by decide) (hdep ⟨11, .data⟩ (by simp) rfl))
      clear hI hdep
      exact .run rfl (.bool true) w3 (by simp [execOp, go_sem, Act.eval, e79]) (Below.refl _ _) rfl
    · simp only [List.getElem?_toArray, List.getElem?_cons_succ, List.getElem?_cons_zero, Option.some.injEq] at ho
      subst ho
      refine ⟨rfl, ?_⟩
      have q80 : A_.tmps[80]? = some (.bool true) := hI.val_ (i := 12) rfl rfl (by decide) (hdep ⟨12, .guard⟩ (by simp) rfl)
      have e7 : A_.tmps[7]?.getD undef = .pointer (some ⟨w.heap.size + 1, 0, none⟩) := by rw [hI.low 7 (by decide)]; rfl
      clear hI hdep
      obtain ⟨⟨fa0, fa1, fa2, fa3, fa4, fa5, fa6, fa7⟩, ⟨fb0, fb1, fb2, fb3, fb4⟩, ⟨fc0, fc1, fc2, fc3, fc4, fc5, fc6, fc7⟩, fd0, fd1, fd2, fd3, fd4⟩ := HK.out w3 hh
      exact .run ((wanted_some rfl rfl q80).trans rfl) (.agg #[.int .i64 qc, .int .i64 qh, .int .i64 qt, .int .i64 qk, .int .i64 qi]) w3 (by simp [execOp, go_sem, Act.eval, *]) (Below.refl _ _) rfl
    · simp only [List.getElem?_toArray, List.getElem?_cons_succ, List.getElem?_cons_zero, Option.some.injEq] at ho
      subst ho
      refine ⟨rfl, ?_⟩
      have q80 : A_.tmps[80]? = some (.bool true) := hI.val_ (i := 12) rfl rfl (by decide) (hdep ⟨12, .guard⟩ (by simp) rfl)
      have e81 : A_.tmps[81]?.getD undef = .agg #[.int .i64 qc, .int .i64 qh, .int .i64 qt, .int .i64 qk, .int .i64 qi] := getD_of (hI.val_ (i := 13) rfl rfl (by decide) (hdep ⟨13, .data⟩ (by simp) rfl))
      clear hI hdep
      exact .call ((wanted_some rfl rfl q80).trans rfl) 15 #[.agg #[.int .i64 qc, .int .i64 qh, .int .i64 qt, .int .i64 qk, .int .i64 qi]] (by simp [go_sem, Act.eval, e81]) ((H5.out w3 (HB.out.trans (hh.mono HB.out.size))).mono fun _ _ ⟨h1_, h2_⟩ => ⟨⟨_, h1_, rfl⟩, h2_⟩)
    · simp only [List.getElem?_toArray, List.getElem?_cons_succ, List.getElem?_cons_zero, Option.some.injEq] at ho
      subst ho
      refine ⟨rfl, ?_⟩
      have q80 : A_.tmps[80]? = some (.bool true) := hI.val_ (i := 12) rfl rfl (by decide) (hdep ⟨12, .guard⟩ (by simp) rfl)
      have e7 : A_.tmps[7]?.getD undef = .pointer (some ⟨w.heap.size + 1, 0, none⟩) := by rw [hI.low 7 (by decide)]; rfl
      clear hI hdep
      obtain ⟨⟨fa0, fa1, fa2, fa3, fa4, fa5, fa6, fa7⟩, ⟨fb0, fb1, fb2, fb3, fb4⟩, ⟨fc0, fc1, fc2, fc3, fc4, fc5, fc6, fc7⟩, fd0, fd1, fd2, fd3, fd4⟩ := HK.out w3 hh
      exact .run ((wanted_some rfl rfl q80).trans rfl) (.agg #[.int .i64 qc, .int .i64 qh, .int .i64 qt, .int .i64 qk, .int .i64 qi]) w3 (by simp [execOp, go_sem, Act.eval, *]) (Below.refl _ _) rfl
    · simp only [List.getElem?_toArray, List.getElem?_cons_succ, List.getElem?_cons_zero, Option.some.injEq] at ho
      subst ho
      refine ⟨rfl, ?_⟩
      have q80 : A_.tmps[80]? = some (.bool true) := hI.val_ (i := 12) rfl rfl (by decide) (hdep ⟨12, .guard⟩ (by simp) rfl)
      have e83 : A_.tmps[83]?.getD undef = .agg #[.int .i64 qc, .int .i64 qh, .int .i64 qt, .int .i64 qk, .int .i64 qi] := getD_of (hI.val_ (i := 15) rfl rfl (by decide) (hdep ⟨15, .data⟩ (by simp) rfl))
      clear hI hdep
      exact .call ((wanted_some rfl rfl q80).trans rfl) 16 #[.agg #[.int .i64 qc, .int .i64 qh, .int .i64 qt, .int .i64 qk, .int .i64 qi]] (by simp [go_sem, Act.eval, e83]) ((H6.out w3 (HB.out.trans (hh.mono HB.out.size))).mono fun _ _ ⟨h1_, h2_⟩ => ⟨⟨_, h1_, rfl⟩, h2_⟩)
    · simp only [List.getElem?_toArray, List.getElem?_cons_succ, List.getElem?_cons_zero, Option.some.injEq] at ho
      subst ho
      refine ⟨rfl, ?_⟩
      have q80 : A_.tmps[80]? = some (.bool true) := hI.val_ (i := 12) rfl rfl (by decide) (hdep ⟨12, .guard⟩ (by simp) rfl)
      have e82 : A_.tmps[82]?.getD undef = .string s3 := getD_of (hI.val_ (i := 14) rfl rfl (by decide) (hdep ⟨14, .data⟩ (by simp) rfl))
      have e84 : A_.tmps[84]?.getD undef = .string s3 := getD_of (hI.val_ (i := 16) rfl rfl (by decide) (hdep ⟨16, .data⟩ (by simp) rfl))
      clear hI hdep
      exact .run ((wanted_some rfl rfl q80).trans rfl) (.bool true) w3 (by simp [execOp, go_sem, Act.eval, *]) (Below.refl _ _) rfl
    · simp only [List.getElem?_toArray, List.getElem?_cons_succ, List.getElem?_cons_zero, Option.some.injEq] at ho
      subst ho
      refine ⟨rfl, ?_⟩
      have e80 : A_.tmps[80]?.getD undef = .bool true := getD_of (hI.val_ (i := 12) rfl rfl (by decide) (hdep ⟨12, .data⟩ (by simp) rfl))
      have e85 : A_.tmps[85]?.getD undef = .bool true := getD_of (hI.val_ (i := 17) rfl rfl (by decide) (hdep ⟨17, .data⟩ (by simp) rfl))
      clear hI hdep
      exact .run rfl (.bool true) w3 (by simp [execOp, go_sem, Act.eval, e80, e85]) (Below.refl _ _) rfl
    · simp only [List.getElem?_toArray, List.getElem?_cons_succ, List.getElem?_cons_zero, Option.some.injEq] at ho
      subst ho
      refine ⟨rfl, ?_⟩
      have e86 : A_.tmps[86]?.getD undef = .bool true := getD_of (hI.val_ (i := 18) rfl rfl (by decide) (hdep ⟨18, .data⟩ (by simp) rfl))
      clear hI hdep
      exact .run rfl (.bool true) w3 (by simp [execOp, go_sem, Act.eval, e86]) (Below.refl _ _) rfl
    · simp only [List.getElem?_toArray, List.getElem?_cons_succ, List.getElem?_cons_zero, Option.some.injEq] at ho
      subst ho
      refine ⟨rfl, ?_⟩
      have q87 : A_.tmps[87]? = some (.bool true) := hI.val_ (i := 19) rfl rfl (by decide) (hdep ⟨19, .guard⟩ (by simp) rfl)
      have e14 : A_.tmps[14]?.getD undef = .pointer (some ⟨v2.heap.size, 0, none⟩) := by rw [hI.low 14 (by decide)]; rfl
      clear hI hdep
      obtain ⟨⟨fa0, fa1, fa2, fa3, fa4, fa5, fa6, fa7⟩, ⟨fb0, fb1, fb2, fb3, fb4⟩, ⟨fc0, fc1, fc2, fc3, fc4, fc5, fc6, fc7⟩, fd0, fd1, fd2, fd3, fd4⟩ := HK.out w3 hh
      exact .run ((wanted_some rfl rfl q87).trans rfl) (.agg #[.int .i64 yc, .int .i64 yh, .int .i64 v, .int .i64 yk, .int .i64 yi]) w3 (by simp [execOp, go_sem, Act.eval, *]) (Below.refl _ _) rfl
    · simp only [List.getElem?_toArray, List.getElem?_cons_succ, List.getElem?_cons_zero, Option.some.injEq] at ho
      subst ho
      refine ⟨rfl, ?_⟩
      have q87 : A_.tmps[87]? = some (.bool true) := hI.val_ (i := 19) rfl rfl (by decide) (hdep ⟨19, .guard⟩ (by simp) rfl)
      have e88 : A_.tmps[88]?.getD undef = .agg #[.int .i64 yc, .int .i64 yh, .int .i64 v, .int .i64 yk, .int .i64 yi] := getD_of (hI.val_ (i := 20) rfl rfl (by decide) (hdep ⟨20, .data⟩ (by simp) rfl))
      clear hI hdep
      exact .call ((wanted_some rfl rfl q87).trans rfl) 15 #[.agg #[.int .i64 yc, .int .i64 yh, .int .i64 v, .int .i64 yk, .int .i64 yi]] (by simp [go_sem, Act.eval, e88]) ((H7.out w3 (HB.out.trans (hh.mono HB.out.size))).mono fun _ _ ⟨h1_, h2_⟩ => ⟨⟨_, h1_, rfl⟩, h2_⟩)
    · simp only [List.getElem?_toArray, List.getElem?_cons_succ, List.getElem?_cons_zero, Option.some.injEq] at ho
      subst ho
      refine ⟨rfl, ?_⟩
      have q87 : A_.tmps[87]? = some (.bool true) := hI.val_ (i := 19) rfl rfl (by decide) (hdep ⟨19, .guard⟩ (by simp) rfl)
      have e14 : A_.tmps[14]?.getD undef = .pointer (some ⟨v2.heap.size, 0, none⟩) := by rw [hI.low 14 (by decide)]; rfl
      clear hI hdep
      obtain ⟨⟨fa0, fa1, fa2, fa3, fa4, fa5, fa6, fa7⟩, ⟨fb0, fb1, fb2, fb3, fb4⟩, ⟨fc0, fc1, fc2, fc3, fc4, fc5, fc6, fc7⟩, fd0, fd1, fd2, fd3, fd4⟩ := HK.out w3 hh
      exact .run ((wanted_some rfl rfl q87).trans rfl) (.agg #[.int .i64 yc, .int .i64 yh, .int .i64 v, .int .i64 yk, .int .i64 yi]) w3 (by simp [execOp, go_sem, Act.eval, *]) (Below.refl _ _) rfl
    · simp only [List.getElem?_toArray, List.getElem?_cons_succ, List.getElem?_cons_zero, Option.some.injEq] at ho
      subst ho
      refine ⟨rfl, ?_⟩
      have q87 : A_.tmps[87]? = some (.bool true) := hI.val_ (i := 19) rfl rfl (by decide) (hdep ⟨19, .guard⟩ (by simp) rfl)
      have e90 : A_.tmps[90]?.getD undef = .agg #[.int .i64 yc, .int .i64 yh, .int .i64 v, .int .i64 yk, .int .i64 yi] := getD_of (hI.val_ (i := 22) rfl rfl (by decide) (hdep ⟨22, .data⟩ (by simp) rfl))
      clear hI hdep
      exact .call ((wanted_some rfl rfl q87).trans rfl) 16 #[.agg #[.int .i64 yc, .int .i64 yh, .int .i64 v, .int .i64 yk, .int .i64 yi]] (by simp [go_sem, Act.eval, e90]) ((H8.out w3 (HB.out.trans (hh.mono HB.out.size))).mono fun _ _ ⟨h1_, h2_⟩ => ⟨⟨_, h1_, rfl⟩, h2_⟩)
    · simp only [List.getElem?_toArray, List.getElem?_cons_succ, List.getElem?_cons_zero, Option.some.injEq] at ho
      subst ho
      refine ⟨rfl, ?_⟩
      have q87 : A_.tmps[87]? = some (.bool true) := hI.val_ (i := 19) rfl rfl (by decide) (hdep ⟨19, .guard⟩ (by simp) rfl)
      have e89 : A_.tmps[89]?.getD undef = .string s4 := getD_of (hI.val_ (i := 21) rfl rfl (by decide) (hdep ⟨21, .data⟩ (by simp) rfl))
      have e91 : A_.tmps[91]?.getD undef = .string s4 := getD_of (hI.val_ (i := 23) rfl rfl (by decide) (hdep ⟨23, .data⟩ (by simp) rfl))
      clear hI hdep
      exact .run ((wanted_some rfl rfl q87).trans rfl) (.bool true) w3 (by simp [execOp, go_sem, Act.eval, *]) (Below.refl _ _) rfl
    · simp only [List.getElem?_toArray, List.getElem?_cons_succ, List.getElem?_cons_zero, Option.some.injEq] at ho
      subst ho
      refine ⟨rfl, ?_⟩
      have e87 : A_.tmps[87]?.getD undef = .bool true := getD_of (hI.val_ (i := 19) rfl rfl (by decide) (hdep ⟨19, .data⟩ (by simp) rfl))
      have e92 : A_.tmps[92]?.getD undef = .bool true := getD_of (hI.val_ (i := 24) rfl rfl (by decide) (hdep ⟨24, .data⟩ (by simp) rfl))
      clear hI hdep
      exact .run rfl (.bool true) w3 (by simp [execOp, go_sem, Act.eval, e87, e92]) (Below.refl _ _) rfl
    · simp only [List.getElem?_toArray, List.getElem?_cons_succ, List.getElem?_cons_zero, Option.some.injEq] at ho
      subst ho
      refine ⟨rfl, ?_⟩
      have e93 : A_.tmps[93]?.getD undef = .bool true := getD_of (hI.val_ (i := 25) rfl rfl (by decide) (hdep ⟨25, .data⟩ (by simp) rfl))
      clear hI hdep
      exact .run rfl (.bool true) w3 (by simp [execOp, go_sem, Act.eval, e93]) (Below.refl _ _) rfl
    · simp only [List.getElem?_toArray, List.getElem?_cons_succ, List.getElem?_cons_zero, Option.some.injEq] at ho
      subst ho
      refine ⟨rfl, ?_⟩
      have q94 : A_.tmps[94]? = some (.bool true) := hI.val_ (i := 26) rfl rfl (by decide) (hdep ⟨26, .guard⟩ (by simp) rfl)
      clear hI hdep
      exact .call ((wanted_some rfl rfl q94).trans rfl) 10 #[] (by simp [go_sem]) ((HL.out w3 (HB.out.trans (hh.mono HB.out.size))).mono fun _ _ ⟨h1_, h2_⟩ => ⟨⟨_, h1_, rfl⟩, h2_⟩)
    · simp only [List.getElem?_toArray, List.getElem?_cons_succ, List.getElem?_cons_zero, Option.some.injEq] at ho
      subst ho
      refine ⟨rfl, ?_⟩
      have e94 : A_.tmps[94]?.getD undef = .bool true := getD_of (hI.val_ (i := 26) rfl rfl (by decide) (hdep ⟨26, .data⟩ (by simp) rfl))
      have e95 : A_.tmps[95]?.getD undef = .bool true := getD_of (hI.val_ (i := 27) rfl rfl (by decide) (hdep ⟨27, .data⟩ (by simp) rfl))
      clear hI hdep
      exact .run rfl (.bool true) w3 (by simp [execOp, go_sem, Act.eval, e94, e95]) (Below.refl _ _) rfl
    · simp only [List.getElem?_toArray, List.getElem?_cons_succ, List.getElem?_cons_zero, Option.some.injEq] at ho
      subst ho
      refine ⟨rfl, ?_⟩
      have e96 : A_.tmps[96]?.getD undef = .bool true := getD_of (hI.val_ (i := 28) rfl rfl (by decide) (hdep ⟨28, .data⟩ (by simp) rfl))
      clear hI hdep
      exact .run rfl (.bool true) w3 (by simp [execOp, go_sem, Act.eval, e96]) (Below.refl _ _) rfl
  case fin =>
  intro A_ w3 hs hd hlow hS hok
  obtain rfl : A_ = ⟨#[.agg #[.int .i64 ek, .int .i64 en, .int .i64 ea, .int .i64 ec, .int .i64 eh, .int .i64 et, .int .i64 ei, .int .i64 ep], .agg #[.int .i64 qc, .int .i64 qh, .int .i64 qt, .int .i64 qk, .int .i64 qi], .int .i64 n, .int .i64 m, .int .i64 at_, .int .i64 v, .pointer (some ⟨w.heap.size, 0, none⟩), .pointer (some ⟨w.heap.size + 1, 0, none⟩), undef, undef, undef, undef, .bool true, .pointer (some ⟨v1.heap.size, 0, none⟩), .pointer (some ⟨v2.heap.size, 0, none⟩), .int .i64 n, .int .i64 m, .agg #[.int .i64 xk, .int .i64 xn, .int .i64 xa, .int .i64 xc, .int .i64 xh, .int .i64 xt, .int .i64 xi, .int .i64 xp], .int .i64 n, .int .i64 m, .agg #[.int .i64 yc, .int .i64 yh, .int .i64 yt, .int .i64 yk, .int .i64 yi], .int .i64 at_, .int .i64 3, undef, undef, undef, .bool false, .bool false, undef, undef, undef, undef, .bool false, .bool false, undef, undef, undef, undef, undef, .bool false, .bool false, undef, undef, undef, undef, undef, .bool true, .bool true, .int .i64 v, .pointer (some ⟨v1.heap.size, 3, none⟩), .pointer (some ⟨v1.heap.size, 3, none⟩), .pointer (some ⟨v1.heap.size, 3, none⟩), .int .i64 v, .pointer (some ⟨v2.heap.size, 0, none⟩), .pointer (some ⟨v2.heap.size, 2, none⟩), undef, undef, undef, undef, undef, undef, undef, undef, undef, undef, undef, undef, undef, .agg #[.int .i64 ek, .int .i64 en, .int .i64 ea, .int .i64 ec, .int .i64 eh, .int .i64 et, .int .i64 ei, .int .i64 ep], .string s1, .agg #[.int .i64 ek, .int .i64 en, .int .i64 ea, .int .i64 ec, .int .i64 eh, .int .i64 et, .int .i64 ei, .int .i64 ep], .string s1, .bool true, .bool true, .agg #[.int .i64 xk, .int .i64 xn, .int .i64 xa, .int .i64 v, .int .i64 xh, .int .i64 xt, .int .i64 xi, .int .i64 xp], .string s2, .agg #[.int .i64 xk, .int .i64 xn, .int .i64 xa, .int .i64 v, .int .i64 xh, .int .i64 xt, .int .i64 xi, .int .i64 xp], .string s2, .bool true, .bool true, .bool true, .agg #[.int .i64 qc, .int .i64 qh, .int .i64 qt, .int .i64 qk, .int .i64 qi], .string s3, .agg #[.int .i64 qc, .int .i64 qh, .int .i64 qt, .int .i64 qk, .int .i64 qi], .string s3, .bool true, .bool true, .bool true, .agg #[.int .i64 yc, .int .i64 yh, .int .i64 v, .int .i64 yk, .int .i64 yi], .string s4, .agg #[.int .i64 yc, .int .i64 yh, .int .i64 v, .int .i64 yk, .int .i64 yi], .string s4, .bool true, .bool true, .bool true, .bool true, .bool true], []⟩ := act_ext hd hs (fun j hj => match j, hj with | 0, _ => (hlow 0 (by decide)).trans rfl | 1, _ => (hlow 1 (by decide)).trans rfl | 2, _ => (hlow 2 (by decide)).trans rfl | 3, _ => (hlow 3 (by decide)).trans rfl | 4, _ => (hlow 4 (by decide)).trans rfl | 5, _ => (hlow 5 (by decide)).trans rfl | 6, _ => (hlow 6 (by decide)).trans rfl | 7, _ => (hlow 7 (by decide)).trans rfl | 8, _ => (hlow 8 (by decide)).trans rfl | 9, _ => (hlow 9 (by decide)).trans rfl | 10, _ => (hlow 10 (by decide)).trans rfl | 11, _ => (hlow 11 (by decide)).trans rfl | 12, _ => RgX.val_at (hok 29 12 _ (by decide) rfl rfl) | 13, _ => (hlow 13 (by decide)).trans rfl | 14, _ => (hlow 14 (by decide)).trans rfl | 15, _ => (hlow 15 (by decide)).trans rfl | 16, _ => (hlow 16 (by decide)).trans rfl | 17, _ => (hlow 17 (by decide)).trans rfl | 18, _ => (hlow 18 (by decide)).trans rfl | 19, _ => (hlow 19 (by decide)).trans rfl | 20, _ => (hlow 20 (by decide)).trans rfl | 21, _ => (hlow 21 (by decide)).trans rfl | 22, _ => (hlow 22 (by decide)).trans rfl | 23, _ => (hlow 23 (by decide)).trans rfl | 24, _ => (hlow 24 (by decide)).trans rfl | 25, _ => (hlow 25 (by decide)).trans rfl | 26, _ => (hlow 26 (by decide)).trans rfl | 27, _ => (hlow 27 (by decide)).trans rfl | 28, _ => (hlow 28 (by decide)).trans rfl | 29, _ => (hlow 29 (by decide)).trans rfl | 30, _ => (hlow 30 (by decide)).trans rfl | 31, _ => (hlow 31 (by decide)).trans rfl | 32, _ => (hlow 32 (by decide)).trans rfl | 33, _ => (hlow 33 (by decide)).trans rfl | 34, _ => (hlow 34 (by decide)).trans rfl | 35, _ => (hlow 35 (by decide)).trans rfl | 36, _ => (hlow 36 (by decide)).trans rfl | 37, _ => (hlow 37 (by decide)).trans rfl | 38, _ => (hlow 38 (by decide)).trans rfl | 39, _ => (hlow 39 (by decide)).trans rfl | 40, _ => (hlow 40 (by decide)).trans rfl | 41, _ => (hlow 41 (by decide)).trans rfl | 42, _ => (hlow 42 (by decide)).trans rfl | 43, _ => (hlow 43 (by decide)).trans rfl | 44, _ => (hlow 44 (by decide)).trans rfl | 45, _ => (hlow 45 (by decide)).trans rfl | 46, _ => (hlow 46 (by decide)).trans rfl | 47, _ => (hlow 47 (by decide)).trans rfl | 48, _ => (hlow 48 (by decide)).trans rfl | 49, _ => (hlow 49 (by decide)).trans rfl | 50, _ => (hlow 50 (by decide)).trans rfl | 51, _ => (hlow 51 (by decide)).trans rfl | 52, _ => (hlow 52 (by decide)).trans rfl | 53, _ => (hlow 53 (by decide)).trans rfl | 54, _ => (hlow 54 (by decide)).trans rfl | 55, _ => (hlow 55 (by decide)).trans rfl | 56, _ => (hlow 56 (by decide)).trans rfl | 57, _ => (hlow 57 (by decide)).trans rfl | 58, _ => (hlow 58 (by decide)).trans rfl | 59, _ => (hlow 59 (by decide)).trans rfl | 60, _ => (hlow 60 (by decide)).trans rfl | 61, _ => (hlow 61 (by decide)).trans rfl | 62, _ => (hlow 62 (by decide)).trans rfl | 63, _ => (hlow 63 (by decide)).trans rfl | 64, _ => (hlow 64 (by decide)).trans rfl | 65, _ => (hlow 65 (by decide)).trans rfl | 66, _ => (hlow 66 (by decide)).trans rfl | 67, _ => (hlow 67 (by decide)).trans rfl | 68, _ => RgX.val_at (hok 0 68 _ (by decide) rfl rfl) | 69, _ => RgX.val_at (hok 1 69 _ (by decide) rfl rfl) | 70, _ => RgX.val_at (hok 2 70 _ (by decide) rfl rfl) | 71, _ => RgX.val_at (hok 3 71 _ (by decide) rfl rfl) | 72, _ => RgX.val_at (hok 4 72 _ (by decide) rfl rfl) | 73, _ => RgX.val_at (hok 5 73 _ (by decide) rfl rfl) | 74, _ => RgX.val_at (hok 6 74 _ (by decide) rfl rfl) | 75, _ => RgX.val_at (hok 7 75 _ (by decide) rfl rfl) | 76, _ => RgX.val_at (hok 8 76 _ (by decide) rfl rfl) | 77, _ => RgX.val_at (hok 9 77 _ (by decide) rfl rfl) | 78, _ => RgX.val_at (hok 10 78 _ (by decide) rfl rfl) | 79, _ => RgX.val_at (hok 11 79 _ (by decide) rfl rfl) | 80, _ => RgX.val_at (hok 12 80 _ (by decide) rfl rfl) | 81, _ => RgX.val_at (hok 13 81 _ (by decide) rfl rfl) | 82, _ => RgX.val_at (hok 14 82 _ (by decide) rfl rfl) | 83, _ => RgX.val_at (hok 15 83 _ (by decide) rfl rfl) | 84, _ => RgX.val_at (hok 16 84 _ (by decide) rfl rfl) | 85, _ => RgX.val_at (hok 17 85 _ (by decide) rfl rfl) | 86, _ => RgX.val_at (hok 18 86 _ (by decide) rfl rfl) | 87, _ => RgX.val_at (hok 19 87 _ (by decide) rfl rfl) | 88, _ => RgX.val_at (hok 20 88 _ (by decide) rfl rfl) | 89, _ => RgX.val_at (hok 21 89 _ (by decide) rfl rfl) | 90, _ => RgX.val_at (hok 22 90 _ (by decide) rfl rfl) | 91, _ => RgX.val_at (hok 23 91 _ (by decide) rfl rfl) | 92, _ => RgX.val_at (hok 24 92 _ (by decide) rfl rfl) | 93, _ => RgX.val_at (hok 25 93 _ (by decide) rfl rfl) | 94, _ => RgX.val_at (hok 26 94 _ (by decide) rfl rfl) | 95, _ => RgX.val_at (hok 27 95 _ (by decide) rfl rfl) | 96, _ => RgX.val_at (hok 28 96 _ (by decide) rfl rfl) | n + 97, h => absurd h (by show ¬ n + 97 < 97; omega))
  clear hs hd hlow hok 
  go_wp2_with fail
  go_ret
  exact ⟨rfl, HB.out.trans (hS.mono HB.out.size)⟩
set_option maxHeartbeats 4000000 in
set_option maxRecDepth 100000 in
theorem walk_4 (ek en ea ec eh et ei ep qc qh qt qk qi xk xn xa xc xh xt xi xp yc yh yt yk yi n m at_ v : Int) (s1 s2 s3 s4 : ByteArray) (w : World)
    (HA : Hid (∀ V, Calls Tryz.prog 7 #[.int .i64 at_, .int .i64 7] V fun e w' => e = .returned (.int .i64 4) ∧ V = w'))
    (HG : Hid (∀ V, Calls Tryz.prog 11 #[.int .i64 n, .int .i64 m] V fun e w' => e = .returned (.agg #[.int .i64 xk, .int .i64 xn, .int .i64 xa, .int .i64 xc, .int .i64 xh, .int .i64 xt, .int .i64 xi, .int .i64 xp]) ∧ Below V.heap.size V w'))
    (HH : Hid (∀ V, Calls Tryz.prog 12 #[.int .i64 n, .int .i64 m] V fun e w' => e = .returned (.agg #[.int .i64 yc, .int .i64 yh, .int .i64 yt, .int .i64 yk, .int .i64 yi]) ∧ Below V.heap.size V w'))
    (H1 : Hid (∀ V, Below w.heap.size w V → Calls Tryz.prog 13 #[.agg #[.int .i64 ek, .int .i64 en, .int .i64 ea, .int .i64 ec, .int .i64 eh, .int .i64 et, .int .i64 ei, .int .i64 ep]] V fun e w' => e = .returned (.string s1) ∧ Below V.heap.size V w'))
    (H2 : Hid (∀ V, Below w.heap.size w V → Calls Tryz.prog 14 #[.agg #[.int .i64 ek, .int .i64 en, .int .i64 ea, .int .i64 ec, .int .i64 eh, .int .i64 et, .int .i64 ei, .int .i64 ep]] V fun e w' => e = .returned (.string s1) ∧ Below V.heap.size V w'))
    (H3 : Hid (∀ V, Below w.heap.size w V → Calls Tryz.prog 13 #[.agg #[.int .i64 xk, .int .i64 xn, .int .i64 xa, .int .i64 xc, .int .i64 v, .int .i64 xt, .int .i64 xi, .int .i64 xp]] V fun e w' => e = .returned (.string s2) ∧ Below V.heap.size V w'))
    (H4 : Hid (∀ V, Below w.heap.size w V → Calls Tryz.prog 14 #[.agg #[.int .i64 xk, .int .i64 xn, .int .i64 xa, .int .i64 xc, .int .i64 v, .int .i64 xt, .int .i64 xi, .int .i64 xp]] V fun e w' => e = .returned (.string s2) ∧ Below V.heap.size V w'))
    (H5 : Hid (∀ V, Below w.heap.size w V → Calls Tryz.prog 15 #[.agg #[.int .i64 qc, .int .i64 qh, .int .i64 qt, .int .i64 qk, .int .i64 qi]] V fun e w' => e = .returned (.string s3) ∧ Below V.heap.size V w'))
    (H6 : Hid (∀ V, Below w.heap.size w V → Calls Tryz.prog 16 #[.agg #[.int .i64 qc, .int .i64 qh, .int .i64 qt, .int .i64 qk, .int .i64 qi]] V fun e w' => e = .returned (.string s3) ∧ Below V.heap.size V w'))
    (H7 : Hid (∀ V, Below w.heap.size w V → Calls Tryz.prog 15 #[.agg #[.int .i64 yc, .int .i64 yh, .int .i64 yt, .int .i64 yk, .int .i64 v]] V fun e w' => e = .returned (.string s4) ∧ Below V.heap.size V w'))
    (H8 : Hid (∀ V, Below w.heap.size w V → Calls Tryz.prog 16 #[.agg #[.int .i64 yc, .int .i64 yh, .int .i64 yt, .int .i64 yk, .int .i64 v]] V fun e w' => e = .returned (.string s4) ∧ Below V.heap.size V w'))
    (HL : Hid (∀ V, Below w.heap.size w V → Calls Tryz.prog 10 #[] V fun e w' => e = .returned (.bool true) ∧ Below V.heap.size V w')) :
    Calls Tryz.prog 4 #[.agg #[.int .i64 ek, .int .i64 en, .int .i64 ea, .int .i64 ec, .int .i64 eh, .int .i64 et, .int .i64 ei, .int .i64 ep], .agg #[.int .i64 qc, .int .i64 qh, .int .i64 qt, .int .i64 qk, .int .i64 qi], .int .i64 n, .int .i64 m, .int .i64 at_, .int .i64 v] w fun e w' => e = .returned (.bool true) ∧ Below w.heap.size w w' := by
  obtain ⟨U, hU, hb0, ke, kq, hlt⟩ := two_boxes w (.cells #[.int .i64 ek, .int .i64 en, .int .i64 ea, .int .i64 ec, .int .i64 eh, .int .i64 et, .int .i64 ei, .int .i64 ep] 28) (.cells #[.int .i64 qc, .int .i64 qh, .int .i64 qt, .int .i64 qk, .int .i64 qi] 36)
  have HB0 := Lib.hid (And.intro hb0 (And.intro ke (And.intro kq hlt)))
  have hs0 := hb0.size
  clear hb0 ke kq
  go_enter Tryz.func4, Tryz.ntmps4
  go_wp2_with fail
  clear hU
  refine (HG.out _).mono ?_
  rintro e v1 ⟨rfl, hb1⟩
  have h1z := hb1.size
  have HB1 := Lib.hid hb1
  clear hb1
  go_wp2_with (refine RgX.wpList_store_seg rfl 28 _ _ rfl v1.heap.size 0 (.agg #[.int .i64 xk, .int .i64 xn, .int .i64 xa, .int .i64 xc, .int .i64 xh, .int .i64 xt, .int .i64 xi, .int .i64 xp]) rfl rfl 28 #[.int .i64 0, .int .i64 0, .int .i64 0, .int .i64 0, .int .i64 0, .int .i64 0, .int .i64 0, .int .i64 0] (new_at rfl) (by rw [size_ev]; rfl) (by show 0 + 8 ≤ 8; omega) (by simp [Value.cells, Value.oneCell']) #[.int .i64 xk, .int .i64 xn, .int .i64 xa, .int .i64 xc, .int .i64 xh, .int .i64 xt, .int .i64 xi, .int .i64 xp] rfl ?_; intro u1 kx1 ho1 hz1 hx1)
  have h1u : u1.heap.size = v1.heap.size + 1 := by rw [hz1]; simp
  have hu1 : Below v1.heap.size v1 u1 := (one_box v1 _).trans hx1
  refine (HH.out _).mono ?_
  rintro e v2 ⟨rfl, hb2⟩
  have h2z := hb2.size
  have kx2 : v2.heap[v1.heap.size]? = some (.cells #[.int .i64 xk, .int .i64 xn, .int .i64 xa, .int .i64 xc, .int .i64 xh, .int .i64 xt, .int .i64 xi, .int .i64 xp] 28 (0, 0)) := (hb2.block _ (by omega)).trans kx1
  have HB2 := Lib.hid (show Below U.heap.size U v2 from (HB1.out.trans (hu1.mono h1z)).trans (hb2.mono (by omega)))
  have KX2 := Lib.hid kx2
  clear hb2 hu1 ho1 hz1 hx1 kx1 kx2 HB1
  have hne : v1.heap.size ≠ v2.heap.size := by omega
  go_wp2_with (first | (refine RgX.wpList_store_seg rfl 36 _ _ rfl v2.heap.size 0 (.agg #[.int .i64 yc, .int .i64 yh, .int .i64 yt, .int .i64 yk, .int .i64 yi]) rfl rfl 36 #[.int .i64 0, .int .i64 0, .int .i64 0, .int .i64 0, .int .i64 0] (new_at rfl) (by rw [size_qu]; rfl) (by show 0 + 5 ≤ 5; omega) (by simp [Value.cells, Value.oneCell']) #[.int .i64 yc, .int .i64 yh, .int .i64 yt, .int .i64 yk, .int .i64 yi] rfl ?_; intro u2 ky2 ho2 hz2 hx2; have kx3 : u2.heap[v1.heap.size]? = some (.cells #[.int .i64 xk, .int .i64 xn, .int .i64 xa, .int .i64 xc, .int .i64 xh, .int .i64 xt, .int .i64 xi, .int .i64 xp] 28 (0, 0)) := (ho2 _ hne).trans ((Below.heap_alloc _ _ _ (by omega)).trans KX2.out); have h2u : u2.heap.size = v2.heap.size + 1 := (by rw [hz2]; simp); have HU2 := Lib.hid (show Below U.heap.size U u2 from HB2.out.trans (((one_box v2 _).trans hx2).mono (by omega))); have KX3 := Lib.hid kx3; have KY2 := Lib.hid ky2; clear kx3 ky2 ho2 hz2 hx2) | (go_at_call 7; refine (HA.out _).mono ?_; rintro e w1 ⟨rfl, rfl⟩) | (refine RgX.wpList_store_seg rfl 3 _ _ rfl v1.heap.size 4 (.int .i64 v) rfl rfl 28 _ KX3.out (by rw [size_in]; rfl) (by show 4 + 1 ≤ 8; omega) (by simp [Value.cells, Value.oneCell']) #[.int .i64 xk, .int .i64 xn, .int .i64 xa, .int .i64 xc, .int .i64 v, .int .i64 xt, .int .i64 xi, .int .i64 xp] rfl ?_; intro u3 kx4 ho3 hz3 hx3; have ky3 : u3.heap[v2.heap.size]? = some (.cells #[.int .i64 yc, .int .i64 yh, .int .i64 yt, .int .i64 yk, .int .i64 yi] 36 (0, 0)) := (ho3 _ (fun e => hne e.symm)).trans KY2.out; have h3u : u3.heap.size = u2.heap.size := hz3; have HU3 := Lib.hid (show Below U.heap.size U u3 from HU2.out.trans (hx3.mono (by omega))); have KX4 := Lib.hid kx4; have KY3 := Lib.hid ky3; clear kx4 ky3 ho3 hz3 hx3) | (refine RgX.wpList_store_seg rfl 3 _ _ rfl v2.heap.size 4 (.int .i64 v) rfl rfl 36 _ KY3.out (by rw [size_in]; rfl) (by show 4 + 1 ≤ 5; omega) (by simp [Value.cells, Value.oneCell']) #[.int .i64 yc, .int .i64 yh, .int .i64 yt, .int .i64 yk, .int .i64 v] rfl ?_; intro u4 ky4 ho4 hz4 hx4; have kx5 : u4.heap[v1.heap.size]? = some (.cells #[.int .i64 xk, .int .i64 xn, .int .i64 xa, .int .i64 xc, .int .i64 v, .int .i64 xt, .int .i64 xi, .int .i64 xp] 28 (0, 0)) := (ho4 _ hne).trans KX4.out; have h4u : u4.heap.size = u2.heap.size := hz4.trans h3u; have HU4 := Lib.hid (show Below U.heap.size U u4 from HU3.out.trans (hx4.mono (by omega))); have KXF := Lib.hid kx5; have KYF := Lib.hid ky4; clear kx5 ky4 ho4 hz4 hx4))
  obtain ⟨hb0, ke, kq, hlt⟩ := HB0.out
  have kx := KXF.out
  have ky := KYF.out
  have hbu := HU4.out
  have hzu : u4.heap.size = v2.heap.size + 1 := by omega
  have HB := Lib.hid (show Below w.heap.size w u4 from hb0.trans (hbu.mono hb0.size))
  have HK := Lib.hid (fun (V : World) (hV : Below u4.heap.size u4 V) => And.intro (row8 ((hV.block _ (by omega)).trans ((hbu.block _ (by omega)).trans ke))) (And.intro (row5 ((hV.block _ (by omega)).trans ((hbu.block _ hlt).trans kq))) (And.intro (row8 ((hV.block _ (by omega)).trans kx)) (row5 ((hV.block _ (by omega)).trans ky)))))
  clear hb0 ke kq kx ky hbu HB0 HB2
  refine RgX.region 30 (fun i => (if i = 29 then 12 else 68 + i)) (fun ix_ => match ix_ with | 0 => .v (.agg #[.int .i64 ek, .int .i64 en, .int .i64 ea, .int .i64 ec, .int .i64 eh, .int .i64 et, .int .i64 ei, .int .i64 ep]) | 1 => .v (.string s1) | 2 => .v (.agg #[.int .i64 ek, .int .i64 en, .int .i64 ea, .int .i64 ec, .int .i64 eh, .int .i64 et, .int .i64 ei, .int .i64 ep]) | 3 => .v (.string s1) | 4 => .v (.bool true) | 5 => .v (.bool true) | 6 => .v (.agg #[.int .i64 xk, .int .i64 xn, .int .i64 xa, .int .i64 xc, .int .i64 v, .int .i64 xt, .int .i64 xi, .int .i64 xp]) | 7 => .v (.string s2) | 8 => .v (.agg #[.int .i64 xk, .int .i64 xn, .int .i64 xa, .int .i64 xc, .int .i64 v, .int .i64 xt, .int .i64 xi, .int .i64 xp]) | 9 => .v (.string s2) | 10 => .v (.bool true) | 11 => .v (.bool true) | 12 => .v (.bool true) | 13 => .v (.agg #[.int .i64 qc, .int .i64 qh, .int .i64 qt, .int .i64 qk, .int .i64 qi]) | 14 => .v (.string s3) | 15 => .v (.agg #[.int .i64 qc, .int .i64 qh, .int .i64 qt, .int .i64 qk, .int .i64 qi]) | 16 => .v (.string s3) | 17 => .v (.bool true) | 18 => .v (.bool true) | 19 => .v (.bool true) | 20 => .v (.agg #[.int .i64 yc, .int .i64 yh, .int .i64 yt, .int .i64 yk, .int .i64 v]) | 21 => .v (.string s4) | 22 => .v (.agg #[.int .i64 yc, .int .i64 yh, .int .i64 yt, .int .i64 yk, .int .i64 v]) | 23 => .v (.string s4) | 24 => .v (.bool true) | 25 => .v (.bool true) | 26 => .v (.bool true) | 27 => .v (.bool true) | 28 => .v (.bool true) | 29 => .v (.bool true) | _ => .any) (by kernel_rfl) rfl (by kernel_rfl)  (fun i hi => by show (if i = 29 then 12 else 68 + i) < 97; (repeat' split) <;> omega) (fun i j hi hj => by show (if i = 29 then 12 else 68 + i) = (if j = 29 then 12 else 68 + j) → i = j; (repeat' split) <;> omega) ?step ?fin
  case step =>
    intro L_ A_ w3 ix op_ hI ho hdep
    have hi : ix < 30 := (Array.getElem?_eq_some_iff.1 ho).1
    have hcase : ix = 0 ∨ ix = 1 ∨ ix = 2 ∨ ix = 3 ∨ ix = 4 ∨ ix = 5 ∨ ix = 6 ∨ ix = 7 ∨ ix = 8 ∨ ix = 9 ∨ ix = 10 ∨ ix = 11 ∨ ix = 12 ∨ ix = 13 ∨ ix = 14 ∨ ix = 15 ∨ ix = 16 ∨ ix = 17 ∨ ix = 18 ∨ ix = 19 ∨ ix = 20 ∨ ix = 21 ∨ ix = 22 ∨ ix = 23 ∨ ix = 24 ∨ ix = 25 ∨ ix = 26 ∨ ix = 27 ∨ ix = 28 ∨ ix = 29 := by omega
    have hh := hI.held
    clear hi
    rcases hcase with rfl | rfl | rfl | rfl | rfl | rfl | rfl | rfl | rfl | rfl | rfl | rfl | rfl | rfl | rfl | rfl | rfl | rfl | rfl | rfl | rfl | rfl | rfl | rfl | rfl | rfl | rfl | rfl | rfl | rfl
    · simp only [List.getElem?_toArray, List.getElem?_cons_zero, Option.some.injEq] at ho
      subst ho
      refine ⟨rfl, ?_⟩
      have e6 : A_.tmps[6]?.getD undef = .pointer (some ⟨w.heap.size, 0, none⟩) := by rw [hI.low 6 (by decide)]; rfl
      clear hI hdep
      obtain ⟨⟨fa0, fa1, fa2, fa3, fa4, fa5, fa6, fa7⟩, ⟨fb0, fb1, fb2, fb3, fb4⟩, ⟨fc0, fc1, fc2, fc3, fc4, fc5, fc6, fc7⟩, fd0, fd1, fd2, fd3, fd4⟩ := HK.out w3 hh
      exact .run rfl (.agg #[.int .i64 ek, .int .i64 en, .int .i64 ea, .int .i64 ec, .int .i64 eh, .int .i64 et, .int .i64 ei, .int .i64 ep]) w3 (by simp [execOp, go_sem, Act.eval, *]) (Below.refl _ _) rfl
    · simp only [List.getElem?_toArray, List.getElem?_cons_succ, List.getElem?_cons_zero, Option.some.injEq] at ho
      subst ho
      refine ⟨rfl, ?_⟩
      have e68 : A_.tmps[68]?.getD undef = .agg #[.int .i64 ek, .int .i64 en, .int .i64 ea, .int .i64 ec, .int .i64 eh, .int .i64 et, .int .i64 ei, .int .i64 ep] := getD_of (hI.val_ (i := 0) rfl rfl (by decide) (hdep ⟨0, .data⟩ (by simp) rfl))
      clear hI hdep
      exact .call rfl 13 #[.agg #[.int .i64 ek, .int .i64 en, .int .i64 ea, .int .i64 ec, .int .i64 eh, .int .i64 et, .int .i64 ei, .int .i64 ep]] (by simp [go_sem, Act.eval, e68]) ((H1.out w3 (HB.out.trans (hh.mono HB.out.size))).mono fun _ _ ⟨h1_, h2_⟩ => ⟨⟨_, h1_, rfl⟩, h2_⟩)
    · simp only [List.getElem?_toArray, List.getElem?_cons_succ, List.getElem?_cons_zero, Option.some.injEq] at ho
      subst ho
      refine ⟨rfl, ?_⟩
      have e6 : A_.tmps[6]?.getD undef = .pointer (some ⟨w.heap.size, 0, none⟩) := by rw [hI.low 6 (by decide)]; rfl
      clear hI hdep
      obtain ⟨⟨fa0, fa1, fa2, fa3, fa4, fa5, fa6, fa7⟩, ⟨fb0, fb1, fb2, fb3, fb4⟩, ⟨fc0, fc1, fc2, fc3, fc4, fc5, fc6, fc7⟩, fd0, fd1, fd2, fd3, fd4⟩ := HK.out w3 hh
      exact .run rfl (.agg #[.int .i64 ek, .int .i64 en, .int .i64 ea, .int .i64 ec, .int .i64 eh, .int .i64 et, .int .i64 ei, .int .i64 ep]) w3 (by simp [execOp, go_sem, Act.eval, *]) (Below.refl _ _) rfl
    · simp only [List.getElem?_toArray, List.getElem?_cons_succ, List.getElem?_cons_zero, Option.some.injEq] at ho
      subst ho
      refine ⟨rfl, ?_⟩
      have e70 : A_.tmps[70]?.getD undef = .agg #[.int .i64 ek, .int .i64 en, .int .i64 ea, .int .i64 ec, .int .i64 eh, .int .i64 et, .int .i64 ei, .int .i64 ep] := getD_of (hI.val_ (i := 2) rfl rfl (by decide) (hdep ⟨2, .data⟩ (by simp) rfl))
      clear hI hdep
      exact .call rfl 14 #[.agg #[.int .i64 ek, .int .i64 en, .int .i64 ea, .int .i64 ec, .int .i64 eh, .int .i64 et, .int .i64 ei, .int .i64 ep]] (by simp [go_sem, Act.eval, e70]) ((H2.out w3 (HB.out.trans (hh.mono HB.out.size))).mono fun _ _ ⟨h1_, h2_⟩ => ⟨⟨_, h1_, rfl⟩, h2_⟩)
    · simp only [List.getElem?_toArray, List.getElem?_cons_succ, List.getElem?_cons_zero, Option.some.injEq] at ho
      subst ho
      refine ⟨rfl, ?_⟩
      have e69 : A_.tmps[69]?.getD undef = .string s1 := getD_of (hI.val_ (i := 1) rfl rfl (by decide) (hdep ⟨1, .data⟩ (by simp) rfl))
      have e71 : A_.tmps[71]?.getD undef = .string s1 := getD_of (hI.val_ (i := 3) rfl rfl (by decide) (hdep ⟨3, .data⟩ (by simp) rfl))
      clear hI hdep
      exact .run rfl (.bool true) w3 (by simp [execOp, go_sem, Act.eval, *]) (Below.refl _ _) rfl
    · simp only [List.getElem?_toArray, List.getElem?_cons_succ, List.getElem?_cons_zero, Option.some.injEq] at ho
      subst ho
      refine ⟨rfl, ?_⟩
      have e72 : A_.tmps[72]?.getD undef = .bool true := getD_of (hI.val_ (i := 4) rfl rfl (by decide) (hdep ⟨4, .data⟩ (by simp) rfl))
      clear hI hdep
      exact .run rfl (.bool true) w3 (by simp [execOp, go_sem, Act.eval, e72]) (Below.refl _ _) rfl
    · simp only [List.getElem?_toArray, List.getElem?_cons_succ, List.getElem?_cons_zero, Option.some.injEq] at ho
      subst ho
      refine ⟨rfl, ?_⟩
      have q73 : A_.tmps[73]? = some (.bool true) := hI.val_ (i := 5) rfl rfl (by decide) (hdep ⟨5, .guard⟩ (by simp) rfl)
      have e13 : A_.tmps[13]?.getD undef = .pointer (some ⟨v1.heap.size, 0, none⟩) := by rw [hI.low 13 (by decide)]; rfl
      clear hI hdep
      obtain ⟨⟨fa0, fa1, fa2, fa3, fa4, fa5, fa6, fa7⟩, ⟨fb0, fb1, fb2, fb3, fb4⟩, ⟨fc0, fc1, fc2, fc3, fc4, fc5, fc6, fc7⟩, fd0, fd1, fd2, fd3, fd4⟩ := HK.out w3 hh
      exact .run ((wanted_some rfl rfl q73).trans rfl) (.agg #[.int .i64 xk, .int .i64 xn, .int .i64 xa, .int .i64 xc, .int .i64 v, .int .i64 xt, .int .i64 xi, .int .i64 xp]) w3 (by simp [execOp, go_sem, Act.eval, *]) (Below.refl _ _) rfl
    · simp only [List.getElem?_toArray, List.getElem?_cons_succ, List.getElem?_cons_zero, Option.some.injEq] at ho
      subst ho
      refine ⟨rfl, ?_⟩
      have q73 : A_.tmps[73]? = some (.bool true) := hI.val_ (i := 5) rfl rfl (by decide) (hdep ⟨5, .guard⟩ (by simp) rfl)
      have e74 : A_.tmps[74]?.getD undef = .agg #[.int .i64 xk, .int .i64 xn, .int .i64 xa, .int .i64 xc, .int .i64 v, .int .i64 xt, .int .i64 xi, .int .i64 xp] := getD_of (hI.val_ (i := 6) rfl rfl (by decide) (hdep ⟨6, .data⟩ (by simp) rfl))
      clear hI hdep
      exact .call ((wanted_some rfl rfl q73).trans rfl) 13 #[.agg #[.int .i64 xk, .int .i64 xn, .int .i64 xa, .int .i64 xc, .int .i64 v, .int .i64 xt, .int .i64 xi, .int .i64 xp]] (by simp [go_sem, Act.eval, e74]) ((H3.out w3 (HB.out.trans (hh.mono HB.out.size))).mono fun _ _ ⟨h1_, h2_⟩ => ⟨⟨_, h1_, rfl⟩, h2_⟩)
    · simp only [List.getElem?_toArray, List.getElem?_cons_succ, List.getElem?_cons_zero, Option.some.injEq] at ho
      subst ho
      refine ⟨rfl, ?_⟩
      have q73 : A_.tmps[73]? = some (.bool true) := hI.val_ (i := 5) rfl rfl (by decide) (hdep ⟨5, .guard⟩ (by simp) rfl)
      have e13 : A_.tmps[13]?.getD undef = .pointer (some ⟨v1.heap.size, 0, none⟩) := by rw [hI.low 13 (by decide)]; rfl
      clear hI hdep
      obtain ⟨⟨fa0, fa1, fa2, fa3, fa4, fa5, fa6, fa7⟩, ⟨fb0, fb1, fb2, fb3, fb4⟩, ⟨fc0, fc1, fc2, fc3, fc4, fc5, fc6, fc7⟩, fd0, fd1, fd2, fd3, fd4⟩ := HK.out w3 hh
      exact .run ((wanted_some rfl rfl q73).trans rfl) (.agg #[.int .i64 xk, .int .i64 xn, .int .i64 xa, .int .i64 xc, .int .i64 v, .int .i64 xt, .int .i64 xi, .int .i64 xp]) w3 (by simp [execOp, go_sem, Act.eval, *]) (Below.refl _ _) rfl
    · simp only [List.getElem?_toArray, List.getElem?_cons_succ, List.getElem?_cons_zero, Option.some.injEq] at ho
      subst ho
      refine ⟨rfl, ?_⟩
      have q73 : A_.tmps[73]? = some (.bool true) := hI.val_ (i := 5) rfl rfl (by decide) (hdep ⟨5, .guard⟩ (by simp) rfl)
      have e76 : A_.tmps[76]?.getD undef = .agg #[.int .i64 xk, .int .i64 xn, .int .i64 xa, .int .i64 xc, .int .i64 v, .int .i64 xt, .int .i64 xi, .int .i64 xp] := getD_of (hI.val_ (i := 8) rfl rfl (by decide) (hdep ⟨8, .data⟩ (by simp) rfl))
      clear hI hdep
      exact .call ((wanted_some rfl rfl q73).trans rfl) 14 #[.agg #[.int .i64 xk, .int .i64 xn, .int .i64 xa, .int .i64 xc, .int .i64 v, .int .i64 xt, .int .i64 xi, .int .i64 xp]] (by simp [go_sem, Act.eval, e76]) ((H4.out w3 (HB.out.trans (hh.mono HB.out.size))).mono fun _ _ ⟨h1_, h2_⟩ => ⟨⟨_, h1_, rfl⟩, h2_⟩)
    · simp only [List.getElem?_toArray, List.getElem?_cons_succ, List.getElem?_cons_zero, Option.some.injEq] at ho
      subst ho
      refine ⟨rfl, ?_⟩
      have q73 : A_.tmps[73]? = some (.bool true) := hI.val_ (i := 5) rfl rfl (by decide) (hdep ⟨5, .guard⟩ (by simp) rfl)
      have e75 : A_.tmps[75]?.getD undef = .string s2 := getD_of (hI.val_ (i := 7) rfl rfl (by decide) (hdep ⟨7, .data⟩ (by simp) rfl))
      have e77 : A_.tmps[77]?.getD undef = .string s2 := getD_of (hI.val_ (i := 9) rfl rfl (by decide) (hdep ⟨9, .data⟩ (by simp) rfl))
      clear hI hdep
      exact .run ((wanted_some rfl rfl q73).trans rfl) (.bool true) w3 (by simp [execOp, go_sem, Act.eval, *]) (Below.refl _ _) rfl
    · simp only [List.getElem?_toArray, List.getElem?_cons_succ, List.getElem?_cons_zero, Option.some.injEq] at ho
      subst ho
      refine ⟨rfl, ?_⟩
      have e73 : A_.tmps[73]?.getD undef = .bool true := getD_of (hI.val_ (i := 5) rfl rfl (by decide) (hdep ⟨5, .data⟩ (by simp) rfl))
      have e78 : A_.tmps[78]?.getD undef = .bool true := getD_of (hI.val_ (i := 10) rfl rfl (by decide) (hdep ⟨10, .data⟩ (by simp) rfl))
      clear hI hdep
      exact .run rfl (.bool true) w3 (by simp [execOp, go_sem, Act.eval, e73, e78]) (Below.refl _ _) rfl
    · simp only [List.getElem?_toArray, List.getElem?_cons_succ, List.getElem?_cons_zero, Option.some.injEq] at ho
      subst ho
      refine ⟨rfl, ?_⟩
      have e79 : A_.tmps[79]?.getD undef = .bool true := getD_of (hI.val_ (i := 11) rfl rfl (by decide) (hdep ⟨11, .data⟩ (by simp) rfl))
      clear hI hdep
      exact .run rfl (.bool true) w3 (by simp [execOp, go_sem, Act.eval, e79]) (Below.refl _ _) rfl
    · simp only [List.getElem?_toArray, List.getElem?_cons_succ, List.getElem?_cons_zero, Option.some.injEq] at ho
      subst ho
      refine ⟨rfl, ?_⟩
      have q80 : A_.tmps[80]? = some (.bool true) := hI.val_ (i := 12) rfl rfl (by decide) (hdep ⟨12, .guard⟩ (by simp) rfl)
      have e7 : A_.tmps[7]?.getD undef = .pointer (some ⟨w.heap.size + 1, 0, none⟩) := by rw [hI.low 7 (by decide)]; rfl
      clear hI hdep
      obtain ⟨⟨fa0, fa1, fa2, fa3, fa4, fa5, fa6, fa7⟩, ⟨fb0, fb1, fb2, fb3, fb4⟩, ⟨fc0, fc1, fc2, fc3, fc4, fc5, fc6, fc7⟩, fd0, fd1, fd2, fd3, fd4⟩ := HK.out w3 hh
      exact .run ((wanted_some rfl rfl q80).trans rfl) (.agg #[.int .i64 qc, .int .i64 qh, .int .i64 qt, .int .i64 qk, .int .i64 qi]) w3 (by simp [execOp, go_sem, Act.eval, *]) (Below.refl _ _) rfl
    · simp only [List.getElem?_toArray, List.getElem?_cons_succ, List.getElem?_cons_zero, Option.some.injEq] at ho
      subst ho
      refine ⟨rfl, ?_⟩
      have q80 : A_.tmps[80]? = some (.bool true) := hI.val_ (i := 12) rfl rfl (by decide) (hdep ⟨12, .guard⟩ (by simp) rfl)
      have e81 : A_.tmps[81]?.getD undef = .agg #[.int .i64 qc, .int .i64 qh, .int .i64 qt, .int .i64 qk, .int .i64 qi] := getD_of (hI.val_ (i := 13) rfl rfl (by decide) (hdep ⟨13, .data⟩ (by simp) rfl))
      clear hI hdep
      exact .call ((wanted_some rfl rfl q80).trans rfl) 15 #[.agg #[.int .i64 qc, .int .i64 qh, .int .i64 qt, .int .i64 qk, .int .i64 qi]] (by simp [go_sem, Act.eval, e81]) ((H5.out w3 (HB.out.trans (hh.mono HB.out.size))).mono fun _ _ ⟨h1_, h2_⟩ => ⟨⟨_, h1_, rfl⟩, h2_⟩)
    · simp only [List.getElem?_toArray, List.getElem?_cons_succ, List.getElem?_cons_zero, Option.some.injEq] at ho
      subst ho
      refine ⟨rfl, ?_⟩
      have q80 : A_.tmps[80]? = some (.bool true) := hI.val_ (i := 12) rfl rfl (by decide) (hdep ⟨12, .guard⟩ (by simp) rfl)
      have e7 : A_.tmps[7]?.getD undef = .pointer (some ⟨w.heap.size + 1, 0, none⟩) := by rw [hI.low 7 (by decide)]; rfl
      clear hI hdep
      obtain ⟨⟨fa0, fa1, fa2, fa3, fa4, fa5, fa6, fa7⟩, ⟨fb0, fb1, fb2, fb3, fb4⟩, ⟨fc0, fc1, fc2, fc3, fc4, fc5, fc6, fc7⟩, fd0, fd1, fd2, fd3, fd4⟩ := HK.out w3 hh
      exact .run ((wanted_some rfl rfl q80).trans rfl) (.agg #[.int .i64 qc, .int .i64 qh, .int .i64 qt, .int .i64 qk, .int .i64 qi]) w3 (by simp [execOp, go_sem, Act.eval, *]) (Below.refl _ _) rfl
    · simp only [List.getElem?_toArray, List.getElem?_cons_succ, List.getElem?_cons_zero, Option.some.injEq] at ho
      subst ho
      refine ⟨rfl, ?_⟩
      have q80 : A_.tmps[80]? = some (.bool true) := hI.val_ (i := 12) rfl rfl (by decide) (hdep ⟨12, .guard⟩ (by simp) rfl)
      have e83 : A_.tmps[83]?.getD undef = .agg #[.int .i64 qc, .int .i64 qh, .int .i64 qt, .int .i64 qk, .int .i64 qi] := getD_of (hI.val_ (i := 15) rfl rfl (by decide) (hdep ⟨15, .data⟩ (by simp) rfl))
      clear hI hdep
      exact .call ((wanted_some rfl rfl q80).trans rfl) 16 #[.agg #[.int .i64 qc, .int .i64 qh, .int .i64 qt, .int .i64 qk, .int .i64 qi]] (by simp [go_sem, Act.eval, e83]) ((H6.out w3 (HB.out.trans (hh.mono HB.out.size))).mono fun _ _ ⟨h1_, h2_⟩ => ⟨⟨_, h1_, rfl⟩, h2_⟩)
    · simp only [List.getElem?_toArray, List.getElem?_cons_succ, List.getElem?_cons_zero, Option.some.injEq] at ho
      subst ho
      refine ⟨rfl, ?_⟩
      have q80 : A_.tmps[80]? = some (.bool true) := hI.val_ (i := 12) rfl rfl (by decide) (hdep ⟨12, .guard⟩ (by simp) rfl)
      have e82 : A_.tmps[82]?.getD undef = .string s3 := getD_of (hI.val_ (i := 14) rfl rfl (by decide) (hdep ⟨14, .data⟩ (by simp) rfl))
      have e84 : A_.tmps[84]?.getD undef = .string s3 := getD_of (hI.val_ (i := 16) rfl rfl (by decide) (hdep ⟨16, .data⟩ (by simp) rfl))
      clear hI hdep
      exact .run ((wanted_some rfl rfl q80).trans rfl) (.bool true) w3 (by simp [execOp, go_sem, Act.eval, *]) (Below.refl _ _) rfl
    · simp only [List.getElem?_toArray, List.getElem?_cons_succ, List.getElem?_cons_zero, Option.some.injEq] at ho
      subst ho
      refine ⟨rfl, ?_⟩
      have e80 : A_.tmps[80]?.getD undef = .bool true := getD_of (hI.val_ (i := 12) rfl rfl (by decide) (hdep ⟨12, .data⟩ (by simp) rfl))
      have e85 : A_.tmps[85]?.getD undef = .bool true := getD_of (hI.val_ (i := 17) rfl rfl (by decide) (hdep ⟨17, .data⟩ (by simp) rfl))
      clear hI hdep
      exact .run rfl (.bool true) w3 (by simp [execOp, go_sem, Act.eval, e80, e85]) (Below.refl _ _) rfl
    · simp only [List.getElem?_toArray, List.getElem?_cons_succ, List.getElem?_cons_zero, Option.some.injEq] at ho
      subst ho
      refine ⟨rfl, ?_⟩
      have e86 : A_.tmps[86]?.getD undef = .bool true := getD_of (hI.val_ (i := 18) rfl rfl (by decide) (hdep ⟨18, .data⟩ (by simp) rfl))
      clear hI hdep
      exact .run rfl (.bool true) w3 (by simp [execOp, go_sem, Act.eval, e86]) (Below.refl _ _) rfl
    · simp only [List.getElem?_toArray, List.getElem?_cons_succ, List.getElem?_cons_zero, Option.some.injEq] at ho
      subst ho
      refine ⟨rfl, ?_⟩
      have q87 : A_.tmps[87]? = some (.bool true) := hI.val_ (i := 19) rfl rfl (by decide) (hdep ⟨19, .guard⟩ (by simp) rfl)
      have e14 : A_.tmps[14]?.getD undef = .pointer (some ⟨v2.heap.size, 0, none⟩) := by rw [hI.low 14 (by decide)]; rfl
      clear hI hdep
      obtain ⟨⟨fa0, fa1, fa2, fa3, fa4, fa5, fa6, fa7⟩, ⟨fb0, fb1, fb2, fb3, fb4⟩, ⟨fc0, fc1, fc2, fc3, fc4, fc5, fc6, fc7⟩, fd0, fd1, fd2, fd3, fd4⟩ := HK.out w3 hh
      exact .run ((wanted_some rfl rfl q87).trans rfl) (.agg #[.int .i64 yc, .int .i64 yh, .int .i64 yt, .int .i64 yk, .int .i64 v]) w3 (by simp [execOp, go_sem, Act.eval, *]) (Below.refl _ _) rfl
    · simp only [List.getElem?_toArray, List.getElem?_cons_succ, List.getElem?_cons_zero, Option.some.injEq] at ho
      subst ho
      refine ⟨rfl, ?_⟩
      have q87 : A_.tmps[87]? = some (.bool true) := hI.val_ (i := 19) rfl rfl (by decide) (hdep ⟨19, .guard⟩ (by simp) rfl)
      have e88 : A_.tmps[88]?.getD undef = .agg #[.int .i64 yc, .int .i64 yh, .int .i64 yt, .int .i64 yk, .int .i64 v] := getD_of (hI.val_ (i := 20) rfl rfl (by decide) (hdep ⟨20, .data⟩ (by simp) rfl))
      clear hI hdep
      exact .call ((wanted_some rfl rfl q87).trans rfl) 15 #[.agg #[.int .i64 yc, .int .i64 yh, .int .i64 yt, .int .i64 yk, .int .i64 v]] (by simp [go_sem, Act.eval, e88]) ((H7.out w3 (HB.out.trans (hh.mono HB.out.size))).mono fun _ _ ⟨h1_, h2_⟩ => ⟨⟨_, h1_, rfl⟩, h2_⟩)
    · simp only [List.getElem?_toArray, List.getElem?_cons_succ, List.getElem?_cons_zero, Option.some.injEq] at ho
      subst ho
      refine ⟨rfl, ?_⟩
      have q87 : A_.tmps[87]? = some (.bool true) := hI.val_ (i := 19) rfl rfl (by decide) (hdep ⟨19, .guard⟩ (by simp) rfl)
      have e14 : A_.tmps[14]?.getD undef = .pointer (some ⟨v2.heap.size, 0, none⟩) := by rw [hI.low 14 (by decide)]; rfl
      clear hI hdep
      obtain ⟨⟨fa0, fa1, fa2, fa3, fa4, fa5, fa6, fa7⟩, ⟨fb0, fb1, fb2, fb3, fb4⟩, ⟨fc0, fc1, fc2, fc3, fc4, fc5, fc6, fc7⟩, fd0, fd1, fd2, fd3, fd4⟩ := HK.out w3 hh
      exact .run ((wanted_some rfl rfl q87).trans rfl) (.agg #[.int .i64 yc, .int .i64 yh, .int .i64 yt, .int .i64 yk, .int .i64 v]) w3 (by simp [execOp, go_sem, Act.eval, *]) (Below.refl _ _) rfl
    · simp only [List.getElem?_toArray, List.getElem?_cons_succ, List.getElem?_cons_zero, Option.some.injEq] at ho
      subst ho
      refine ⟨rfl, ?_⟩
      have q87 : A_.tmps[87]? = some (.bool true) := hI.val_ (i := 19) rfl rfl (by decide) (hdep ⟨19, .guard⟩ (by simp) rfl)
      have e90 : A_.tmps[90]?.getD undef = .agg #[.int .i64 yc, .int .i64 yh, .int .i64 yt, .int .i64 yk, .int .i64 v] := getD_of (hI.val_ (i := 22) rfl rfl (by decide) (hdep ⟨22, .data⟩ (by simp) rfl))
      clear hI hdep
      exact .call ((wanted_some rfl rfl q87).trans rfl) 16 #[.agg #[.int .i64 yc, .int .i64 yh, .int .i64 yt, .int .i64 yk, .int .i64 v]] (by simp [go_sem, Act.eval, e90]) ((H8.out w3 (HB.out.trans (hh.mono HB.out.size))).mono fun _ _ ⟨h1_, h2_⟩ => ⟨⟨_, h1_, rfl⟩, h2_⟩)
    · simp only [List.getElem?_toArray, List.getElem?_cons_succ, List.getElem?_cons_zero, Option.some.injEq] at ho
      subst ho
      refine ⟨rfl, ?_⟩
      have q87 : A_.tmps[87]? = some (.bool true) := hI.val_ (i := 19) rfl rfl (by decide) (hdep ⟨19, .guard⟩ (by simp) rfl)
      have e89 : A_.tmps[89]?.getD undef = .string s4 := getD_of (hI.val_ (i := 21) rfl rfl (by decide) (hdep ⟨21, .data⟩ (by simp) rfl))
      have e91 : A_.tmps[91]?.getD undef = .string s4 := getD_of (hI.val_ (i := 23) rfl rfl (by decide) (hdep ⟨23, .data⟩ (by simp) rfl))
      clear hI hdep
      exact .run ((wanted_some rfl rfl q87).trans rfl) (.bool true) w3 (by simp [execOp, go_sem, Act.eval, *]) (Below.refl _ _) rfl
    · simp only [List.getElem?_toArray, List.getElem?_cons_succ, List.getElem?_cons_zero, Option.some.injEq] at ho
      subst ho
      refine ⟨rfl, ?_⟩
      have e87 : A_.tmps[87]?.getD undef = .bool true := getD_of (hI.val_ (i := 19) rfl rfl (by decide) (hdep ⟨19, .data⟩ (by simp) rfl))
      have e92 : A_.tmps[92]?.getD undef = .bool true := getD_of (hI.val_ (i := 24) rfl rfl (by decide) (hdep ⟨24, .data⟩ (by simp) rfl))
      clear hI hdep
      exact .run rfl (.bool true) w3 (by simp [execOp, go_sem, Act.eval, e87, e92]) (Below.refl _ _) rfl
    · simp only [List.getElem?_toArray, List.getElem?_cons_succ, List.getElem?_cons_zero, Option.some.injEq] at ho
      subst ho
      refine ⟨rfl, ?_⟩
      have e93 : A_.tmps[93]?.getD undef = .bool true := getD_of (hI.val_ (i := 25) rfl rfl (by decide) (hdep ⟨25, .data⟩ (by simp) rfl))
      clear hI hdep
      exact .run rfl (.bool true) w3 (by simp [execOp, go_sem, Act.eval, e93]) (Below.refl _ _) rfl
    · simp only [List.getElem?_toArray, List.getElem?_cons_succ, List.getElem?_cons_zero, Option.some.injEq] at ho
      subst ho
      refine ⟨rfl, ?_⟩
      have q94 : A_.tmps[94]? = some (.bool true) := hI.val_ (i := 26) rfl rfl (by decide) (hdep ⟨26, .guard⟩ (by simp) rfl)
      clear hI hdep
      exact .call ((wanted_some rfl rfl q94).trans rfl) 10 #[] (by simp [go_sem]) ((HL.out w3 (HB.out.trans (hh.mono HB.out.size))).mono fun _ _ ⟨h1_, h2_⟩ => ⟨⟨_, h1_, rfl⟩, h2_⟩)
    · simp only [List.getElem?_toArray, List.getElem?_cons_succ, List.getElem?_cons_zero, Option.some.injEq] at ho
      subst ho
      refine ⟨rfl, ?_⟩
      have e94 : A_.tmps[94]?.getD undef = .bool true := getD_of (hI.val_ (i := 26) rfl rfl (by decide) (hdep ⟨26, .data⟩ (by simp) rfl))
      have e95 : A_.tmps[95]?.getD undef = .bool true := getD_of (hI.val_ (i := 27) rfl rfl (by decide) (hdep ⟨27, .data⟩ (by simp) rfl))
      clear hI hdep
      exact .run rfl (.bool true) w3 (by simp [execOp, go_sem, Act.eval, e94, e95]) (Below.refl _ _) rfl
    · simp only [List.getElem?_toArray, List.getElem?_cons_succ, List.getElem?_cons_zero, Option.some.injEq] at ho
      subst ho
      refine ⟨rfl, ?_⟩
      have e96 : A_.tmps[96]?.getD undef = .bool true := getD_of (hI.val_ (i := 28) rfl rfl (by decide) (hdep ⟨28, .data⟩ (by simp) rfl))
      clear hI hdep
      exact .run rfl (.bool true) w3 (by simp [execOp, go_sem, Act.eval, e96]) (Below.refl _ _) rfl
  case fin =>
  intro A_ w3 hs hd hlow hS hok
  obtain rfl : A_ = ⟨#[.agg #[.int .i64 ek, .int .i64 en, .int .i64 ea, .int .i64 ec, .int .i64 eh, .int .i64 et, .int .i64 ei, .int .i64 ep], .agg #[.int .i64 qc, .int .i64 qh, .int .i64 qt, .int .i64 qk, .int .i64 qi], .int .i64 n, .int .i64 m, .int .i64 at_, .int .i64 v, .pointer (some ⟨w.heap.size, 0, none⟩), .pointer (some ⟨w.heap.size + 1, 0, none⟩), undef, undef, undef, undef, .bool true, .pointer (some ⟨v1.heap.size, 0, none⟩), .pointer (some ⟨v2.heap.size, 0, none⟩), .int .i64 n, .int .i64 m, .agg #[.int .i64 xk, .int .i64 xn, .int .i64 xa, .int .i64 xc, .int .i64 xh, .int .i64 xt, .int .i64 xi, .int .i64 xp], .int .i64 n, .int .i64 m, .agg #[.int .i64 yc, .int .i64 yh, .int .i64 yt, .int .i64 yk, .int .i64 yi], .int .i64 at_, .int .i64 4, undef, undef, undef, .bool false, .bool false, undef, undef, undef, undef, .bool false, .bool false, undef, undef, undef, undef, undef, .bool false, .bool false, undef, undef, undef, undef, undef, .bool false, .bool false, undef, undef, undef, undef, undef, undef, undef, .bool true, .bool true, .int .i64 v, .pointer (some ⟨v1.heap.size, 3, none⟩), .pointer (some ⟨v1.heap.size, 3, none⟩), .pointer (some ⟨v1.heap.size, 4, none⟩), .int .i64 v, .pointer (some ⟨v2.heap.size, 4, none⟩), undef, undef, undef, undef, undef, .agg #[.int .i64 ek, .int .i64 en, .int .i64 ea, .int .i64 ec, .int .i64 eh, .int .i64 et, .int .i64 ei, .int .i64 ep], .string s1, .agg #[.int .i64 ek, .int .i64 en, .int .i64 ea, .int .i64 ec, .int .i64 eh, .int .i64 et, .int .i64 ei, .int .i64 ep], .string s1, .bool true, .bool true, .agg #[.int .i64 xk, .int .i64 xn, .int .i64 xa, .int .i64 xc, .int .i64 v, .int .i64 xt, .int .i64 xi, .int .i64 xp], .string s2, .agg #[.int .i64 xk, .int .i64 xn, .int .i64 xa, .int .i64 xc, .int .i64 v, .int .i64 xt, .int .i64 xi, .int .i64 xp], .string s2, .bool true, .bool true, .bool true, .agg #[.int .i64 qc, .int .i64 qh, .int .i64 qt, .int .i64 qk, .int .i64 qi], .string s3, .agg #[.int .i64 qc, .int .i64 qh, .int .i64 qt, .int .i64 qk, .int .i64 qi], .string s3, .bool true, .bool true, .bool true, .agg #[.int .i64 yc, .int .i64 yh, .int .i64 yt, .int .i64 yk, .int .i64 v], .string s4, .agg #[.int .i64 yc, .int .i64 yh, .int .i64 yt, .int .i64 yk, .int .i64 v], .string s4, .bool true, .bool true, .bool true, .bool true, .bool true], []⟩ := act_ext hd hs (fun j hj => match j, hj with | 0, _ => (hlow 0 (by decide)).trans rfl | 1, _ => (hlow 1 (by decide)).trans rfl | 2, _ => (hlow 2 (by decide)).trans rfl | 3, _ => (hlow 3 (by decide)).trans rfl | 4, _ => (hlow 4 (by decide)).trans rfl | 5, _ => (hlow 5 (by decide)).trans rfl | 6, _ => (hlow 6 (by decide)).trans rfl | 7, _ => (hlow 7 (by decide)).trans rfl | 8, _ => (hlow 8 (by decide)).trans rfl | 9, _ => (hlow 9 (by decide)).trans rfl | 10, _ => (hlow 10 (by decide)).trans rfl | 11, _ => (hlow 11 (by decide)).trans rfl | 12, _ => RgX.val_at (hok 29 12 _ (by decide) rfl rfl) | 13, _ => (hlow 13 (by decide)).trans rfl | 14, _ => (hlow 14 (by decide)).trans rfl | 15, _ => (hlow 15 (by decide)).trans rfl | 16, _ => (hlow 16 (by decide)).trans rfl | 17, _ => (hlow 17 (by decide)).trans rfl | 18, _ => (hlow 18 (by decide)).trans rfl | 19, _ => (hlow 19 (by decide)).trans rfl | 20, _ => (hlow 20 (by decide)).trans rfl | 21, _ => (hlow 21 (by decide)).trans rfl | 22, _ => (hlow 22 (by decide)).trans rfl | 23, _ => (hlow 23 (by decide)).trans rfl | 24, _ => (hlow 24 (by decide)).trans rfl | 25, _ => (hlow 25 (by decide)).trans rfl | 26, _ => (hlow 26 (by decide)).trans rfl | 27, _ => (hlow 27 (by decide)).trans rfl | 28, _ => (hlow 28 (by decide)).trans rfl | 29, _ => (hlow 29 (by decide)).trans rfl | 30, _ => (hlow 30 (by decide)).trans rfl | 31, _ => (hlow 31 (by decide)).trans rfl | 32, _ => (hlow 32 (by decide)).trans rfl | 33, _ => (hlow 33 (by decide)).trans rfl | 34, _ => (hlow 34 (by decide)).trans rfl | 35, _ => (hlow 35 (by decide)).trans rfl | 36, _ => (hlow 36 (by decide)).trans rfl | 37, _ => (hlow 37 (by decide)).trans rfl | 38, _ => (hlow 38 (by decide)).trans rfl | 39, _ => (hlow 39 (by decide)).trans rfl | 40, _ => (hlow 40 (by decide)).trans rfl | 41, _ => (hlow 41 (by decide)).trans rfl | 42, _ => (hlow 42 (by decide)).trans rfl | 43, _ => (hlow 43 (by decide)).trans rfl | 44, _ => (hlow 44 (by decide)).trans rfl | 45, _ => (hlow 45 (by decide)).trans rfl | 46, _ => (hlow 46 (by decide)).trans rfl | 47, _ => (hlow 47 (by decide)).trans rfl | 48, _ => (hlow 48 (by decide)).trans rfl | 49, _ => (hlow 49 (by decide)).trans rfl | 50, _ => (hlow 50 (by decide)).trans rfl | 51, _ => (hlow 51 (by decide)).trans rfl | 52, _ => (hlow 52 (by decide)).trans rfl | 53, _ => (hlow 53 (by decide)).trans rfl | 54, _ => (hlow 54 (by decide)).trans rfl | 55, _ => (hlow 55 (by decide)).trans rfl | 56, _ => (hlow 56 (by decide)).trans rfl | 57, _ => (hlow 57 (by decide)).trans rfl | 58, _ => (hlow 58 (by decide)).trans rfl | 59, _ => (hlow 59 (by decide)).trans rfl | 60, _ => (hlow 60 (by decide)).trans rfl | 61, _ => (hlow 61 (by decide)).trans rfl | 62, _ => (hlow 62 (by decide)).trans rfl | 63, _ => (hlow 63 (by decide)).trans rfl | 64, _ => (hlow 64 (by decide)).trans rfl | 65, _ => (hlow 65 (by decide)).trans rfl | 66, _ => (hlow 66 (by decide)).trans rfl | 67, _ => (hlow 67 (by decide)).trans rfl | 68, _ => RgX.val_at (hok 0 68 _ (by decide) rfl rfl) | 69, _ => RgX.val_at (hok 1 69 _ (by decide) rfl rfl) | 70, _ => RgX.val_at (hok 2 70 _ (by decide) rfl rfl) | 71, _ => RgX.val_at (hok 3 71 _ (by decide) rfl rfl) | 72, _ => RgX.val_at (hok 4 72 _ (by decide) rfl rfl) | 73, _ => RgX.val_at (hok 5 73 _ (by decide) rfl rfl) | 74, _ => RgX.val_at (hok 6 74 _ (by decide) rfl rfl) | 75, _ => RgX.val_at (hok 7 75 _ (by decide) rfl rfl) | 76, _ => RgX.val_at (hok 8 76 _ (by decide) rfl rfl) | 77, _ => RgX.val_at (hok 9 77 _ (by decide) rfl rfl) | 78, _ => RgX.val_at (hok 10 78 _ (by decide) rfl rfl) | 79, _ => RgX.val_at (hok 11 79 _ (by decide) rfl rfl) | 80, _ => RgX.val_at (hok 12 80 _ (by decide) rfl rfl) | 81, _ => RgX.val_at (hok 13 81 _ (by decide) rfl rfl) | 82, _ => RgX.val_at (hok 14 82 _ (by decide) rfl rfl) | 83, _ => RgX.val_at (hok 15 83 _ (by decide) rfl rfl) | 84, _ => RgX.val_at (hok 16 84 _ (by decide) rfl rfl) | 85, _ => RgX.val_at (hok 17 85 _ (by decide) rfl rfl) | 86, _ => RgX.val_at (hok 18 86 _ (by decide) rfl rfl) | 87, _ => RgX.val_at (hok 19 87 _ (by decide) rfl rfl) | 88, _ => RgX.val_at (hok 20 88 _ (by decide) rfl rfl) | 89, _ => RgX.val_at (hok 21 89 _ (by decide) rfl rfl) | 90, _ => RgX.val_at (hok 22 90 _ (by decide) rfl rfl) | 91, _ => RgX.val_at (hok 23 91 _ (by decide) rfl rfl) | 92, _ => RgX.val_at (hok 24 92 _ (by decide) rfl rfl) | 93, _ => RgX.val_at (hok 25 93 _ (by decide) rfl rfl) | 94, _ => RgX.val_at (hok 26 94 _ (by decide) rfl rfl) | 95, _ => RgX.val_at (hok 27 95 _ (by decide) rfl rfl) | 96, _ => RgX.val_at (hok 28 96 _ (by decide) rfl rfl) | n + 97, h => absurd h (by show ¬ n + 97 < 97; omega))
  clear hs hd hlow hok 
  go_wp2_with fail
  go_ret
  exact ⟨rfl, HB.out.trans (hS.mono HB.out.size)⟩
set_option maxHeartbeats 4000000 in
set_option maxRecDepth 100000 in
theorem walk_5 (ek en ea ec eh et ei ep qc qh qt qk qi xk xn xa xc xh xt xi xp yc yh yt yk yi n m at_ v : Int) (s1 s2 s3 s4 : ByteArray) (w : World)
    (HA : Hid (∀ V, Calls Tryz.prog 7 #[.int .i64 at_, .int .i64 7] V fun e w' => e = .returned (.int .i64 5) ∧ V = w'))
    (HG : Hid (∀ V, Calls Tryz.prog 11 #[.int .i64 n, .int .i64 m] V fun e w' => e = .returned (.agg #[.int .i64 xk, .int .i64 xn, .int .i64 xa, .int .i64 xc, .int .i64 xh, .int .i64 xt, .int .i64 xi, .int .i64 xp]) ∧ Below V.heap.size V w'))
    (HH : Hid (∀ V, Calls Tryz.prog 12 #[.int .i64 n, .int .i64 m] V fun e w' => e = .returned (.agg #[.int .i64 yc, .int .i64 yh, .int .i64 yt, .int .i64 yk, .int .i64 yi]) ∧ Below V.heap.size V w'))
    (H1 : Hid (∀ V, Below w.heap.size w V → Calls Tryz.prog 13 #[.agg #[.int .i64 ek, .int .i64 en, .int .i64 ea, .int .i64 ec, .int .i64 eh, .int .i64 et, .int .i64 ei, .int .i64 ep]] V fun e w' => e = .returned (.string s1) ∧ Below V.heap.size V w'))
    (H2 : Hid (∀ V, Below w.heap.size w V → Calls Tryz.prog 14 #[.agg #[.int .i64 ek, .int .i64 en, .int .i64 ea, .int .i64 ec, .int .i64 eh, .int .i64 et, .int .i64 ei, .int .i64 ep]] V fun e w' => e = .returned (.string s1) ∧ Below V.heap.size V w'))
    (H3 : Hid (∀ V, Below w.heap.size w V → Calls Tryz.prog 13 #[.agg #[.int .i64 xk, .int .i64 xn, .int .i64 xa, .int .i64 xc, .int .i64 xh, .int .i64 xt, .int .i64 v, .int .i64 xp]] V fun e w' => e = .returned (.string s2) ∧ Below V.heap.size V w'))
    (H4 : Hid (∀ V, Below w.heap.size w V → Calls Tryz.prog 14 #[.agg #[.int .i64 xk, .int .i64 xn, .int .i64 xa, .int .i64 xc, .int .i64 xh, .int .i64 xt, .int .i64 v, .int .i64 xp]] V fun e w' => e = .returned (.string s2) ∧ Below V.heap.size V w'))
    (H5 : Hid (∀ V, Below w.heap.size w V → Calls Tryz.prog 15 #[.agg #[.int .i64 qc, .int .i64 qh, .int .i64 qt, .int .i64 qk, .int .i64 qi]] V fun e w' => e = .returned (.string s3) ∧ Below V.heap.size V w'))
    (H6 : Hid (∀ V, Below w.heap.size w V → Calls Tryz.prog 16 #[.agg #[.int .i64 qc, .int .i64 qh, .int .i64 qt, .int .i64 qk, .int .i64 qi]] V fun e w' => e = .returned (.string s3) ∧ Below V.heap.size V w'))
    (H7 : Hid (∀ V, Below w.heap.size w V → Calls Tryz.prog 15 #[.agg #[.int .i64 yc, .int .i64 yh, .int .i64 yt, .int .i64 yk, .int .i64 yi]] V fun e w' => e = .returned (.string s4) ∧ Below V.heap.size V w'))
    (H8 : Hid (∀ V, Below w.heap.size w V → Calls Tryz.prog 16 #[.agg #[.int .i64 yc, .int .i64 yh, .int .i64 yt, .int .i64 yk, .int .i64 yi]] V fun e w' => e = .returned (.string s4) ∧ Below V.heap.size V w'))
    (HL : Hid (∀ V, Below w.heap.size w V → Calls Tryz.prog 10 #[] V fun e w' => e = .returned (.bool true) ∧ Below V.heap.size V w')) :
    Calls Tryz.prog 4 #[.agg #[.int .i64 ek, .int .i64 en, .int .i64 ea, .int .i64 ec, .int .i64 eh, .int .i64 et, .int .i64 ei, .int .i64 ep], .agg #[.int .i64 qc, .int .i64 qh, .int .i64 qt, .int .i64 qk, .int .i64 qi], .int .i64 n, .int .i64 m, .int .i64 at_, .int .i64 v] w fun e w' => e = .returned (.bool true) ∧ Below w.heap.size w w' := by
  obtain ⟨U, hU, hb0, ke, kq, hlt⟩ := two_boxes w (.cells #[.int .i64 ek, .int .i64 en, .int .i64 ea, .int .i64 ec, .int .i64 eh, .int .i64 et, .int .i64 ei, .int .i64 ep] 28) (.cells #[.int .i64 qc, .int .i64 qh, .int .i64 qt, .int .i64 qk, .int .i64 qi] 36)
  have HB0 := Lib.hid (And.intro hb0 (And.intro ke (And.intro kq hlt)))
  have hs0 := hb0.size
  clear hb0 ke kq
  go_enter Tryz.func4, Tryz.ntmps4
  go_wp2_with fail
  clear hU
  refine (HG.out _).mono ?_
  rintro e v1 ⟨rfl, hb1⟩
  have h1z := hb1.size
  have HB1 := Lib.hid hb1
  clear hb1
  go_wp2_with (refine RgX.wpList_store_seg rfl 28 _ _ rfl v1.heap.size 0 (.agg #[.int .i64 xk, .int .i64 xn, .int .i64 xa, .int .i64 xc, .int .i64 xh, .int .i64 xt, .int .i64 xi, .int .i64 xp]) rfl rfl 28 #[.int .i64 0, .int .i64 0, .int .i64 0, .int .i64 0, .int .i64 0, .int .i64 0, .int .i64 0, .int .i64 0] (new_at rfl) (by rw [size_ev]; rfl) (by show 0 + 8 ≤ 8; omega) (by simp [Value.cells, Value.oneCell']) #[.int .i64 xk, .int .i64 xn, .int .i64 xa, .int .i64 xc, .int .i64 xh, .int .i64 xt, .int .i64 xi, .int .i64 xp] rfl ?_; intro u1 kx1 ho1 hz1 hx1)
  have h1u : u1.heap.size = v1.heap.size + 1 := by rw [hz1]; simp
  have hu1 : Below v1.heap.size v1 u1 := (one_box v1 _).trans hx1
  refine (HH.out _).mono ?_
  rintro e v2 ⟨rfl, hb2⟩
  have h2z := hb2.size
  have kx2 : v2.heap[v1.heap.size]? = some (.cells #[.int .i64 xk, .int .i64 xn, .int .i64 xa, .int .i64 xc, .int .i64 xh, .int .i64 xt, .int .i64 xi, .int .i64 xp] 28 (0, 0)) := (hb2.block _ (by omega)).trans kx1
  have HB2 := Lib.hid (show Below U.heap.size U v2 from (HB1.out.trans (hu1.mono h1z)).trans (hb2.mono (by omega)))
  have KX2 := Lib.hid kx2
  clear hb2 hu1 ho1 hz1 hx1 kx1 kx2 HB1
  have hne : v1.heap.size ≠ v2.heap.size := by omega
  go_wp2_with (first | (refine RgX.wpList_store_seg rfl 36 _ _ rfl v2.heap.size 0 (.agg #[.int .i64 yc, .int .i64 yh, .int .i64 yt, .int .i64 yk, .int .i64 yi]) rfl rfl 36 #[.int .i64 0, .int .i64 0, .int .i64 0, .int .i64 0, .int .i64 0] (new_at rfl) (by rw [size_qu]; rfl) (by show 0 + 5 ≤ 5; omega) (by simp [Value.cells, Value.oneCell']) #[.int .i64 yc, .int .i64 yh, .int .i64 yt, .int .i64 yk, .int .i64 yi] rfl ?_; intro u2 ky2 ho2 hz2 hx2; have kx3 : u2.heap[v1.heap.size]? = some (.cells #[.int .i64 xk, .int .i64 xn, .int .i64 xa, .int .i64 xc, .int .i64 xh, .int .i64 xt, .int .i64 xi, .int .i64 xp] 28 (0, 0)) := (ho2 _ hne).trans ((Below.heap_alloc _ _ _ (by omega)).trans KX2.out); have h2u : u2.heap.size = v2.heap.size + 1 := (by rw [hz2]; simp); have HU2 := Lib.hid (show Below U.heap.size U u2 from HB2.out.trans (((one_box v2 _).trans hx2).mono (by omega))); have KX3 := Lib.hid kx3; have KY2 := Lib.hid ky2; clear kx3 ky2 ho2 hz2 hx2) | (go_at_call 7; refine (HA.out _).mono ?_; rintro e w1 ⟨rfl, rfl⟩) | (refine RgX.wpList_store_seg rfl 3 _ _ rfl v1.heap.size 6 (.int .i64 v) rfl rfl 28 _ KX3.out (by rw [size_in]; rfl) (by show 6 + 1 ≤ 8; omega) (by simp [Value.cells, Value.oneCell']) #[.int .i64 xk, .int .i64 xn, .int .i64 xa, .int .i64 xc, .int .i64 xh, .int .i64 xt, .int .i64 v, .int .i64 xp] rfl ?_; intro u3 kx4 ho3 hz3 hx3; have ky3 : u3.heap[v2.heap.size]? = some (.cells #[.int .i64 yc, .int .i64 yh, .int .i64 yt, .int .i64 yk, .int .i64 yi] 36 (0, 0)) := (ho3 _ (fun e => hne e.symm)).trans KY2.out; have h3u : u3.heap.size = u2.heap.size := hz3; have HU3 := Lib.hid (show Below U.heap.size U u3 from HU2.out.trans (hx3.mono (by omega))); have KX4 := Lib.hid kx4; have KY3 := Lib.hid ky3; clear kx4 ky3 ho3 hz3 hx3))
  obtain ⟨hb0, ke, kq, hlt⟩ := HB0.out
  have kx := KX4.out
  have ky := KY3.out
  have hbu := HU3.out
  have hzu : u3.heap.size = v2.heap.size + 1 := by omega
  have HB := Lib.hid (show Below w.heap.size w u3 from hb0.trans (hbu.mono hb0.size))
  have HK := Lib.hid (fun (V : World) (hV : Below u3.heap.size u3 V) => And.intro (row8 ((hV.block _ (by omega)).trans ((hbu.block _ (by omega)).trans ke))) (And.intro (row5 ((hV.block _ (by omega)).trans ((hbu.block _ hlt).trans kq))) (And.intro (row8 ((hV.block _ (by omega)).trans kx)) (row5 ((hV.block _ (by omega)).trans ky)))))
  clear hb0 ke kq kx ky hbu HB0 HB2
  refine RgX.region 30 (fun i => (if i = 29 then 12 else 68 + i)) (fun ix_ => match ix_ with | 0 => .v (.agg #[.int .i64 ek, .int .i64 en, .int .i64 ea, .int .i64 ec, .int .i64 eh, .int .i64 et, .int .i64 ei, .int .i64 ep]) | 1 => .v (.string s1) | 2 => .v (.agg #[.int .i64 ek, .int .i64 en, .int .i64 ea, .int .i64 ec, .int .i64 eh, .int .i64 et, .int .i64 ei, .int .i64 ep]) | 3 => .v (.string s1) | 4 => .v (.bool true) | 5 => .v (.bool true) | 6 => .v (.agg #[.int .i64 xk, .int .i64 xn, .int .i64 xa, .int .i64 xc, .int .i64 xh, .int .i64 xt, .int .i64 v, .int .i64 xp]) | 7 => .v (.string s2) | 8 => .v (.agg #[.int .i64 xk, .int .i64 xn, .int .i64 xa, .int .i64 xc, .int .i64 xh, .int .i64 xt, .int .i64 v, .int .i64 xp]) | 9 => .v (.string s2) | 10 => .v (.bool true) | 11 => .v (.bool true) | 12 => .v (.bool true) | 13 => .v (.agg #[.int .i64 qc, .int .i64 qh, .int .i64 qt, .int .i64 qk, .int .i64 qi]) | 14 => .v (.string s3) | 15 => .v (.agg #[.int .i64 qc, .int .i64 qh, .int .i64 qt, .int .i64 qk, .int .i64 qi]) | 16 => .v (.string s3) | 17 => .v (.bool true) | 18 => .v (.bool true) | 19 => .v (.bool true) | 20 => .v (.agg #[.int .i64 yc, .int .i64 yh, .int .i64 yt, .int .i64 yk, .int .i64 yi]) | 21 => .v (.string s4) | 22 => .v (.agg #[.int .i64 yc, .int .i64 yh, .int .i64 yt, .int .i64 yk, .int .i64 yi]) | 23 => .v (.string s4) | 24 => .v (.bool true) | 25 => .v (.bool true) | 26 => .v (.bool true) | 27 => .v (.bool true) | 28 => .v (.bool true) | 29 => .v (.bool true) | _ => .any) (by kernel_rfl) rfl (by kernel_rfl)  (fun i hi => by show (if i = 29 then 12 else 68 + i) < 97; (repeat' split) <;> omega) (fun i j hi hj => by show (if i = 29 then 12 else 68 + i) = (if j = 29 then 12 else 68 + j) → i = j; (repeat' split) <;> omega) ?step ?fin
  case step =>
    intro L_ A_ w3 ix op_ hI ho hdep
    have hi : ix < 30 := (Array.getElem?_eq_some_iff.1 ho).1
    have hcase : ix = 0 ∨ ix = 1 ∨ ix = 2 ∨ ix = 3 ∨ ix = 4 ∨ ix = 5 ∨ ix = 6 ∨ ix = 7 ∨ ix = 8 ∨ ix = 9 ∨ ix = 10 ∨ ix = 11 ∨ ix = 12 ∨ ix = 13 ∨ ix = 14 ∨ ix = 15 ∨ ix = 16 ∨ ix = 17 ∨ ix = 18 ∨ ix = 19 ∨ ix = 20 ∨ ix = 21 ∨ ix = 22 ∨ ix = 23 ∨ ix = 24 ∨ ix = 25 ∨ ix = 26 ∨ ix = 27 ∨ ix = 28 ∨ ix = 29 := by omega
    have hh := hI.held
    clear hi
    rcases hcase with rfl | rfl | rfl | rfl | rfl | rfl | rfl | rfl | rfl | rfl | rfl | rfl | rfl | rfl | rfl | rfl | rfl | rfl | rfl | rfl | rfl | rfl | rfl | rfl | rfl | rfl | rfl | rfl | rfl | rfl
    · simp only [List.getElem?_toArray, List.getElem?_cons_zero, Option.some.injEq] at ho
      subst ho
      refine ⟨rfl, ?_⟩
      have e6 : A_.tmps[6]?.getD undef = .pointer (some ⟨w.heap.size, 0, none⟩) := by rw [hI.low 6 (by decide)]; rfl
      clear hI hdep
      obtain ⟨⟨fa0, fa1, fa2, fa3, fa4, fa5, fa6, fa7⟩, ⟨fb0, fb1, fb2, fb3, fb4⟩, ⟨fc0, fc1, fc2, fc3, fc4, fc5, fc6, fc7⟩, fd0, fd1, fd2, fd3, fd4⟩ := HK.out w3 hh
      exact .run rfl (.agg #[.int .i64 ek, .int .i64 en, .int .i64 ea, .int .i64 ec, .int .i64 eh, .int .i64 et, .int .i64 ei, .int .i64 ep]) w3 (by simp [execOp, go_sem, Act.eval, *]) (Below.refl _ _) rfl
    · simp only [List.getElem?_toArray, List.getElem?_cons_succ, List.getElem?_cons_zero, Option.some.injEq] at ho
      subst ho
      refine ⟨rfl, ?_⟩
      have e68 : A_.tmps[68]?.getD undef = .agg #[.int .i64 ek, .int .i64 en, .int .i64 ea, .int .i64 ec, .int .i64 eh, .int .i64 et, .int .i64 ei, .int .i64 ep] := getD_of (hI.val_ (i := 0) rfl rfl (by decide) (hdep ⟨0, .data⟩ (by simp) rfl))
      clear hI hdep
      exact .call rfl 13 #[.agg #[.int .i64 ek, .int .i64 en, .int .i64 ea, .int .i64 ec, .int .i64 eh, .int .i64 et, .int .i64 ei, .int .i64 ep]] (by simp [go_sem, Act.eval, e68]) ((H1.out w3 (HB.out.trans (hh.mono HB.out.size))).mono fun _ _ ⟨h1_, h2_⟩ => ⟨⟨_, h1_, rfl⟩, h2_⟩)
    · simp only [List.getElem?_toArray, List.getElem?_cons_succ, List.getElem?_cons_zero, Option.some.injEq] at ho
      subst ho
      refine ⟨rfl, ?_⟩
      have e6 : A_.tmps[6]?.getD undef = .pointer (some ⟨w.heap.size, 0, none⟩) := by rw [hI.low 6 (by decide)]; rfl
      clear hI hdep
      obtain ⟨⟨fa0, fa1, fa2, fa3, fa4, fa5, fa6, fa7⟩, ⟨fb0, fb1, fb2, fb3, fb4⟩, ⟨fc0, fc1, fc2, fc3, fc4, fc5, fc6, fc7⟩, fd0, fd1, fd2, fd3, fd4⟩ := HK.out w3 hh
      exact .run rfl (.agg #[.int .i64 ek, .int .i64 en, .int .i64 ea, .int .i64 ec, .int .i64 eh, .int .i64 et, .int .i64 ei, .int .i64 ep]) w3 (by simp [execOp, go_sem, Act.eval, *]) (Below.refl _ _) rfl
    · simp only [List.getElem?_toArray, List.getElem?_cons_succ, List.getElem?_cons_zero, Option.some.injEq] at ho
      subst ho
      refine ⟨rfl, ?_⟩
      have e70 : A_.tmps[70]?.getD undef = .agg #[.int .i64 ek, .int .i64 en, .int .i64 ea, .int .i64 ec, .int .i64 eh, .int .i64 et, .int .i64 ei, .int .i64 ep] := getD_of (hI.val_ (i := 2) rfl rfl (by decide) (hdep ⟨2, .data⟩ (by simp) rfl))
      clear hI hdep
      exact .call rfl 14 #[.agg #[.int .i64 ek, .int .i64 en, .int .i64 ea, .int .i64 ec, .int .i64 eh, .int .i64 et, .int .i64 ei, .int .i64 ep]] (by simp [go_sem, Act.eval, e70]) ((H2.out w3 (HB.out.trans (hh.mono HB.out.size))).mono fun _ _ ⟨h1_, h2_⟩ => ⟨⟨_, h1_, rfl⟩, h2_⟩)
    · simp only [List.getElem?_toArray, List.getElem?_cons_succ, List.getElem?_cons_zero, Option.some.injEq] at ho
      subst ho
      refine ⟨rfl, ?_⟩
      have e69 : A_.tmps[69]?.getD undef = .string s1 := getD_of (hI.val_ (i := 1) rfl rfl (by decide) (hdep ⟨1, .data⟩ (by simp) rfl))
      have e71 : A_.tmps[71]?.getD undef = .string s1 := getD_of (hI.val_ (i := 3) rfl rfl (by decide) (hdep ⟨3, .data⟩ (by simp) rfl))
      clear hI hdep
      exact .run rfl (.bool true) w3 (by simp [execOp, go_sem, Act.eval, *]) (Below.refl _ _) rfl
    · simp only [List.getElem?_toArray, List.getElem?_cons_succ, List.getElem?_cons_zero, Option.some.injEq] at ho
      subst ho
      refine ⟨rfl, ?_⟩
      have e72 : A_.tmps[72]?.getD undef = .bool true := getD_of (hI.val_ (i := 4) rfl rfl (by decide) (hdep ⟨4, .data⟩ (by simp) rfl))
      clear hI hdep
      exact .run rfl (.bool true) w3 (by simp [execOp, go_sem, Act.eval, e72]) (Below.refl _ _) rfl
    · simp only [List.getElem?_toArray, List.getElem?_cons_succ, List.getElem?_cons_zero, Option.some.injEq] at ho
      subst ho
      refine ⟨rfl, ?_⟩
      have q73 : A_.tmps[73]? = some (.bool true) := hI.val_ (i := 5) rfl rfl (by decide) (hdep ⟨5, .guard⟩ (by simp) rfl)
      have e13 : A_.tmps[13]?.getD undef = .pointer (some ⟨v1.heap.size, 0, none⟩) := by rw [hI.low 13 (by decide)]; rfl
      clear hI hdep
      obtain ⟨⟨fa0, fa1, fa2, fa3, fa4, fa5, fa6, fa7⟩, ⟨fb0, fb1, fb2, fb3, fb4⟩, ⟨fc0, fc1, fc2, fc3, fc4, fc5, fc6, fc7⟩, fd0, fd1, fd2, fd3, fd4⟩ := HK.out w3 hh
      exact .run ((wanted_some rfl rfl q73).trans rfl) (.agg #[.int .i64 xk, .int .i64 xn, .int .i64 xa, .int .i64 xc, .int .i64 xh, .int .i64 xt, .int .i64 v, .int .i64 xp]) w3 (by simp [execOp, go_sem, Act.eval, *]) (Below.refl _ _) rfl
    · simp only [List.getElem?_toArray, List.getElem?_cons_succ, List.getElem?_cons_zero, Option.some.injEq] at ho
      subst ho
      refine ⟨rfl, ?_⟩
      have q73 : A_.tmps[73]? = some (.bool true) := hI.val_ (i := 5) rfl rfl (by decide) (hdep ⟨5, .guard⟩ (by simp) rfl)
      have e74 : A_.tmps[74]?.getD undef = .agg #[.int .i64 xk, .int .i64 xn, .int .i64 xa, .int .i64 xc, .int .i64 xh, .int .i64 xt, .int .i64 v, .int .i64 xp] := getD_of (hI.val_ (i := 6) rfl rfl (by decide) (hdep ⟨6, .data⟩ (by simp) rfl))
      clear hI hdep
      exact .call ((wanted_some rfl rfl q73).trans rfl) 13 #[.agg #[.int .i64 xk, .int .i64 xn, .int .i64 xa, .int .i64 xc, .int .i64 xh, .int .i64 xt, .int .i64 v, .int .i64 xp]] (by simp [go_sem, Act.eval, e74]) ((H3.out w3 (HB.out.trans (hh.mono HB.out.size))).mono fun _ _ ⟨h1_, h2_⟩ => ⟨⟨_, h1_, rfl⟩, h2_⟩)
    · simp only [List.getElem?_toArray, List.getElem?_cons_succ, List.getElem?_cons_zero, Option.some.injEq] at ho
      subst ho
      refine ⟨rfl, ?_⟩
      have q73 : A_.tmps[73]? = some (.bool true) := hI.val_ (i := 5) rfl rfl (by decide) (hdep ⟨5, .guard⟩ (by simp) rfl)
      have e13 : A_.tmps[13]?.getD undef = .pointer (some ⟨v1.heap.size, 0, none⟩) := by rw [hI.low 13 (by decide)]; rfl
      clear hI hdep
      obtain ⟨⟨fa0, fa1, fa2, fa3, fa4, fa5, fa6, fa7⟩, ⟨fb0, fb1, fb2, fb3, fb4⟩, ⟨fc0, fc1, fc2, fc3, fc4, fc5, fc6, fc7⟩, fd0, fd1, fd2, fd3, fd4⟩ := HK.out w3 hh
      exact .run ((wanted_some rfl rfl q73).trans rfl) (.agg #[.int .i64 xk, .int .i64 xn, .int .i64 xa, .int .i64 xc, .int .i64 xh, .int .i64 xt, .int .i64 v, .int .i64 xp]) w3 (by simp [execOp, go_sem, Act.eval, *]) (Below.refl _ _) rfl
    · simp only [List.getElem?_toArray, List.getElem?_cons_succ, List.getElem?_cons_zero, Option.some.injEq] at ho
      subst ho
      refine ⟨rfl, ?_⟩
      have q73 : A_.tmps[73]? = some (.bool true) := hI.val_ (i := 5) rfl rfl (by decide) (hdep ⟨5, .guard⟩ (by simp) rfl)
      have e76 : A_.tmps[76]?.getD undef = .agg #[.int .i64 xk, .int .i64 xn, .int .i64 xa, .int .i64 xc, .int .i64 xh, .int .i64 xt, .int .i64 v, .int .i64 xp] := getD_of (hI.val_ (i := 8) rfl rfl (by decide) (hdep ⟨8, .data⟩ (by simp) rfl))
      clear hI hdep
      exact .call ((wanted_some rfl rfl q73).trans rfl) 14 #[.agg #[.int .i64 xk, .int .i64 xn, .int .i64 xa, .int .i64 xc, .int .i64 xh, .int .i64 xt, .int .i64 v, .int .i64 xp]] (by simp [go_sem, Act.eval, e76]) ((H4.out w3 (HB.out.trans (hh.mono HB.out.size))).mono fun _ _ ⟨h1_, h2_⟩ => ⟨⟨_, h1_, rfl⟩, h2_⟩)
    · simp only [List.getElem?_toArray, List.getElem?_cons_succ, List.getElem?_cons_zero, Option.some.injEq] at ho
      subst ho
      refine ⟨rfl, ?_⟩
      have q73 : A_.tmps[73]? = some (.bool true) := hI.val_ (i := 5) rfl rfl (by decide) (hdep ⟨5, .guard⟩ (by simp) rfl)
      have e75 : A_.tmps[75]?.getD undef = .string s2 := getD_of (hI.val_ (i := 7) rfl rfl (by decide) (hdep ⟨7, .data⟩ (by simp) rfl))
      have e77 : A_.tmps[77]?.getD undef = .string s2 := getD_of (hI.val_ (i := 9) rfl rfl (by decide) (hdep ⟨9, .data⟩ (by simp) rfl))
      clear hI hdep
      exact .run ((wanted_some rfl rfl q73).trans rfl) (.bool true) w3 (by simp [execOp, go_sem, Act.eval, *]) (Below.refl _ _) rfl
    · simp only [List.getElem?_toArray, List.getElem?_cons_succ, List.getElem?_cons_zero, Option.some.injEq] at ho
      subst ho
      refine ⟨rfl, ?_⟩
      have e73 : A_.tmps[73]?.getD undef = .bool true := getD_of (hI.val_ (i := 5) rfl rfl (by decide) (hdep ⟨5, .data⟩ (by simp) rfl))
      have e78 : A_.tmps[78]?.getD undef = .bool true := getD_of (hI.val_ (i := 10) rfl rfl (by decide) (hdep ⟨10, .data⟩ (by simp) rfl))
      clear hI hdep
      exact .run rfl (.bool true) w3 (by simp [execOp, go_sem, Act.eval, e73, e78]) (Below.refl _ _) rfl
    · simp only [List.getElem?_toArray, List.getElem?_cons_succ, List.getElem?_cons_zero, Option.some.injEq] at ho
      subst ho
      refine ⟨rfl, ?_⟩
      have e79 : A_.tmps[79]?.getD undef = .bool true := getD_of (hI.val_ (i := 11) rfl rfl (by decide) (hdep ⟨11, .data⟩ (by simp) rfl))
      clear hI hdep
      exact .run rfl (.bool true) w3 (by simp [execOp, go_sem, Act.eval, e79]) (Below.refl _ _) rfl
    · simp only [List.getElem?_toArray, List.getElem?_cons_succ, List.getElem?_cons_zero, Option.some.injEq] at ho
      subst ho
      refine ⟨rfl, ?_⟩
      have q80 : A_.tmps[80]? = some (.bool true) := hI.val_ (i := 12) rfl rfl (by decide) (hdep ⟨12, .guard⟩ (by simp) rfl)
      have e7 : A_.tmps[7]?.getD undef = .pointer (some ⟨w.heap.size + 1, 0, none⟩) := by rw [hI.low 7 (by decide)]; rfl
      clear hI hdep
      obtain ⟨⟨fa0, fa1, fa2, fa3, fa4, fa5, fa6, fa7⟩, ⟨fb0, fb1, fb2, fb3, fb4⟩, ⟨fc0, fc1, fc2, fc3, fc4, fc5, fc6, fc7⟩, fd0, fd1, fd2, fd3, fd4⟩ := HK.out w3 hh
      exact .run ((wanted_some rfl rfl q80).trans rfl) (.agg #[.int .i64 qc, .int .i64 qh, .int .i64 qt, .int .i64 qk, .int .i64 qi]) w3 (by simp [execOp, go_sem, Act.eval, *]) (Below.refl _ _) rfl
    · simp only [List.getElem?_toArray, List.getElem?_cons_succ, List.getElem?_cons_zero, Option.some.injEq] at ho
      subst ho
      refine ⟨rfl, ?_⟩
      have q80 : A_.tmps[80]? = some (.bool true) := hI.val_ (i := 12) rfl rfl (by decide) (hdep ⟨12, .guard⟩ (by simp) rfl)
      have e81 : A_.tmps[81]?.getD undef = .agg #[.int .i64 qc, .int .i64 qh, .int .i64 qt, .int .i64 qk, .int .i64 qi] := getD_of (hI.val_ (i := 13) rfl rfl (by decide) (hdep ⟨13, .data⟩ (by simp) rfl))
      clear hI hdep
      exact .call ((wanted_some rfl rfl q80).trans rfl) 15 #[.agg #[.int .i64 qc, .int .i64 qh, .int .i64 qt, .int .i64 qk, .int .i64 qi]] (by simp [go_sem, Act.eval, e81]) ((H5.out w3 (HB.out.trans (hh.mono HB.out.size))).mono fun _ _ ⟨h1_, h2_⟩ => ⟨⟨_, h1_, rfl⟩, h2_⟩)
    · simp only [List.getElem?_toArray, List.getElem?_cons_succ, List.getElem?_cons_zero, Option.some.injEq] at ho
      subst ho
      refine ⟨rfl, ?_⟩
      have q80 : A_.tmps[80]? = some (.bool true) := hI.val_ (i := 12) rfl rfl (by decide) (hdep ⟨12, .guard⟩ (by simp) rfl)
      have e7 : A_.tmps[7]?.getD undef = .pointer (some ⟨w.heap.size + 1, 0, none⟩) := by rw [hI.low 7 (by decide)]; rfl
      clear hI hdep
      obtain ⟨⟨fa0, fa1, fa2, fa3, fa4, fa5, fa6, fa7⟩, ⟨fb0, fb1, fb2, fb3, fb4⟩, ⟨fc0, fc1, fc2, fc3, fc4, fc5, fc6, fc7⟩, fd0, fd1, fd2, fd3, fd4⟩ := HK.out w3 hh
      exact .run ((wanted_some rfl rfl q80).trans rfl) (.agg #[.int .i64 qc, .int .i64 qh, .int .i64 qt, .int .i64 qk, .int .i64 qi]) w3 (by simp [execOp, go_sem, Act.eval, *]) (Below.refl _ _) rfl
    · simp only [List.getElem?_toArray, List.getElem?_cons_succ, List.getElem?_cons_zero, Option.some.injEq] at ho
      subst ho
      refine ⟨rfl, ?_⟩
      have q80 : A_.tmps[80]? = some (.bool true) := hI.val_ (i := 12) rfl rfl (by decide) (hdep ⟨12, .guard⟩ (by simp) rfl)
      have e83 : A_.tmps[83]?.getD undef = .agg #[.int .i64 qc, .int .i64 qh, .int .i64 qt, .int .i64 qk, .int .i64 qi] := getD_of (hI.val_ (i := 15) rfl rfl (by decide) (hdep ⟨15, .data⟩ (by simp) rfl))
      clear hI hdep
      exact .call ((wanted_some rfl rfl q80).trans rfl) 16 #[.agg #[.int .i64 qc, .int .i64 qh, .int .i64 qt, .int .i64 qk, .int .i64 qi]] (by simp [go_sem, Act.eval, e83]) ((H6.out w3 (HB.out.trans (hh.mono HB.out.size))).mono fun _ _ ⟨h1_, h2_⟩ => ⟨⟨_, h1_, rfl⟩, h2_⟩)
    · simp only [List.getElem?_toArray, List.getElem?_cons_succ, List.getElem?_cons_zero, Option.some.injEq] at ho
      subst ho
      refine ⟨rfl, ?_⟩
      have q80 : A_.tmps[80]? = some (.bool true) := hI.val_ (i := 12) rfl rfl (by decide) (hdep ⟨12, .guard⟩ (by simp) rfl)
      have e82 : A_.tmps[82]?.getD undef = .string s3 := getD_of (hI.val_ (i := 14) rfl rfl (by decide) (hdep ⟨14, .data⟩ (by simp) rfl))
      have e84 : A_.tmps[84]?.getD undef = .string s3 := getD_of (hI.val_ (i := 16) rfl rfl (by decide) (hdep ⟨16, .data⟩ (by simp) rfl))
      clear hI hdep
      exact .run ((wanted_some rfl rfl q80).trans rfl) (.bool true) w3 (by simp [execOp, go_sem, Act.eval, *]) (Below.refl _ _) rfl
    · simp only [List.getElem?_toArray, List.getElem?_cons_succ, List.getElem?_cons_zero, Option.some.injEq] at ho
      subst ho
      refine ⟨rfl, ?_⟩
      have e80 : A_.tmps[80]?.getD undef = .bool true := getD_of (hI.val_ (i := 12) rfl rfl (by decide) (hdep ⟨12, .data⟩ (by simp) rfl))
      have e85 : A_.tmps[85]?.getD undef = .bool true := getD_of (hI.val_ (i := 17) rfl rfl (by decide) (hdep ⟨17, .data⟩ (by simp) rfl))
      clear hI hdep
      exact .run rfl (.bool true) w3 (by simp [execOp, go_sem, Act.eval, e80, e85]) (Below.refl _ _) rfl
    · simp only [List.getElem?_toArray, List.getElem?_cons_succ, List.getElem?_cons_zero, Option.some.injEq] at ho
      subst ho
      refine ⟨rfl, ?_⟩
      have e86 : A_.tmps[86]?.getD undef = .bool true := getD_of (hI.val_ (i := 18) rfl rfl (by decide) (hdep ⟨18, .data⟩ (by simp) rfl))
      clear hI hdep
      exact .run rfl (.bool true) w3 (by simp [execOp, go_sem, Act.eval, e86]) (Below.refl _ _) rfl
    · simp only [List.getElem?_toArray, List.getElem?_cons_succ, List.getElem?_cons_zero, Option.some.injEq] at ho
      subst ho
      refine ⟨rfl, ?_⟩
      have q87 : A_.tmps[87]? = some (.bool true) := hI.val_ (i := 19) rfl rfl (by decide) (hdep ⟨19, .guard⟩ (by simp) rfl)
      have e14 : A_.tmps[14]?.getD undef = .pointer (some ⟨v2.heap.size, 0, none⟩) := by rw [hI.low 14 (by decide)]; rfl
      clear hI hdep
      obtain ⟨⟨fa0, fa1, fa2, fa3, fa4, fa5, fa6, fa7⟩, ⟨fb0, fb1, fb2, fb3, fb4⟩, ⟨fc0, fc1, fc2, fc3, fc4, fc5, fc6, fc7⟩, fd0, fd1, fd2, fd3, fd4⟩ := HK.out w3 hh
      exact .run ((wanted_some rfl rfl q87).trans rfl) (.agg #[.int .i64 yc, .int .i64 yh, .int .i64 yt, .int .i64 yk, .int .i64 yi]) w3 (by simp [execOp, go_sem, Act.eval, *]) (Below.refl _ _) rfl
    · simp only [List.getElem?_toArray, List.getElem?_cons_succ, List.getElem?_cons_zero, Option.some.injEq] at ho
      subst ho
      refine ⟨rfl, ?_⟩
      have q87 : A_.tmps[87]? = some (.bool true) := hI.val_ (i := 19) rfl rfl (by decide) (hdep ⟨19, .guard⟩ (by simp) rfl)
      have e88 : A_.tmps[88]?.getD undef = .agg #[.int .i64 yc, .int .i64 yh, .int .i64 yt, .int .i64 yk, .int .i64 yi] := getD_of (hI.val_ (i := 20) rfl rfl (by decide) (hdep ⟨20, .data⟩ (by simp) rfl))
      clear hI hdep
      exact .call ((wanted_some rfl rfl q87).trans rfl) 15 #[.agg #[.int .i64 yc, .int .i64 yh, .int .i64 yt, .int .i64 yk, .int .i64 yi]] (by simp [go_sem, Act.eval, e88]) ((H7.out w3 (HB.out.trans (hh.mono HB.out.size))).mono fun _ _ ⟨h1_, h2_⟩ => ⟨⟨_, h1_, rfl⟩, h2_⟩)
    · simp only [List.getElem?_toArray, List.getElem?_cons_succ, List.getElem?_cons_zero, Option.some.injEq] at ho
      subst ho
      refine ⟨rfl, ?_⟩
      have q87 : A_.tmps[87]? = some (.bool true) := hI.val_ (i := 19) rfl rfl (by decide) (hdep ⟨19, .guard⟩ (by simp) rfl)
      have e14 : A_.tmps[14]?.getD undef = .pointer (some ⟨v2.heap.size, 0, none⟩) := by rw [hI.low 14 (by decide)]; rfl
      clear hI hdep
      obtain ⟨⟨fa0, fa1, fa2, fa3, fa4, fa5, fa6, fa7⟩, ⟨fb0, fb1, fb2, fb3, fb4⟩, ⟨fc0, fc1, fc2, fc3, fc4, fc5, fc6, fc7⟩, fd0, fd1, fd2, fd3, fd4⟩ := HK.out w3 hh
      exact .run ((wanted_some rfl rfl q87).trans rfl) (.agg #[.int .i64 yc, .int .i64 yh, .int .i64 yt, .int .i64 yk, .int .i64 yi]) w3 (by simp [execOp, go_sem, Act.eval, *]) (Below.refl _ _) rfl
    · simp only [List.getElem?_toArray, List.getElem?_cons_succ, List.getElem?_cons_zero, Option.some.injEq] at ho
      subst ho
      refine ⟨rfl, ?_⟩
      have q87 : A_.tmps[87]? = some (.bool true) := hI.val_ (i := 19) rfl rfl (by decide) (hdep ⟨19, .guard⟩ (by simp) rfl)
      have e90 : A_.tmps[90]?.getD undef = .agg #[.int .i64 yc, .int .i64 yh, .int .i64 yt, .int .i64 yk, .int .i64 yi] := getD_of (hI.val_ (i := 22) rfl rfl (by decide) (hdep ⟨22, .data⟩ (by simp) rfl))
      clear hI hdep
      exact .call ((wanted_some rfl rfl q87).trans rfl) 16 #[.agg #[.int .i64 yc, .int .i64 yh, .int .i64 yt, .int .i64 yk, .int .i64 yi]] (by simp [go_sem, Act.eval, e90]) ((H8.out w3 (HB.out.trans (hh.mono HB.out.size))).mono fun _ _ ⟨h1_, h2_⟩ => ⟨⟨_, h1_, rfl⟩, h2_⟩)
    · simp only [List.getElem?_toArray, List.getElem?_cons_succ, List.getElem?_cons_zero, Option.some.injEq] at ho
      subst ho
      refine ⟨rfl, ?_⟩
      have q87 : A_.tmps[87]? = some (.bool true) := hI.val_ (i := 19) rfl rfl (by decide) (hdep ⟨19, .guard⟩ (by simp) rfl)
      have e89 : A_.tmps[89]?.getD undef = .string s4 := getD_of (hI.val_ (i := 21) rfl rfl (by decide) (hdep ⟨21, .data⟩ (by simp) rfl))
      have e91 : A_.tmps[91]?.getD undef = .string s4 := getD_of (hI.val_ (i := 23) rfl rfl (by decide) (hdep ⟨23, .data⟩ (by simp) rfl))
      clear hI hdep
      exact .run ((wanted_some rfl rfl q87).trans rfl) (.bool true) w3 (by simp [execOp, go_sem, Act.eval, *]) (Below.refl _ _) rfl
    · simp only [List.getElem?_toArray, List.getElem?_cons_succ, List.getElem?_cons_zero, Option.some.injEq] at ho
      subst ho
      refine ⟨rfl, ?_⟩
      have e87 : A_.tmps[87]?.getD undef = .bool true := getD_of (hI.val_ (i := 19) rfl rfl (by decide) (hdep ⟨19, .data⟩ (by simp) rfl))
      have e92 : A_.tmps[92]?.getD undef = .bool true := getD_of (hI.val_ (i := 24) rfl rfl (by decide) (hdep ⟨24, .data⟩ (by simp) rfl))
      clear hI hdep
      exact .run rfl (.bool true) w3 (by simp [execOp, go_sem, Act.eval, e87, e92]) (Below.refl _ _) rfl
    · simp only [List.getElem?_toArray, List.getElem?_cons_succ, List.getElem?_cons_zero, Option.some.injEq] at ho
      subst ho
      refine ⟨rfl, ?_⟩
      have e93 : A_.tmps[93]?.getD undef = .bool true := getD_of (hI.val_ (i := 25) rfl rfl (by decide) (hdep ⟨25, .data⟩ (by simp) rfl))
      clear hI hdep
      exact .run rfl (.bool true) w3 (by simp [execOp, go_sem, Act.eval, e93]) (Below.refl _ _) rfl
    · simp only [List.getElem?_toArray, List.getElem?_cons_succ, List.getElem?_cons_zero, Option.some.injEq] at ho
      subst ho
      refine ⟨rfl, ?_⟩
      have q94 : A_.tmps[94]? = some (.bool true) := hI.val_ (i := 26) rfl rfl (by decide) (hdep ⟨26, .guard⟩ (by simp) rfl)
      clear hI hdep
      exact .call ((wanted_some rfl rfl q94).trans rfl) 10 #[] (by simp [go_sem]) ((HL.out w3 (HB.out.trans (hh.mono HB.out.size))).mono fun _ _ ⟨h1_, h2_⟩ => ⟨⟨_, h1_, rfl⟩, h2_⟩)
    · simp only [List.getElem?_toArray, List.getElem?_cons_succ, List.getElem?_cons_zero, Option.some.injEq] at ho
      subst ho
      refine ⟨rfl, ?_⟩
      have e94 : A_.tmps[94]?.getD undef = .bool true := getD_of (hI.val_ (i := 26) rfl rfl (by decide) (hdep ⟨26, .data⟩ (by simp) rfl))
      have e95 : A_.tmps[95]?.getD undef = .bool true := getD_of (hI.val_ (i := 27) rfl rfl (by decide) (hdep ⟨27, .data⟩ (by simp) rfl))
      clear hI hdep
      exact .run rfl (.bool true) w3 (by simp [execOp, go_sem, Act.eval, e94, e95]) (Below.refl _ _) rfl
    · simp only [List.getElem?_toArray, List.getElem?_cons_succ, List.getElem?_cons_zero, Option.some.injEq] at ho
      subst ho
      refine ⟨rfl, ?_⟩
      have e96 : A_.tmps[96]?.getD undef = .bool true := getD_of (hI.val_ (i := 28) rfl rfl (by decide) (hdep ⟨28, .data⟩ (by simp) rfl))
      clear hI hdep
      exact .run rfl (.bool true) w3 (by simp [execOp, go_sem, Act.eval, e96]) (Below.refl _ _) rfl
  case fin =>
  intro A_ w3 hs hd hlow hS hok
  obtain rfl : A_ = ⟨#[.agg #[.int .i64 ek, .int .i64 en, .int .i64 ea, .int .i64 ec, .int .i64 eh, .int .i64 et, .int .i64 ei, .int .i64 ep], .agg #[.int .i64 qc, .int .i64 qh, .int .i64 qt, .int .i64 qk, .int .i64 qi], .int .i64 n, .int .i64 m, .int .i64 at_, .int .i64 v, .pointer (some ⟨w.heap.size, 0, none⟩), .pointer (some ⟨w.heap.size + 1, 0, none⟩), undef, undef, undef, undef, .bool true, .pointer (some ⟨v1.heap.size, 0, none⟩), .pointer (some ⟨v2.heap.size, 0, none⟩), .int .i64 n, .int .i64 m, .agg #[.int .i64 xk, .int .i64 xn, .int .i64 xa, .int .i64 xc, .int .i64 xh, .int .i64 xt, .int .i64 xi, .int .i64 xp], .int .i64 n, .int .i64 m, .agg #[.int .i64 yc, .int .i64 yh, .int .i64 yt, .int .i64 yk, .int .i64 yi], .int .i64 at_, .int .i64 5, undef, undef, undef, .bool false, .bool false, undef, undef, undef, undef, .bool false, .bool false, undef, undef, undef, undef, undef, .bool false, .bool false, undef, undef, undef, undef, undef, .bool false, .bool false, undef, undef, undef, undef, undef, undef, undef, .bool false, .bool false, undef, undef, undef, undef, undef, undef, .bool true, .bool true, .int .i64 v, .pointer (some ⟨v1.heap.size, 3, none⟩), .pointer (some ⟨v1.heap.size, 6, none⟩), .agg #[.int .i64 ek, .int .i64 en, .int .i64 ea, .int .i64 ec, .int .i64 eh, .int .i64 et, .int .i64 ei, .int .i64 ep], .string s1, .agg #[.int .i64 ek, .int .i64 en, .int .i64 ea, .int .i64 ec, .int .i64 eh, .int .i64 et, .int .i64 ei, .int .i64 ep], .string s1, .bool true, .bool true, .agg #[.int .i64 xk, .int .i64 xn, .int .i64 xa, .int .i64 xc, .int .i64 xh, .int .i64 xt, .int .i64 v, .int .i64 xp], .string s2, .agg #[.int .i64 xk, .int .i64 xn, .int .i64 xa, .int .i64 xc, .int .i64 xh, .int .i64 xt, .int .i64 v, .int .i64 xp], .string s2, .bool true, .bool true, .bool true, .agg #[.int .i64 qc, .int .i64 qh, .int .i64 qt, .int .i64 qk, .int .i64 qi], .string s3, .agg #[.int .i64 qc, .int .i64 qh, .int .i64 qt, .int .i64 qk, .int .i64 qi], .string s3, .bool true, .bool true, .bool true, .agg #[.int .i64 yc, .int .i64 yh, .int .i64 yt, .int .i64 yk, .int .i64 yi], .string s4, .agg #[.int .i64 yc, .int .i64 yh, .int .i64 yt, .int .i64 yk, .int .i64 yi], .string s4, .bool true, .bool true, .bool true, .bool true, .bool true], []⟩ := act_ext hd hs (fun j hj => match j, hj with | 0, _ => (hlow 0 (by decide)).trans rfl | 1, _ => (hlow 1 (by decide)).trans rfl | 2, _ => (hlow 2 (by decide)).trans rfl | 3, _ => (hlow 3 (by decide)).trans rfl | 4, _ => (hlow 4 (by decide)).trans rfl | 5, _ => (hlow 5 (by decide)).trans rfl | 6, _ => (hlow 6 (by decide)).trans rfl | 7, _ => (hlow 7 (by decide)).trans rfl | 8, _ => (hlow 8 (by decide)).trans rfl | 9, _ => (hlow 9 (by decide)).trans rfl | 10, _ => (hlow 10 (by decide)).trans rfl | 11, _ => (hlow 11 (by decide)).trans rfl | 12, _ => RgX.val_at (hok 29 12 _ (by decide) rfl rfl) | 13, _ => (hlow 13 (by decide)).trans rfl | 14, _ => (hlow 14 (by decide)).trans rfl | 15, _ => (hlow 15 (by decide)).trans rfl | 16, _ => (hlow 16 (by decide)).trans rfl | 17, _ => (hlow 17 (by decide)).trans rfl | 18, _ => (hlow 18 (by decide)).trans rfl | 19, _ => (hlow 19 (by decide)).trans rfl | 20, _ => (hlow 20 (by decide)).trans rfl | 21, _ => (hlow 21 (by decide)).trans rfl | 22, _ => (hlow 22 (by decide)).trans rfl | 23, _ => (hlow 23 (by decide)).trans rfl | 24, _ => (hlow 24 (by decide)).trans rfl | 25, _ => (hlow 25 (by decide)).trans rfl | 26, _ => (hlow 26 (by decide)).trans rfl | 27, _ => (hlow 27 (by decide)).trans rfl | 28, _ => (hlow 28 (by decide)).trans rfl | 29, _ => (hlow 29 (by decide)).trans rfl | 30, _ => (hlow 30 (by decide)).trans rfl | 31, _ => (hlow 31 (by decide)).trans rfl | 32, _ => (hlow 32 (by decide)).trans rfl | 33, _ => (hlow 33 (by decide)).trans rfl | 34, _ => (hlow 34 (by decide)).trans rfl | 35, _ => (hlow 35 (by decide)).trans rfl | 36, _ => (hlow 36 (by decide)).trans rfl | 37, _ => (hlow 37 (by decide)).trans rfl | 38, _ => (hlow 38 (by decide)).trans rfl | 39, _ => (hlow 39 (by decide)).trans rfl | 40, _ => (hlow 40 (by decide)).trans rfl | 41, _ => (hlow 41 (by decide)).trans rfl | 42, _ => (hlow 42 (by decide)).trans rfl | 43, _ => (hlow 43 (by decide)).trans rfl | 44, _ => (hlow 44 (by decide)).trans rfl | 45, _ => (hlow 45 (by decide)).trans rfl | 46, _ => (hlow 46 (by decide)).trans rfl | 47, _ => (hlow 47 (by decide)).trans rfl | 48, _ => (hlow 48 (by decide)).trans rfl | 49, _ => (hlow 49 (by decide)).trans rfl | 50, _ => (hlow 50 (by decide)).trans rfl | 51, _ => (hlow 51 (by decide)).trans rfl | 52, _ => (hlow 52 (by decide)).trans rfl | 53, _ => (hlow 53 (by decide)).trans rfl | 54, _ => (hlow 54 (by decide)).trans rfl | 55, _ => (hlow 55 (by decide)).trans rfl | 56, _ => (hlow 56 (by decide)).trans rfl | 57, _ => (hlow 57 (by decide)).trans rfl | 58, _ => (hlow 58 (by decide)).trans rfl | 59, _ => (hlow 59 (by decide)).trans rfl | 60, _ => (hlow 60 (by decide)).trans rfl | 61, _ => (hlow 61 (by decide)).trans rfl | 62, _ => (hlow 62 (by decide)).trans rfl | 63, _ => (hlow 63 (by decide)).trans rfl | 64, _ => (hlow 64 (by decide)).trans rfl | 65, _ => (hlow 65 (by decide)).trans rfl | 66, _ => (hlow 66 (by decide)).trans rfl | 67, _ => (hlow 67 (by decide)).trans rfl | 68, _ => RgX.val_at (hok 0 68 _ (by decide) rfl rfl) | 69, _ => RgX.val_at (hok 1 69 _ (by decide) rfl rfl) | 70, _ => RgX.val_at (hok 2 70 _ (by decide) rfl rfl) | 71, _ => RgX.val_at (hok 3 71 _ (by decide) rfl rfl) | 72, _ => RgX.val_at (hok 4 72 _ (by decide) rfl rfl) | 73, _ => RgX.val_at (hok 5 73 _ (by decide) rfl rfl) | 74, _ => RgX.val_at (hok 6 74 _ (by decide) rfl rfl) | 75, _ => RgX.val_at (hok 7 75 _ (by decide) rfl rfl) | 76, _ => RgX.val_at (hok 8 76 _ (by decide) rfl rfl) | 77, _ => RgX.val_at (hok 9 77 _ (by decide) rfl rfl) | 78, _ => RgX.val_at (hok 10 78 _ (by decide) rfl rfl) | 79, _ => RgX.val_at (hok 11 79 _ (by decide) rfl rfl) | 80, _ => RgX.val_at (hok 12 80 _ (by decide) rfl rfl) | 81, _ => RgX.val_at (hok 13 81 _ (by decide) rfl rfl) | 82, _ => RgX.val_at (hok 14 82 _ (by decide) rfl rfl) | 83, _ => RgX.val_at (hok 15 83 _ (by decide) rfl rfl) | 84, _ => RgX.val_at (hok 16 84 _ (by decide) rfl rfl) | 85, _ => RgX.val_at (hok 17 85 _ (by decide) rfl rfl) | 86, _ => RgX.val_at (hok 18 86 _ (by decide) rfl rfl) | 87, _ => RgX.val_at (hok 19 87 _ (by decide) rfl rfl) | 88, _ => RgX.val_at (hok 20 88 _ (by decide) rfl rfl) | 89, _ => RgX.val_at (hok 21 89 _ (by decide) rfl rfl) | 90, _ => RgX.val_at (hok 22 90 _ (by decide) rfl rfl) | 91, _ => RgX.val_at (hok 23 91 _ (by decide) rfl rfl) | 92, _ => RgX.val_at (hok 24 92 _ (by decide) rfl rfl) | 93, _ => RgX.val_at (hok 25 93 _ (by decide) rfl rfl) | 94, _ => RgX.val_at (hok 26 94 _ (by decide) rfl rfl) | 95, _ => RgX.val_at (hok 27 95 _ (by decide) rfl rfl) | 96, _ => RgX.val_at (hok 28 96 _ (by decide) rfl rfl) | n + 97, h => absurd h (by show ¬ n + 97 < 97; omega))
  clear hs hd hlow hok 
  go_wp2_with fail
  go_ret
  exact ⟨rfl, HB.out.trans (hS.mono HB.out.size)⟩
set_option maxHeartbeats 4000000 in
set_option maxRecDepth 100000 in
theorem walk_6 (ek en ea ec eh et ei ep qc qh qt qk qi xk xn xa xc xh xt xi xp yc yh yt yk yi n m at_ v : Int) (s1 s2 s3 s4 : ByteArray) (w : World)
    (HA : Hid (∀ V, Calls Tryz.prog 7 #[.int .i64 at_, .int .i64 7] V fun e w' => e = .returned (.int .i64 6) ∧ V = w'))
    (HG : Hid (∀ V, Calls Tryz.prog 11 #[.int .i64 n, .int .i64 m] V fun e w' => e = .returned (.agg #[.int .i64 xk, .int .i64 xn, .int .i64 xa, .int .i64 xc, .int .i64 xh, .int .i64 xt, .int .i64 xi, .int .i64 xp]) ∧ Below V.heap.size V w'))
    (HH : Hid (∀ V, Calls Tryz.prog 12 #[.int .i64 n, .int .i64 m] V fun e w' => e = .returned (.agg #[.int .i64 yc, .int .i64 yh, .int .i64 yt, .int .i64 yk, .int .i64 yi]) ∧ Below V.heap.size V w'))
    (H1 : Hid (∀ V, Below w.heap.size w V → Calls Tryz.prog 13 #[.agg #[.int .i64 ek, .int .i64 en, .int .i64 ea, .int .i64 ec, .int .i64 eh, .int .i64 et, .int .i64 ei, .int .i64 ep]] V fun e w' => e = .returned (.string s1) ∧ Below V.heap.size V w'))
    (H2 : Hid (∀ V, Below w.heap.size w V → Calls Tryz.prog 14 #[.agg #[.int .i64 ek, .int .i64 en, .int .i64 ea, .int .i64 ec, .int .i64 eh, .int .i64 et, .int .i64 ei, .int .i64 ep]] V fun e w' => e = .returned (.string s1) ∧ Below V.heap.size V w'))
    (H3 : Hid (∀ V, Below w.heap.size w V → Calls Tryz.prog 13 #[.agg #[.int .i64 xk, .int .i64 xn, .int .i64 xa, .int .i64 xc, .int .i64 xh, .int .i64 xt, .int .i64 xi, .int .i64 v]] V fun e w' => e = .returned (.string s2) ∧ Below V.heap.size V w'))
    (H4 : Hid (∀ V, Below w.heap.size w V → Calls Tryz.prog 14 #[.agg #[.int .i64 xk, .int .i64 xn, .int .i64 xa, .int .i64 xc, .int .i64 xh, .int .i64 xt, .int .i64 xi, .int .i64 v]] V fun e w' => e = .returned (.string s2) ∧ Below V.heap.size V w'))
    (H5 : Hid (∀ V, Below w.heap.size w V → Calls Tryz.prog 15 #[.agg #[.int .i64 qc, .int .i64 qh, .int .i64 qt, .int .i64 qk, .int .i64 qi]] V fun e w' => e = .returned (.string s3) ∧ Below V.heap.size V w'))
    (H6 : Hid (∀ V, Below w.heap.size w V → Calls Tryz.prog 16 #[.agg #[.int .i64 qc, .int .i64 qh, .int .i64 qt, .int .i64 qk, .int .i64 qi]] V fun e w' => e = .returned (.string s3) ∧ Below V.heap.size V w'))
    (H7 : Hid (∀ V, Below w.heap.size w V → Calls Tryz.prog 15 #[.agg #[.int .i64 yc, .int .i64 yh, .int .i64 yt, .int .i64 yk, .int .i64 yi]] V fun e w' => e = .returned (.string s4) ∧ Below V.heap.size V w'))
    (H8 : Hid (∀ V, Below w.heap.size w V → Calls Tryz.prog 16 #[.agg #[.int .i64 yc, .int .i64 yh, .int .i64 yt, .int .i64 yk, .int .i64 yi]] V fun e w' => e = .returned (.string s4) ∧ Below V.heap.size V w'))
    (HL : Hid (∀ V, Below w.heap.size w V → Calls Tryz.prog 10 #[] V fun e w' => e = .returned (.bool true) ∧ Below V.heap.size V w')) :
    Calls Tryz.prog 4 #[.agg #[.int .i64 ek, .int .i64 en, .int .i64 ea, .int .i64 ec, .int .i64 eh, .int .i64 et, .int .i64 ei, .int .i64 ep], .agg #[.int .i64 qc, .int .i64 qh, .int .i64 qt, .int .i64 qk, .int .i64 qi], .int .i64 n, .int .i64 m, .int .i64 at_, .int .i64 v] w fun e w' => e = .returned (.bool true) ∧ Below w.heap.size w w' := by
  obtain ⟨U, hU, hb0, ke, kq, hlt⟩ := two_boxes w (.cells #[.int .i64 ek, .int .i64 en, .int .i64 ea, .int .i64 ec, .int .i64 eh, .int .i64 et, .int .i64 ei, .int .i64 ep] 28) (.cells #[.int .i64 qc, .int .i64 qh, .int .i64 qt, .int .i64 qk, .int .i64 qi] 36)
  have HB0 := Lib.hid (And.intro hb0 (And.intro ke (And.intro kq hlt)))
  have hs0 := hb0.size
  clear hb0 ke kq
  go_enter Tryz.func4, Tryz.ntmps4
  go_wp2_with fail
  clear hU
  refine (HG.out _).mono ?_
  rintro e v1 ⟨rfl, hb1⟩
  have h1z := hb1.size
  have HB1 := Lib.hid hb1
  clear hb1
  go_wp2_with (refine RgX.wpList_store_seg rfl 28 _ _ rfl v1.heap.size 0 (.agg #[.int .i64 xk, .int .i64 xn, .int .i64 xa, .int .i64 xc, .int .i64 xh, .int .i64 xt, .int .i64 xi, .int .i64 xp]) rfl rfl 28 #[.int .i64 0, .int .i64 0, .int .i64 0, .int .i64 0, .int .i64 0, .int .i64 0, .int .i64 0, .int .i64 0] (new_at rfl) (by rw [size_ev]; rfl) (by show 0 + 8 ≤ 8; omega) (by simp [Value.cells, Value.oneCell']) #[.int .i64 xk, .int .i64 xn, .int .i64 xa, .int .i64 xc, .int .i64 xh, .int .i64 xt, .int .i64 xi, .int .i64 xp] rfl ?_; intro u1 kx1 ho1 hz1 hx1)
  have h1u : u1.heap.size = v1.heap.size + 1 := by rw [hz1]; simp
  have hu1 : Below v1.heap.size v1 u1 := (one_box v1 _).trans hx1
  refine (HH.out _).mono ?_
  rintro e v2 ⟨rfl, hb2⟩
  have h2z := hb2.size
  have kx2 : v2.heap[v1.heap.size]? = some (.cells #[.int .i64 xk, .int .i64 xn, .int .i64 xa, .int .i64 xc, .int .i64 xh, .int .i64 xt, .int .i64 xi, .int .i64 xp] 28 (0, 0)) := (hb2.block _ (by omega)).trans kx1
  have HB2 := Lib.hid (show Below U.heap.size U v2 from (HB1.out.trans (hu1.mono h1z)).trans (hb2.mono (by omega)))
  have KX2 := Lib.hid kx2
  clear hb2 hu1 ho1 hz1 hx1 kx1 kx2 HB1
  have hne : v1.heap.size ≠ v2.heap.size := by omega
  go_wp2_with (first | (refine RgX.wpList_store_seg rfl 36 _ _ rfl v2.heap.size 0 (.agg #[.int .i64 yc, .int .i64 yh, .int .i64 yt, .int .i64 yk, .int .i64 yi]) rfl rfl 36 #[.int .i64 0, .int .i64 0, .int .i64 0, .int .i64 0, .int .i64 0] (new_at rfl) (by rw [size_qu]; rfl) (by show 0 + 5 ≤ 5; omega) (by simp [Value.cells, Value.oneCell']) #[.int .i64 yc, .int .i64 yh, .int .i64 yt, .int .i64 yk, .int .i64 yi] rfl ?_; intro u2 ky2 ho2 hz2 hx2; have kx3 : u2.heap[v1.heap.size]? = some (.cells #[.int .i64 xk, .int .i64 xn, .int .i64 xa, .int .i64 xc, .int .i64 xh, .int .i64 xt, .int .i64 xi, .int .i64 xp] 28 (0, 0)) := (ho2 _ hne).trans ((Below.heap_alloc _ _ _ (by omega)).trans KX2.out); have h2u : u2.heap.size = v2.heap.size + 1 := (by rw [hz2]; simp); have HU2 := Lib.hid (show Below U.heap.size U u2 from HB2.out.trans (((one_box v2 _).trans hx2).mono (by omega))); have KX3 := Lib.hid kx3; have KY2 := Lib.hid ky2; clear kx3 ky2 ho2 hz2 hx2) | (go_at_call 7; refine (HA.out _).mono ?_; rintro e w1 ⟨rfl, rfl⟩) | (refine RgX.wpList_store_seg rfl 3 _ _ rfl v1.heap.size 7 (.int .i64 v) rfl rfl 28 _ KX3.out (by rw [size_in]; rfl) (by show 7 + 1 ≤ 8; omega) (by simp [Value.cells, Value.oneCell']) #[.int .i64 xk, .int .i64 xn, .int .i64 xa, .int .i64 xc, .int .i64 xh, .int .i64 xt, .int .i64 xi, .int .i64 v] rfl ?_; intro u3 kx4 ho3 hz3 hx3; have ky3 : u3.heap[v2.heap.size]? = some (.cells #[.int .i64 yc, .int .i64 yh, .int .i64 yt, .int .i64 yk, .int .i64 yi] 36 (0, 0)) := (ho3 _ (fun e => hne e.symm)).trans KY2.out; have h3u : u3.heap.size = u2.heap.size := hz3; have HU3 := Lib.hid (show Below U.heap.size U u3 from HU2.out.trans (hx3.mono (by omega))); have KX4 := Lib.hid kx4; have KY3 := Lib.hid ky3; clear kx4 ky3 ho3 hz3 hx3))
  obtain ⟨hb0, ke, kq, hlt⟩ := HB0.out
  have kx := KX4.out
  have ky := KY3.out
  have hbu := HU3.out
  have hzu : u3.heap.size = v2.heap.size + 1 := by omega
  have HB := Lib.hid (show Below w.heap.size w u3 from hb0.trans (hbu.mono hb0.size))
  have HK := Lib.hid (fun (V : World) (hV : Below u3.heap.size u3 V) => And.intro (row8 ((hV.block _ (by omega)).trans ((hbu.block _ (by omega)).trans ke))) (And.intro (row5 ((hV.block _ (by omega)).trans ((hbu.block _ hlt).trans kq))) (And.intro (row8 ((hV.block _ (by omega)).trans kx)) (row5 ((hV.block _ (by omega)).trans ky)))))
  clear hb0 ke kq kx ky hbu HB0 HB2
  refine RgX.region 30 (fun i => (if i = 29 then 12 else 68 + i)) (fun ix_ => match ix_ with | 0 => .v (.agg #[.int .i64 ek, .int .i64 en, .int .i64 ea, .int .i64 ec, .int .i64 eh, .int .i64 et, .int .i64 ei, .int .i64 ep]) | 1 => .v (.string s1) | 2 => .v (.agg #[.int .i64 ek, .int .i64 en, .int .i64 ea, .int .i64 ec, .int .i64 eh, .int .i64 et, .int .i64 ei, .int .i64 ep]) | 3 => .v (.string s1) | 4 => .v (.bool true) | 5 => .v (.bool true) | 6 => .v (.agg #[.int .i64 xk, .int .i64 xn, .int .i64 xa, .int .i64 xc, .int .i64 xh, .int .i64 xt, .int .i64 xi, .int .i64 v]) | 7 => .v (.string s2) | 8 => .v (.agg #[.int .i64 xk, .int .i64 xn, .int .i64 xa, .int .i64 xc, .int .i64 xh, .int .i64 xt, .int .i64 xi, .int .i64 v]) | 9 => .v (.string s2) | 10 => .v (.bool true) | 11 => .v (.bool true) | 12 => .v (.bool true) | 13 => .v (.agg #[.int .i64 qc, .int .i64 qh, .int .i64 qt, .int .i64 qk, .int .i64 qi]) | 14 => .v (.string s3) | 15 => .v (.agg #[.int .i64 qc, .int .i64 qh, .int .i64 qt, .int .i64 qk, .int .i64 qi]) | 16 => .v (.string s3) | 17 => .v (.bool true) | 18 => .v (.bool true) | 19 => .v (.bool true) | 20 => .v (.agg #[.int .i64 yc, .int .i64 yh, .int .i64 yt, .int .i64 yk, .int .i64 yi]) | 21 => .v (.string s4) | 22 => .v (.agg #[.int .i64 yc, .int .i64 yh, .int .i64 yt, .int .i64 yk, .int .i64 yi]) | 23 => .v (.string s4) | 24 => .v (.bool true) | 25 => .v (.bool true) | 26 => .v (.bool true) | 27 => .v (.bool true) | 28 => .v (.bool true) | 29 => .v (.bool true) | _ => .any) (by kernel_rfl) rfl (by kernel_rfl)  (fun i hi => by show (if i = 29 then 12 else 68 + i) < 97; (repeat' split) <;> omega) (fun i j hi hj => by show (if i = 29 then 12 else 68 + i) = (if j = 29 then 12 else 68 + j) → i = j; (repeat' split) <;> omega) ?step ?fin
  case step =>
    intro L_ A_ w3 ix op_ hI ho hdep
    have hi : ix < 30 := (Array.getElem?_eq_some_iff.1 ho).1
    have hcase : ix = 0 ∨ ix = 1 ∨ ix = 2 ∨ ix = 3 ∨ ix = 4 ∨ ix = 5 ∨ ix = 6 ∨ ix = 7 ∨ ix = 8 ∨ ix = 9 ∨ ix = 10 ∨ ix = 11 ∨ ix = 12 ∨ ix = 13 ∨ ix = 14 ∨ ix = 15 ∨ ix = 16 ∨ ix = 17 ∨ ix = 18 ∨ ix = 19 ∨ ix = 20 ∨ ix = 21 ∨ ix = 22 ∨ ix = 23 ∨ ix = 24 ∨ ix = 25 ∨ ix = 26 ∨ ix = 27 ∨ ix = 28 ∨ ix = 29 := by omega
    have hh := hI.held
    clear hi
    rcases hcase with rfl | rfl | rfl | rfl | rfl | rfl | rfl | rfl | rfl | rfl | rfl | rfl | rfl | rfl | rfl | rfl | rfl | rfl | rfl | rfl | rfl | rfl | rfl | rfl | rfl | rfl | rfl | rfl | rfl | rfl
    · simp only [List.getElem?_toArray, List.getElem?_cons_zero, Option.some.injEq] at ho
      subst ho
      refine ⟨rfl, ?_⟩
      have e6 : A_.tmps[6]?.getD undef = .pointer (some ⟨w.heap.size, 0, none⟩) := by rw [hI.low 6 (by decide)]; rfl
      clear hI hdep
      obtain ⟨⟨fa0, fa1, fa2, fa3, fa4, fa5, fa6, fa7⟩, ⟨fb0, fb1, fb2, fb3, fb4⟩, ⟨fc0, fc1, fc2, fc3, fc4, fc5, fc6, fc7⟩, fd0, fd1, fd2, fd3, fd4⟩ := HK.out w3 hh
      exact .run rfl (.agg #[.int .i64 ek, .int .i64 en, .int .i64 ea, .int .i64 ec, .int .i64 eh, .int .i64 et, .int .i64 ei, .int .i64 ep]) w3 (by simp [execOp, go_sem, Act.eval, *]) (Below.refl _ _) rfl
    · simp only [List.getElem?_toArray, List.getElem?_cons_succ, List.getElem?_cons_zero, Option.some.injEq] at ho
      subst ho
      refine ⟨rfl, ?_⟩
      have e68 : A_.tmps[68]?.getD undef = .agg #[.int .i64 ek, .int .i64 en, .int .i64 ea, .int .i64 ec, .int .i64 eh, .int .i64 et, .int .i64 ei, .int .i64 ep] := getD_of (hI.val_ (i := 0) rfl rfl (by decide) (hdep ⟨0, .data⟩ (by simp) rfl))
      clear hI hdep
      exact .call rfl 13 #[.agg #[.int .i64 ek, .int .i64 en, .int .i64 ea, .int .i64 ec, .int .i64 eh, .int .i64 et, .int .i64 ei, .int .i64 ep]] (by simp [go_sem, Act.eval, e68]) ((H1.out w3 (HB.out.trans (hh.mono HB.out.size))).mono fun _ _ ⟨h1_, h2_⟩ => ⟨⟨_, h1_, rfl⟩, h2_⟩)
    · simp only [List.getElem?_toArray, List.getElem?_cons_succ, List.getElem?_cons_zero, Option.some.injEq] at ho
      subst ho
      refine ⟨rfl, ?_⟩
      have e6 : A_.tmps[6]?.getD undef = .pointer (some ⟨w.heap.size, 0, none⟩) := by rw [hI.low 6 (by decide)]; rfl
      clear hI hdep
      obtain ⟨⟨fa0, fa1, fa2, fa3, fa4, fa5, fa6, fa7⟩, ⟨fb0, fb1, fb2, fb3, fb4⟩, ⟨fc0, fc1, fc2, fc3, fc4, fc5, fc6, fc7⟩, fd0, fd1, fd2, fd3, fd4⟩ := HK.out w3 hh
      exact .run rfl (.agg #[.int .i64 ek, .int .i64 en, .int .i64 ea, .int .i64 ec, .int .i64 eh, .int .i64 et, .int .i64 ei, .int .i64 ep]) w3 (by simp [execOp, go_sem, Act.eval, *]) (Below.refl _ _) rfl
    · simp only [List.getElem?_toArray, List.getElem?_cons_succ, List.getElem?_cons_zero, Option.some.injEq] at ho
      subst ho
      refine ⟨rfl, ?_⟩
      have e70 : A_.tmps[70]?.getD undef = .agg #[.int .i64 ek, .int .i64 en, .int .i64 ea, .int .i64 ec, .int .i64 eh, .int .i64 et, .int .i64 ei, .int .i64 ep] := getD_of (hI.val_ (i := 2) rfl rfl (by decide) (hdep ⟨2, .data⟩ (by simp) rfl))
      clear hI hdep
      exact .call rfl 14 #[.agg #[.int .i64 ek, .int .i64 en, .int .i64 ea, .int .i64 ec, .int .i64 eh, .int .i64 et, .int .i64 ei, .int .i64 ep]] (by simp [go_sem, Act.eval, e70]) ((H2.out w3 (HB.out.trans (hh.mono HB.out.size))).mono fun _ _ ⟨h1_, h2_⟩ => ⟨⟨_, h1_, rfl⟩, h2_⟩)
    · simp only [List.getElem?_toArray, List.getElem?_cons_succ, List.getElem?_cons_zero, Option.some.injEq] at ho
      subst ho
      refine ⟨rfl, ?_⟩
      have e69 : A_.tmps[69]?.getD undef = .string s1 := getD_of (hI.val_ (i := 1) rfl rfl (by decide) (hdep ⟨1, .data⟩ (by simp) rfl))
      have e71 : A_.tmps[71]?.getD undef = .string s1 := getD_of (hI.val_ (i := 3) rfl rfl (by decide) (hdep ⟨3, .data⟩ (by simp) rfl))
      clear hI hdep
      exact .run rfl (.bool true) w3 (by simp [execOp, go_sem, Act.eval, *]) (Below.refl _ _) rfl
    · simp only [List.getElem?_toArray, List.getElem?_cons_succ, List.getElem?_cons_zero, Option.some.injEq] at ho
      subst ho
      refine ⟨rfl, ?_⟩
      have e72 : A_.tmps[72]?.getD undef = .bool true := getD_of (hI.val_ (i := 4) rfl rfl (by decide) (hdep ⟨4, .data⟩ (by simp) rfl))
      clear hI hdep
      exact .run rfl (.bool true) w3 (by simp [execOp, go_sem, Act.eval, e72]) (Below.refl _ _) rfl
    · simp only [List.getElem?_toArray, List.getElem?_cons_succ, List.getElem?_cons_zero, Option.some.injEq] at ho
      subst ho
      refine ⟨rfl, ?_⟩
      have q73 : A_.tmps[73]? = some (.bool true) := hI.val_ (i := 5) rfl rfl (by decide) (hdep ⟨5, .guard⟩ (by simp) rfl)
      have e13 : A_.tmps[13]?.getD undef = .pointer (some ⟨v1.heap.size, 0, none⟩) := by rw [hI.low 13 (by decide)]; rfl
      clear hI hdep
      obtain ⟨⟨fa0, fa1, fa2, fa3, fa4, fa5, fa6, fa7⟩, ⟨fb0, fb1, fb2, fb3, fb4⟩, ⟨fc0, fc1, fc2, fc3, fc4, fc5, fc6, fc7⟩, fd0, fd1, fd2, fd3, fd4⟩ := HK.out w3 hh
      exact .run ((wanted_some rfl rfl q73).trans rfl) (.agg #[.int .i64 xk, .int .i64 xn, .int .i64 xa, .int .i64 xc, .int .i64 xh, .int .i64 xt, .int .i64 xi, .int .i64 v]) w3 (by simp [execOp, go_sem, Act.eval, *]) (Below.refl _ _) rfl
    · simp only [List.getElem?_toArray, List.getElem?_cons_succ, List.getElem?_cons_zero, Option.some.injEq] at ho
      subst ho
      refine ⟨rfl, ?_⟩
      have q73 : A_.tmps[73]? = some (.bool true) := hI.val_ (i := 5) rfl rfl (by decide) (hdep ⟨5, .guard⟩ (by simp) rfl)
      have e74 : A_.tmps[74]?.getD undef = .agg #[.int .i64 xk, .int .i64 xn, .int .i64 xa, .int .i64 xc, .int .i64 xh, .int .i64 xt, .int .i64 xi, .int .i64 v] := getD_of (hI.val_ (i := 6) rfl rfl (by decide) (hdep ⟨6, .data⟩ (by simp) rfl))
      clear hI hdep
      exact .call ((wanted_some rfl rfl q73).trans rfl) 13 #[.agg #[.int .i64 xk, .int .i64 xn, .int .i64 xa, .int .i64 xc, .int .i64 xh, .int .i64 xt, .int .i64 xi, .int .i64 v]] (by simp [go_sem, Act.eval, e74]) ((H3.out w3 (HB.out.trans (hh.mono HB.out.size))).mono fun _ _ ⟨h1_, h2_⟩ => ⟨⟨_, h1_, rfl⟩, h2_⟩)
    · simp only [List.getElem?_toArray, List.getElem?_cons_succ, List.getElem?_cons_zero, Option.some.injEq] at ho
      subst ho
      refine ⟨rfl, ?_⟩
      have q73 : A_.tmps[73]? = some (.bool true) := hI.val_ (i := 5) rfl rfl (by decide) (hdep ⟨5, .guard⟩ (by simp) rfl)
      have e13 : A_.tmps[13]?.getD undef = .pointer (some ⟨v1.heap.size, 0, none⟩) := by rw [hI.low 13 (by decide)]; rfl
      clear hI hdep
      obtain ⟨⟨fa0, fa1, fa2, fa3, fa4, fa5, fa6, fa7⟩, ⟨fb0, fb1, fb2, fb3, fb4⟩, ⟨fc0, fc1, fc2, fc3, fc4, fc5, fc6, fc7⟩, fd0, fd1, fd2, fd3, fd4⟩ := HK.out w3 hh
      exact .run ((wanted_some rfl rfl q73).trans rfl) (.agg #[.int .i64 xk, .int .i64 xn, .int .i64 xa, .int .i64 xc, .int .i64 xh, .int .i64 xt, .int .i64 xi, .int .i64 v]) w3 (by simp [execOp, go_sem, Act.eval, *]) (Below.refl _ _) rfl
    · simp only [List.getElem?_toArray, List.getElem?_cons_succ, List.getElem?_cons_zero, Option.some.injEq] at ho
      subst ho
      refine ⟨rfl, ?_⟩
      have q73 : A_.tmps[73]? = some (.bool true) := hI.val_ (i := 5) rfl rfl (by decide) (hdep ⟨5, .guard⟩ (by simp) rfl)
      have e76 : A_.tmps[76]?.getD undef = .agg #[.int .i64 xk, .int .i64 xn, .int .i64 xa, .int .i64 xc, .int .i64 xh, .int .i64 xt, .int .i64 xi, .int .i64 v] := getD_of (hI.val_ (i := 8) rfl rfl (by decide) (hdep ⟨8, .data⟩ (by simp) rfl))
      clear hI hdep
      exact .call ((wanted_some rfl rfl q73).trans rfl) 14 #[.agg #[.int .i64 xk, .int .i64 xn, .int .i64 xa, .int .i64 xc, .int .i64 xh, .int .i64 xt, .int .i64 xi, .int .i64 v]] (by simp [go_sem, Act.eval, e76]) ((H4.out w3 (HB.out.trans (hh.mono HB.out.size))).mono fun _ _ ⟨h1_, h2_⟩ => ⟨⟨_, h1_, rfl⟩, h2_⟩)
    · simp only [List.getElem?_toArray, List.getElem?_cons_succ, List.getElem?_cons_zero, Option.some.injEq] at ho
      subst ho
      refine ⟨rfl, ?_⟩
      have q73 : A_.tmps[73]? = some (.bool true) := hI.val_ (i := 5) rfl rfl (by decide) (hdep ⟨5, .guard⟩ (by simp) rfl)
      have e75 : A_.tmps[75]?.getD undef = .string s2 := getD_of (hI.val_ (i := 7) rfl rfl (by decide) (hdep ⟨7, .data⟩ (by simp) rfl))
      have e77 : A_.tmps[77]?.getD undef = .string s2 := getD_of (hI.val_ (i := 9) rfl rfl (by decide) (hdep ⟨9, .data⟩ (by simp) rfl))
      clear hI hdep
      exact .run ((wanted_some rfl rfl q73).trans rfl) (.bool true) w3 (by simp [execOp, go_sem, Act.eval, *]) (Below.refl _ _) rfl
    · simp only [List.getElem?_toArray, List.getElem?_cons_succ, List.getElem?_cons_zero, Option.some.injEq] at ho
      subst ho
      refine ⟨rfl, ?_⟩
      have e73 : A_.tmps[73]?.getD undef = .bool true := getD_of (hI.val_ (i := 5) rfl rfl (by decide) (hdep ⟨5, .data⟩ (by simp) rfl))
      have e78 : A_.tmps[78]?.getD undef = .bool true := getD_of (hI.val_ (i := 10) rfl rfl (by decide) (hdep ⟨10, .data⟩ (by simp) rfl))
      clear hI hdep
      exact .run rfl (.bool true) w3 (by simp [execOp, go_sem, Act.eval, e73, e78]) (Below.refl _ _) rfl
    · simp only [List.getElem?_toArray, List.getElem?_cons_succ, List.getElem?_cons_zero, Option.some.injEq] at ho
      subst ho
      refine ⟨rfl, ?_⟩
      have e79 : A_.tmps[79]?.getD undef = .bool true := getD_of (hI.val_ (i := 11) rfl rfl (by decide) (hdep ⟨11, .data⟩ (by simp) rfl))
      clear hI hdep
      exact .run rfl (.bool true) w3 (by simp [execOp, go_sem, Act.eval, e79]) (Below.refl _ _) rfl
    · simp only [List.getElem?_toArray, List.getElem?_cons_succ, List.getElem?_cons_zero, Option.some.injEq] at ho
      subst ho
      refine ⟨rfl, ?_⟩
      have q80 : A_.tmps[80]? = some (.bool true) := hI.val_ (i := 12) rfl rfl (by decide) (hdep ⟨12, .guard⟩ (by simp) rfl)
      have e7 : A_.tmps[7]?.getD undef = .pointer (some ⟨w.heap.size + 1, 0, none⟩) := by rw [hI.low 7 (by decide)]; rfl
      clear hI hdep
      obtain ⟨⟨fa0, fa1, fa2, fa3, fa4, fa5, fa6, fa7⟩, ⟨fb0, fb1, fb2, fb3, fb4⟩, ⟨fc0, fc1, fc2, fc3, fc4, fc5, fc6, fc7⟩, fd0, fd1, fd2, fd3, fd4⟩ := HK.out w3 hh
      exact .run ((wanted_some rfl rfl q80).trans rfl) (.agg #[.int .i64 qc, .int .i64 qh, .int .i64 qt, .int .i64 qk, .int .i64 qi]) w3 (by simp [execOp, go_sem, Act.eval, *]) (Below.refl _ _) rfl
    · simp only [List.getElem?_toArray, List.getElem?_cons_succ, List.getElem?_cons_zero, Option.some.injEq] at ho
      subst ho
      refine ⟨rfl, ?_⟩
      have q80 : A_.tmps[80]? = some (.bool true) := hI.val_ (i := 12) rfl rfl (by decide) (hdep ⟨12, .guard⟩ (by simp) rfl)
      have e81 : A_.tmps[81]?.getD undef = .agg #[.int .i64 qc, .int .i64 qh, .int .i64 qt, .int .i64 qk, .int .i64 qi] := getD_of (hI.val_ (i := 13) rfl rfl (by decide) (hdep ⟨13, .data⟩ (by simp) rfl))
      clear hI hdep
      exact .call ((wanted_some rfl rfl q80).trans rfl) 15 #[.agg #[.int .i64 qc, .int .i64 qh, .int .i64 qt, .int .i64 qk, .int .i64 qi]] (by simp [go_sem, Act.eval, e81]) ((H5.out w3 (HB.out.trans (hh.mono HB.out.size))).mono fun _ _ ⟨h1_, h2_⟩ => ⟨⟨_, h1_, rfl⟩, h2_⟩)
    · simp only [List.getElem?_toArray, List.getElem?_cons_succ, List.getElem?_cons_zero, Option.some.injEq] at ho
      subst ho
      refine ⟨rfl, ?_⟩
      have q80 : A_.tmps[80]? = some (.bool true) := hI.val_ (i := 12) rfl rfl (by decide) (hdep ⟨12, .guard⟩ (by simp) rfl)
      have e7 : A_.tmps[7]?.getD undef = .pointer (some ⟨w.heap.size + 1, 0, none⟩) := by rw [hI.low 7 (by decide)]; rfl
      clear hI hdep
      obtain ⟨⟨fa0, fa1, fa2, fa3, fa4, fa5, fa6, fa7⟩, ⟨fb0, fb1, fb2, fb3, fb4⟩, ⟨fc0, fc1, fc2, fc3, fc4, fc5, fc6, fc7⟩, fd0, fd1, fd2, fd3, fd4⟩ := HK.out w3 hh
      exact .run ((wanted_some rfl rfl q80).trans rfl) (.agg #[.int .i64 qc, .int .i64 qh, .int .i64 qt, .int .i64 qk, .int .i64 qi]) w3 (by simp [execOp, go_sem, Act.eval, *]) (Below.refl _ _) rfl
    · simp only [List.getElem?_toArray, List.getElem?_cons_succ, List.getElem?_cons_zero, Option.some.injEq] at ho
      subst ho
      refine ⟨rfl, ?_⟩
      have q80 : A_.tmps[80]? = some (.bool true) := hI.val_ (i := 12) rfl rfl (by decide) (hdep ⟨12, .guard⟩ (by simp) rfl)
      have e83 : A_.tmps[83]?.getD undef = .agg #[.int .i64 qc, .int .i64 qh, .int .i64 qt, .int .i64 qk, .int .i64 qi] := getD_of (hI.val_ (i := 15) rfl rfl (by decide) (hdep ⟨15, .data⟩ (by simp) rfl))
      clear hI hdep
      exact .call ((wanted_some rfl rfl q80).trans rfl) 16 #[.agg #[.int .i64 qc, .int .i64 qh, .int .i64 qt, .int .i64 qk, .int .i64 qi]] (by simp [go_sem, Act.eval, e83]) ((H6.out w3 (HB.out.trans (hh.mono HB.out.size))).mono fun _ _ ⟨h1_, h2_⟩ => ⟨⟨_, h1_, rfl⟩, h2_⟩)
    · simp only [List.getElem?_toArray, List.getElem?_cons_succ, List.getElem?_cons_zero, Option.some.injEq] at ho
      subst ho
      refine ⟨rfl, ?_⟩
      have q80 : A_.tmps[80]? = some (.bool true) := hI.val_ (i := 12) rfl rfl (by decide) (hdep ⟨12, .guard⟩ (by simp) rfl)
      have e82 : A_.tmps[82]?.getD undef = .string s3 := getD_of (hI.val_ (i := 14) rfl rfl (by decide) (hdep ⟨14, .data⟩ (by simp) rfl))
      have e84 : A_.tmps[84]?.getD undef = .string s3 := getD_of (hI.val_ (i := 16) rfl rfl (by decide) (hdep ⟨16, .data⟩ (by simp) rfl))
      clear hI hdep
      exact .run ((wanted_some rfl rfl q80).trans rfl) (.bool true) w3 (by simp [execOp, go_sem, Act.eval, *]) (Below.refl _ _) rfl
    · simp only [List.getElem?_toArray, List.getElem?_cons_succ, List.getElem?_cons_zero, Option.some.injEq] at ho
      subst ho
      refine ⟨rfl, ?_⟩
      have e80 : A_.tmps[80]?.getD undef = .bool true := getD_of (hI.val_ (i := 12) rfl rfl (by decide) (hdep ⟨12, .data⟩ (by simp) rfl))
      have e85 : A_.tmps[85]?.getD undef = .bool true := getD_of (hI.val_ (i := 17) rfl rfl (by decide) (hdep ⟨17, .data⟩ (by simp) rfl))
      clear hI hdep
      exact .run rfl (.bool true) w3 (by simp [execOp, go_sem, Act.eval, e80, e85]) (Below.refl _ _) rfl
    · simp only [List.getElem?_toArray, List.getElem?_cons_succ, List.getElem?_cons_zero, Option.some.injEq] at ho
      subst ho
      refine ⟨rfl, ?_⟩
      have e86 : A_.tmps[86]?.getD undef = .bool true := getD_of (hI.val_ (i := 18) rfl rfl (by decide) (hdep ⟨18, .data⟩ (by simp) rfl))
      clear hI hdep
      exact .run rfl (.bool true) w3 (by simp [execOp, go_sem, Act.eval, e86]) (Below.refl _ _) rfl
    · simp only [List.getElem?_toArray, List.getElem?_cons_succ, List.getElem?_cons_zero, Option.some.injEq] at ho
      subst ho
      refine ⟨rfl, ?_⟩
      have q87 : A_.tmps[87]? = some (.bool true) := hI.val_ (i := 19) rfl rfl (by decide) (hdep ⟨19, .guard⟩ (by simp) rfl)
      have e14 : A_.tmps[14]?.getD undef = .pointer (some ⟨v2.heap.size, 0, none⟩) := by rw [hI.low 14 (by decide)]; rfl
      clear hI hdep
      obtain ⟨⟨fa0, fa1, fa2, fa3, fa4, fa5, fa6, fa7⟩, ⟨fb0, fb1, fb2, fb3, fb4⟩, ⟨fc0, fc1, fc2, fc3, fc4, fc5, fc6, fc7⟩, fd0, fd1, fd2, fd3, fd4⟩ := HK.out w3 hh
      exact .run ((wanted_some rfl rfl q87).trans rfl) (.agg #[.int .i64 yc, .int .i64 yh, .int .i64 yt, .int .i64 yk, .int .i64 yi]) w3 (by simp [execOp, go_sem, Act.eval, *]) (Below.refl _ _) rfl
    · simp only [List.getElem?_toArray, List.getElem?_cons_succ, List.getElem?_cons_zero, Option.some.injEq] at ho
      subst ho
      refine ⟨rfl, ?_⟩
      have q87 : A_.tmps[87]? = some (.bool true) := hI.val_ (i := 19) rfl rfl (by decide) (hdep ⟨19, .guard⟩ (by simp) rfl)
      have e88 : A_.tmps[88]?.getD undef = .agg #[.int .i64 yc, .int .i64 yh, .int .i64 yt, .int .i64 yk, .int .i64 yi] := getD_of (hI.val_ (i := 20) rfl rfl (by decide) (hdep ⟨20, .data⟩ (by simp) rfl))
      clear hI hdep
      exact .call ((wanted_some rfl rfl q87).trans rfl) 15 #[.agg #[.int .i64 yc, .int .i64 yh, .int .i64 yt, .int .i64 yk, .int .i64 yi]] (by simp [go_sem, Act.eval, e88]) ((H7.out w3 (HB.out.trans (hh.mono HB.out.size))).mono fun _ _ ⟨h1_, h2_⟩ => ⟨⟨_, h1_, rfl⟩, h2_⟩)
    · simp only [List.getElem?_toArray, List.getElem?_cons_succ, List.getElem?_cons_zero, Option.some.injEq] at ho
      subst ho
      refine ⟨rfl, ?_⟩
      have q87 : A_.tmps[87]? = some (.bool true) := hI.val_ (i := 19) rfl rfl (by decide) (hdep ⟨19, .guard⟩ (by simp) rfl)
      have e14 : A_.tmps[14]?.getD undef = .pointer (some ⟨v2.heap.size, 0, none⟩) := by rw [hI.low 14 (by decide)]; rfl
      clear hI hdep
      obtain ⟨⟨fa0, fa1, fa2, fa3, fa4, fa5, fa6, fa7⟩, ⟨fb0, fb1, fb2, fb3, fb4⟩, ⟨fc0, fc1, fc2, fc3, fc4, fc5, fc6, fc7⟩, fd0, fd1, fd2, fd3, fd4⟩ := HK.out w3 hh
      exact .run ((wanted_some rfl rfl q87).trans rfl) (.agg #[.int .i64 yc, .int .i64 yh, .int .i64 yt, .int .i64 yk, .int .i64 yi]) w3 (by simp [execOp, go_sem, Act.eval, *]) (Below.refl _ _) rfl
    · simp only [List.getElem?_toArray, List.getElem?_cons_succ, List.getElem?_cons_zero, Option.some.injEq] at ho
      subst ho
      refine ⟨rfl, ?_⟩
      have q87 : A_.tmps[87]? = some (.bool true) := hI.val_ (i := 19) rfl rfl (by decide) (hdep ⟨19, .guard⟩ (by simp) rfl)
      have e90 : A_.tmps[90]?.getD undef = .agg #[.int .i64 yc, .int .i64 yh, .int .i64 yt, .int .i64 yk, .int .i64 yi] := getD_of (hI.val_ (i := 22) rfl rfl (by decide) (hdep ⟨22, .data⟩ (by simp) rfl))
      clear hI hdep
      exact .call ((wanted_some rfl rfl q87).trans rfl) 16 #[.agg #[.int .i64 yc, .int .i64 yh, .int .i64 yt, .int .i64 yk, .int .i64 yi]] (by simp [go_sem, Act.eval, e90]) ((H8.out w3 (HB.out.trans (hh.mono HB.out.size))).mono fun _ _ ⟨h1_, h2_⟩ => ⟨⟨_, h1_, rfl⟩, h2_⟩)
    · simp only [List.getElem?_toArray, List.getElem?_cons_succ, List.getElem?_cons_zero, Option.some.injEq] at ho
      subst ho
      refine ⟨rfl, ?_⟩
      have q87 : A_.tmps[87]? = some (.bool true) := hI.val_ (i := 19) rfl rfl (by decide) (hdep ⟨19, .guard⟩ (by simp) rfl)
      have e89 : A_.tmps[89]?.getD undef = .string s4 := getD_of (hI.val_ (i := 21) rfl rfl (by decide) (hdep ⟨21, .data⟩ (by simp) rfl))
      have e91 : A_.tmps[91]?.getD undef = .string s4 := getD_of (hI.val_ (i := 23) rfl rfl (by decide) (hdep ⟨23, .data⟩ (by simp) rfl))
      clear hI hdep
      exact .run ((wanted_some rfl rfl q87).trans rfl) (.bool true) w3 (by simp [execOp, go_sem, Act.eval, *]) (Below.refl _ _) rfl
    · simp only [List.getElem?_toArray, List.getElem?_cons_succ, List.getElem?_cons_zero, Option.some.injEq] at ho
      subst ho
      refine ⟨rfl, ?_⟩
      have e87 : A_.tmps[87]?.getD undef = .bool true := getD_of (hI.val_ (i := 19) rfl rfl (by decide) (hdep ⟨19, .data⟩ (by simp) rfl))
      have e92 : A_.tmps[92]?.getD undef = .bool true := getD_of (hI.val_ (i := 24) rfl rfl (by decide) (hdep ⟨24, .data⟩ (by simp) rfl))
      clear hI hdep
      exact .run rfl (.bool true) w3 (by simp [execOp, go_sem, Act.eval, e87, e92]) (Below.refl _ _) rfl
    · simp only [List.getElem?_toArray, List.getElem?_cons_succ, List.getElem?_cons_zero, Option.some.injEq] at ho
      subst ho
      refine ⟨rfl, ?_⟩
      have e93 : A_.tmps[93]?.getD undef = .bool true := getD_of (hI.val_ (i := 25) rfl rfl (by decide) (hdep ⟨25, .data⟩ (by simp) rfl))
      clear hI hdep
      exact .run rfl (.bool true) w3 (by simp [execOp, go_sem, Act.eval, e93]) (Below.refl _ _) rfl
    · simp only [List.getElem?_toArray, List.getElem?_cons_succ, List.getElem?_cons_zero, Option.some.injEq] at ho
      subst ho
      refine ⟨rfl, ?_⟩
      have q94 : A_.tmps[94]? = some (.bool true) := hI.val_ (i := 26) rfl rfl (by decide) (hdep ⟨26, .guard⟩ (by simp) rfl)
      clear hI hdep
      exact .call ((wanted_some rfl rfl q94).trans rfl) 10 #[] (by simp [go_sem]) ((HL.out w3 (HB.out.trans (hh.mono HB.out.size))).mono fun _ _ ⟨h1_, h2_⟩ => ⟨⟨_, h1_, rfl⟩, h2_⟩)
    · simp only [List.getElem?_toArray, List.getElem?_cons_succ, List.getElem?_cons_zero, Option.some.injEq] at ho
      subst ho
      refine ⟨rfl, ?_⟩
      have e94 : A_.tmps[94]?.getD undef = .bool true := getD_of (hI.val_ (i := 26) rfl rfl (by decide) (hdep ⟨26, .data⟩ (by simp) rfl))
      have e95 : A_.tmps[95]?.getD undef = .bool true := getD_of (hI.val_ (i := 27) rfl rfl (by decide) (hdep ⟨27, .data⟩ (by simp) rfl))
      clear hI hdep
      exact .run rfl (.bool true) w3 (by simp [execOp, go_sem, Act.eval, e94, e95]) (Below.refl _ _) rfl
    · simp only [List.getElem?_toArray, List.getElem?_cons_succ, List.getElem?_cons_zero, Option.some.injEq] at ho
      subst ho
      refine ⟨rfl, ?_⟩
      have e96 : A_.tmps[96]?.getD undef = .bool true := getD_of (hI.val_ (i := 28) rfl rfl (by decide) (hdep ⟨28, .data⟩ (by simp) rfl))
      clear hI hdep
      exact .run rfl (.bool true) w3 (by simp [execOp, go_sem, Act.eval, e96]) (Below.refl _ _) rfl
  case fin =>
  intro A_ w3 hs hd hlow hS hok
  obtain rfl : A_ = ⟨#[.agg #[.int .i64 ek, .int .i64 en, .int .i64 ea, .int .i64 ec, .int .i64 eh, .int .i64 et, .int .i64 ei, .int .i64 ep], .agg #[.int .i64 qc, .int .i64 qh, .int .i64 qt, .int .i64 qk, .int .i64 qi], .int .i64 n, .int .i64 m, .int .i64 at_, .int .i64 v, .pointer (some ⟨w.heap.size, 0, none⟩), .pointer (some ⟨w.heap.size + 1, 0, none⟩), undef, undef, undef, undef, .bool true, .pointer (some ⟨v1.heap.size, 0, none⟩), .pointer (some ⟨v2.heap.size, 0, none⟩), .int .i64 n, .int .i64 m, .agg #[.int .i64 xk, .int .i64 xn, .int .i64 xa, .int .i64 xc, .int .i64 xh, .int .i64 xt, .int .i64 xi, .int .i64 xp], .int .i64 n, .int .i64 m, .agg #[.int .i64 yc, .int .i64 yh, .int .i64 yt, .int .i64 yk, .int .i64 yi], .int .i64 at_, .int .i64 6, .int .i64 v, .pointer (some ⟨v1.heap.size, 3, none⟩), .pointer (some ⟨v1.heap.size, 7, none⟩), .bool false, .bool false, undef, undef, undef, undef, .bool false, .bool false, undef, undef, undef, undef, undef, .bool false, .bool false, undef, undef, undef, undef, undef, .bool false, .bool false, undef, undef, undef, undef, undef, undef, undef, .bool false, .bool false, undef, undef, undef, undef, undef, undef, .bool false, .bool false, undef, undef, undef, .agg #[.int .i64 ek, .int .i64 en, .int .i64 ea, .int .i64 ec, .int .i64 eh, .int .i64 et, .int .i64 ei, .int .i64 ep], .string s1, .agg #[.int .i64 ek, .int .i64 en, .int .i64 ea, .int .i64 ec, .int .i64 eh, .int .i64 et, .int .i64 ei, .int .i64 ep], .string s1, .bool true, .bool true, .agg #[.int .i64 xk, .int .i64 xn, .int .i64 xa, .int .i64 xc, .int .i64 xh, .int .i64 xt, .int .i64 xi, .int .i64 v], .string s2, .agg #[.int .i64 xk, .int .i64 xn, .int .i64 xa, .int .i64 xc, .int .i64 xh, .int .i64 xt, .int .i64 xi, .int .i64 v], .string s2, .bool true, .bool true, .bool true, .agg #[.int .i64 qc, .int .i64 qh, .int .i64 qt, .int .i64 qk, .int .i64 qi], .string s3, .agg #[.int .i64 qc, .int .i64 qh, .int .i64 qt, .int .i64 qk, .int .i64 qi], .string s3, .bool true, .bool true, .bool true, .agg #[.int .i64 yc, .int .i64 yh, .int .i64 yt, .int .i64 yk, .int .i64 yi], .string s4, .agg #[.int .i64 yc, .int .i64 yh, .int .i64 yt, .int .i64 yk, .int .i64 yi], .string s4, .bool true, .bool true, .bool true, .bool true, .bool true], []⟩ := act_ext hd hs (fun j hj => match j, hj with | 0, _ => (hlow 0 (by decide)).trans rfl | 1, _ => (hlow 1 (by decide)).trans rfl | 2, _ => (hlow 2 (by decide)).trans rfl | 3, _ => (hlow 3 (by decide)).trans rfl | 4, _ => (hlow 4 (by decide)).trans rfl | 5, _ => (hlow 5 (by decide)).trans rfl | 6, _ => (hlow 6 (by decide)).trans rfl | 7, _ => (hlow 7 (by decide)).trans rfl | 8, _ => (hlow 8 (by decide)).trans rfl | 9, _ => (hlow 9 (by decide)).trans rfl | 10, _ => (hlow 10 (by decide)).trans rfl | 11, _ => (hlow 11 (by decide)).trans rfl | 12, _ => RgX.val_at (hok 29 12 _ (by decide) rfl rfl) | 13, _ => (hlow 13 (by decide)).trans rfl | 14, _ => (hlow 14 (by decide)).trans rfl | 15, _ => (hlow 15 (by decide)).trans rfl | 16, _ => (hlow 16 (by decide)).trans rfl | 17, _ => (hlow 17 (by decide)).trans rfl | 18, _ => (hlow 18 (by decide)).trans rfl | 19, _ => (hlow 19 (by decide)).trans rfl | 20, _ => (hlow 20 (by decide)).trans rfl | 21, _ => (hlow 21 (by decide)).trans rfl | 22, _ => (hlow 22 (by decide)).trans rfl | 23, _ => (hlow 23 (by decide)).trans rfl | 24, _ => (hlow 24 (by decide)).trans rfl | 25, _ => (hlow 25 (by decide)).trans rfl | 26, _ => (hlow 26 (by decide)).trans rfl | 27, _ => (hlow 27 (by decide)).trans rfl | 28, _ => (hlow 28 (by decide)).trans rfl | 29, _ => (hlow 29 (by decide)).trans rfl | 30, _ => (hlow 30 (by decide)).trans rfl | 31, _ => (hlow 31 (by decide)).trans rfl | 32, _ => (hlow 32 (by decide)).trans rfl | 33, _ => (hlow 33 (by decide)).trans rfl | 34, _ => (hlow 34 (by decide)).trans rfl | 35, _ => (hlow 35 (by decide)).trans rfl | 36, _ => (hlow 36 (by decide)).trans rfl | 37, _ => (hlow 37 (by decide)).trans rfl | 38, _ => (hlow 38 (by decide)).trans rfl | 39, _ => (hlow 39 (by decide)).trans rfl | 40, _ => (hlow 40 (by decide)).trans rfl | 41, _ => (hlow 41 (by decide)).trans rfl | 42, _ => (hlow 42 (by decide)).trans rfl | 43, _ => (hlow 43 (by decide)).trans rfl | 44, _ => (hlow 44 (by decide)).trans rfl | 45, _ => (hlow 45 (by decide)).trans rfl | 46, _ => (hlow 46 (by decide)).trans rfl | 47, _ => (hlow 47 (by decide)).trans rfl | 48, _ => (hlow 48 (by decide)).trans rfl | 49, _ => (hlow 49 (by decide)).trans rfl | 50, _ => (hlow 50 (by decide)).trans rfl | 51, _ => (hlow 51 (by decide)).trans rfl | 52, _ => (hlow 52 (by decide)).trans rfl | 53, _ => (hlow 53 (by decide)).trans rfl | 54, _ => (hlow 54 (by decide)).trans rfl | 55, _ => (hlow 55 (by decide)).trans rfl | 56, _ => (hlow 56 (by decide)).trans rfl | 57, _ => (hlow 57 (by decide)).trans rfl | 58, _ => (hlow 58 (by decide)).trans rfl | 59, _ => (hlow 59 (by decide)).trans rfl | 60, _ => (hlow 60 (by decide)).trans rfl | 61, _ => (hlow 61 (by decide)).trans rfl | 62, _ => (hlow 62 (by decide)).trans rfl | 63, _ => (hlow 63 (by decide)).trans rfl | 64, _ => (hlow 64 (by decide)).trans rfl | 65, _ => (hlow 65 (by decide)).trans rfl | 66, _ => (hlow 66 (by decide)).trans rfl | 67, _ => (hlow 67 (by decide)).trans rfl | 68, _ => RgX.val_at (hok 0 68 _ (by decide) rfl rfl) | 69, _ => RgX.val_at (hok 1 69 _ (by decide) rfl rfl) | 70, _ => RgX.val_at (hok 2 70 _ (by decide) rfl rfl) | 71, _ => RgX.val_at (hok 3 71 _ (by decide) rfl rfl) | 72, _ => RgX.val_at (hok 4 72 _ (by decide) rfl rfl) | 73, _ => RgX.val_at (hok 5 73 _ (by decide) rfl rfl) | 74, _ => RgX.val_at (hok 6 74 _ (by decide) rfl rfl) | 75, _ => RgX.val_at (hok 7 75 _ (by decide) rfl rfl) | 76, _ => RgX.val_at (hok 8 76 _ (by decide) rfl rfl) | 77, _ => RgX.val_at (hok 9 77 _ (by decide) rfl rfl) | 78, _ => RgX.val_at (hok 10 78 _ (by decide) rfl rfl) | 79, _ => RgX.val_at (hok 11 79 _ (by decide) rfl rfl) | 80, _ => RgX.val_at (hok 12 80 _ (by decide) rfl rfl) | 81, _ => RgX.val_at (hok 13 81 _ (by decide) rfl rfl) | 82, _ => RgX.val_at (hok 14 82 _ (by decide) rfl rfl) | 83, _ => RgX.val_at (hok 15 83 _ (by decide) rfl rfl) | 84, _ => RgX.val_at (hok 16 84 _ (by decide) rfl rfl) | 85, _ => RgX.val_at (hok 17 85 _ (by decide) rfl rfl) | 86, _ => RgX.val_at (hok 18 86 _ (by decide) rfl rfl) | 87, _ => RgX.val_at (hok 19 87 _ (by decide) rfl rfl) | 88, _ => RgX.val_at (hok 20 88 _ (by decide) rfl rfl) | 89, _ => RgX.val_at (hok 21 89 _ (by decide) rfl rfl) | 90, _ => RgX.val_at (hok 22 90 _ (by decide) rfl rfl) | 91, _ => RgX.val_at (hok 23 91 _ (by decide) rfl rfl) | 92, _ => RgX.val_at (hok 24 92 _ (by decide) rfl rfl) | 93, _ => RgX.val_at (hok 25 93 _ (by decide) rfl rfl) | 94, _ => RgX.val_at (hok 26 94 _ (by decide) rfl rfl) | 95, _ => RgX.val_at (hok 27 95 _ (by decide) rfl rfl) | 96, _ => RgX.val_at (hok 28 96 _ (by decide) rfl rfl) | n + 97, h => absurd h (by show ¬ n + 97 < 97; omega))
  clear hs hd hlow hok 
  go_wp2_with fail
  go_ret
  exact ⟨rfl, HB.out.trans (hS.mono HB.out.size)⟩
theorem walk (ek en ea ec eh et ei ep qc qh qt qk qi n m at_ v : Int) (w : World) (wn : I64 n) (wm : I64 m) (wa : I64 at_) (_ : I64 v) (hT : TN w) :
    Calls Tryz.prog 4 #[.agg #[.int .i64 ek, .int .i64 en, .int .i64 ea, .int .i64 ec, .int .i64 eh, .int .i64 et, .int .i64 ei, .int .i64 ep], .agg #[.int .i64 qc, .int .i64 qh, .int .i64 qt, .int .i64 qk, .int .i64 qi], .int .i64 n, .int .i64 m, .int .i64 at_, .int .i64 v] w fun e w' => e = .returned (.bool true) ∧ Below w.heap.size w w' := by
  have HL := Lib.hid (fun (V : World) (hV : Below w.heap.size w V) => lives_any V (hT.below hV))
  have HA := Lib.hid (fun V => around_any at_ 7 wa (by omega) (by omega) V)
  have HG := Lib.hid (fun V => eventOf_any n m wn wm V)
  have HH := Lib.hid (fun V => questionOf_any n m wn wm V)
  obtain ⟨⟨xk, xn, xa, ⟨xc, xh, xt, xi, xp⟩⟩, hx⟩ : ∃ E, NM.evOf n m = E := ⟨_, rfl⟩
  obtain ⟨⟨yc, yh, yt, yk, yi⟩, hy⟩ : ∃ E, NM.quOf n m = E := ⟨_, rfl⟩
  rw [hx] at HG
  rw [hy] at HH
  have HE := fun (E : NM.Ev) => Lib.hid (fun (V : World) (hV : Below w.heap.size w V) => Event_any E V (hT.below hV))
  have HR := fun (E : NM.Ev) => Lib.hid (fun (V : World) (_ : Below w.heap.size w V) => refEvent_all E V)
  have HQ := fun (E : NM.Qu) => Lib.hid (fun (V : World) (hV : Below w.heap.size w V) => Question_any E V (hT.below hV))
  have HS := fun (E : NM.Qu) => Lib.hid (fun (V : World) (_ : Below w.heap.size w V) => refQuestion_all E V)
  have ha := around_in at_ 7 (by omega)
  have hc : around at_ 7 = 0 ∨ around at_ 7 = 1 ∨ around at_ 7 = 2 ∨ around at_ 7 = 3 ∨ around at_ 7 = 4 ∨ around at_ 7 = 5 ∨ around at_ 7 = 6 := by omega
  clear ha
  rcases hc with e | e | e | e | e | e | e <;> rw [e] at HA
  · exact walk_0 ek en ea ec eh et ei ep qc qh qt qk qi xk xn xa xc xh xt xi xp yc yh yt yk yi n m at_ v _ _ _ _ w HA HG HH (HE ⟨ek, en, ea, ⟨ec, eh, et, ei, ep⟩⟩) (HR ⟨ek, en, ea, ⟨ec, eh, et, ei, ep⟩⟩) (HE ⟨v, xn, xa, ⟨xc, xh, xt, xi, xp⟩⟩) (HR ⟨v, xn, xa, ⟨xc, xh, xt, xi, xp⟩⟩) (HQ ⟨qc, qh, qt, qk, qi⟩) (HS ⟨qc, qh, qt, qk, qi⟩) (HQ ⟨yc, yh, yt, v, yi⟩) (HS ⟨yc, yh, yt, v, yi⟩) HL
  · exact walk_1 ek en ea ec eh et ei ep qc qh qt qk qi xk xn xa xc xh xt xi xp yc yh yt yk yi n m at_ v _ _ _ _ w HA HG HH (HE ⟨ek, en, ea, ⟨ec, eh, et, ei, ep⟩⟩) (HR ⟨ek, en, ea, ⟨ec, eh, et, ei, ep⟩⟩) (HE ⟨xk, v, xa, ⟨xc, xh, xt, xi, xp⟩⟩) (HR ⟨xk, v, xa, ⟨xc, xh, xt, xi, xp⟩⟩) (HQ ⟨qc, qh, qt, qk, qi⟩) (HS ⟨qc, qh, qt, qk, qi⟩) (HQ ⟨v, yh, yt, yk, yi⟩) (HS ⟨v, yh, yt, yk, yi⟩) HL
  · exact walk_2 ek en ea ec eh et ei ep qc qh qt qk qi xk xn xa xc xh xt xi xp yc yh yt yk yi n m at_ v _ _ _ _ w HA HG HH (HE ⟨ek, en, ea, ⟨ec, eh, et, ei, ep⟩⟩) (HR ⟨ek, en, ea, ⟨ec, eh, et, ei, ep⟩⟩) (HE ⟨xk, xn, v, ⟨xc, xh, xt, xi, xp⟩⟩) (HR ⟨xk, xn, v, ⟨xc, xh, xt, xi, xp⟩⟩) (HQ ⟨qc, qh, qt, qk, qi⟩) (HS ⟨qc, qh, qt, qk, qi⟩) (HQ ⟨yc, v, yt, yk, yi⟩) (HS ⟨yc, v, yt, yk, yi⟩) HL
  · exact walk_3 ek en ea ec eh et ei ep qc qh qt qk qi xk xn xa xc xh xt xi xp yc yh yt yk yi n m at_ v _ _ _ _ w HA HG HH (HE ⟨ek, en, ea, ⟨ec, eh, et, ei, ep⟩⟩) (HR ⟨ek, en, ea, ⟨ec, eh, et, ei, ep⟩⟩) (HE ⟨xk, xn, xa, ⟨v, xh, xt, xi, xp⟩⟩) (HR ⟨xk, xn, xa, ⟨v, xh, xt, xi, xp⟩⟩) (HQ ⟨qc, qh, qt, qk, qi⟩) (HS ⟨qc, qh, qt, qk, qi⟩) (HQ ⟨yc, yh, v, yk, yi⟩) (HS ⟨yc, yh, v, yk, yi⟩) HL
  · exact walk_4 ek en ea ec eh et ei ep qc qh qt qk qi xk xn xa xc xh xt xi xp yc yh yt yk yi n m at_ v _ _ _ _ w HA HG HH (HE ⟨ek, en, ea, ⟨ec, eh, et, ei, ep⟩⟩) (HR ⟨ek, en, ea, ⟨ec, eh, et, ei, ep⟩⟩) (HE ⟨xk, xn, xa, ⟨xc, v, xt, xi, xp⟩⟩) (HR ⟨xk, xn, xa, ⟨xc, v, xt, xi, xp⟩⟩) (HQ ⟨qc, qh, qt, qk, qi⟩) (HS ⟨qc, qh, qt, qk, qi⟩) (HQ ⟨yc, yh, yt, yk, v⟩) (HS ⟨yc, yh, yt, yk, v⟩) HL
  · exact walk_5 ek en ea ec eh et ei ep qc qh qt qk qi xk xn xa xc xh xt xi xp yc yh yt yk yi n m at_ v _ _ _ _ w HA HG HH (HE ⟨ek, en, ea, ⟨ec, eh, et, ei, ep⟩⟩) (HR ⟨ek, en, ea, ⟨ec, eh, et, ei, ep⟩⟩) (HE ⟨xk, xn, xa, ⟨xc, xh, xt, v, xp⟩⟩) (HR ⟨xk, xn, xa, ⟨xc, xh, xt, v, xp⟩⟩) (HQ ⟨qc, qh, qt, qk, qi⟩) (HS ⟨qc, qh, qt, qk, qi⟩) (HQ ⟨yc, yh, yt, yk, yi⟩) (HS ⟨yc, yh, yt, yk, yi⟩) HL
  · exact walk_6 ek en ea ec eh et ei ep qc qh qt qk qi xk xn xa xc xh xt xi xp yc yh yt yk yi n m at_ v _ _ _ _ w HA HG HH (HE ⟨ek, en, ea, ⟨ec, eh, et, ei, ep⟩⟩) (HR ⟨ek, en, ea, ⟨ec, eh, et, ei, ep⟩⟩) (HE ⟨xk, xn, xa, ⟨xc, xh, xt, xi, v⟩⟩) (HR ⟨xk, xn, xa, ⟨xc, xh, xt, xi, v⟩⟩) (HQ ⟨qc, qh, qt, qk, qi⟩) (HS ⟨qc, qh, qt, qk, qi⟩) (HQ ⟨yc, yh, yt, yk, yi⟩) (HS ⟨yc, yh, yt, yk, yi⟩) HL
end Go.Proofs.YtggallpnbbidfaaGreatDoor.LawNamesIllFormed
