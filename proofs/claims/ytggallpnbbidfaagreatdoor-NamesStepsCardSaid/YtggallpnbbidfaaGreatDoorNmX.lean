/-
  The texts of messages, events and questions. Condition: the listed tables and variables stand (TN).
-/
import Derived.Test.YtggallpnbbidfaaGreatDoorNmF
import Derived.Test.YtggallpnbbidfaaGreatDoorRgS
namespace Go.Proofs.YtggallpnbbidfaaGreatDoor
open Go Go.RowKit Go.Proofs
attribute [local go_sem] Oper.semAt_some

theorem bs_add (a b : NM.Bs) : NM.bs a ++ NM.bs b = NM.bs (a ++ b) := by
  apply ByteArray.ext
  simp [NM.bs]
theorem bs_size (a : NM.Bs) : (NM.bs a).size = a.length := by
  show a.toArray.size = _
  simp
set_option maxHeartbeats 1000000 in
set_option maxRecDepth 100000 in
theorem causeText_any (c h t : Int) (w : World) (hc : NM.Nn c) (hh : NM.Nn h) (ht : NM.Nn t) (hT : TN w) : Calls Tryz.prog 41 #[.agg #[.int .i64 c, .int .i64 h, .int .i64 t]] w fun e w' => e = .returned (.string (NM.bs (NM.dots [c, h, t]))) ∧ Below w.heap.size w w' := by
  have HD := Lib.hid (dotted_any [c, h, t] ((w.alloc (.cells #[.int .i64 c, .int .i64 h, .int .i64 t] 24)).alloc (.cells #[.int .i64 c, .int .i64 h, .int .i64 t] 3)) (g := w.heap.size + 1) (n := 3) (t := 3) (new_at (by simp)) rfl (by omega) (by omega) (by intro x hx; simp at hx; rcases hx with rfl | rfl | rfl <;> assumption) (hT.below (((Below.refl _ _).alloc (Nat.le_refl _) _).alloc (by simp) _)))
  clear hc hh ht hT
  go_enter Tryz.func41, Tryz.ntmps41
  go_wp2_with fail
  refine HD.out.mono ?_
  rintro e w1 ⟨rfl, hb⟩
  have HB := Lib.hid hb
  clear hb HD
  go_wp2_with fail
  go_ret
  exact ⟨rfl, (((Below.refl _ _).alloc (Nat.le_refl _) _).alloc (by simp) _).trans (HB.out.mono (by simp; omega))⟩
set_option maxHeartbeats 4000000 in
set_option maxRecDepth 100000 in
theorem msgText_any (m : NM.Ms) (w : World) (hm : NM.okM m = true) (hT : TN w) : Calls Tryz.prog 33 #[msV m] w fun e w' => e = .returned (.string (NM.bs (NM.dots (NM.msL m)))) ∧ Below w.heap.size w w' := by
  obtain ⟨c, h, t, i, p⟩ := m
  obtain ⟨⟨hc, hh, ht⟩, hi, hp⟩ := NM.okM_iff.1 hm
  have hall : ∀ x ∈ NM.msL ⟨c, h, t, i, p⟩, NM.Nn x := by
    intro x hx
    simp only [NM.msL, List.mem_cons, List.not_mem_nil, or_false] at hx
    rcases hx with rfl | rfl | rfl | rfl | rfl
    · exact NM.nn_small hc.1 hc.2 (by decide)
    · exact NM.nn_small hh.1 hh.2 (by decide)
    · exact ht
    · exact hi
    · exact hp
  have hl1 := NM.dots_len [c, h, t] (fun x hx => hall x (by simp [NM.msL] at hx ⊢; rcases hx with rfl | rfl | rfl <;> simp))
  have hl2 := NM.dots_len [i, p] (fun x hx => hall x (by simp [NM.msL] at hx ⊢; rcases hx with rfl | rfl <;> simp))
  have hcat : NM.bs (NM.dots [c, h, t]) ++ ⟨#[46]⟩ ++ NM.bs (NM.dots [i, p]) = NM.bs (NM.dots (NM.msL ⟨c, h, t, i, p⟩)) := by
    rw [show (⟨#[46]⟩ : ByteArray) = NM.bs [46] from rfl, bs_add, bs_add, List.append_assoc, List.singleton_append, NM.dots_join _ _ (by simp) (by simp)]
    rfl
  obtain ⟨U, hU⟩ : ∃ U, w.alloc (.cells #[.int .i64 c, .int .i64 h, .int .i64 t, .int .i64 i, .int .i64 p] 26) = U := ⟨_, rfl⟩
  have hb : Below w.heap.size w U := hU ▸ one_box w _
  have hlt : w.heap.size < U.heap.size := by rw [← hU]; simp
  have k1 : U.heap[w.heap.size]? = some (.cells #[.int .i64 c, .int .i64 h, .int .i64 t, .int .i64 i, .int .i64 p] 26 (0, 0)) := by rw [← hU]; exact new_at rfl
  have HK := Lib.hid (fun (V : World) (hV : Below U.heap.size U V) => row5 ((hV.block _ hlt).trans k1))
  have HT := Lib.hid (fun (V : World) (hV : Below U.heap.size U V) => (hT.below hb).below hV)
  have HC := Lib.hid (fun (V : World) (hV : Below U.heap.size U V) => causeText_any c h t V (hall c (by simp [NM.msL])) (hall h (by simp [NM.msL])) (hall t (by simp [NM.msL])) (HT.out V hV))
  have HD := Lib.hid (fun (V : World) (g : Nat) (hV : Below U.heap.size U V) (hg : V.heap[g]? = some (.cells #[.int .i64 i, .int .i64 p] 3 (0, 0))) => dotted_any [i, p] V (n := 2) hg rfl (by omega) (by omega) (fun x hx => hall x (by simp [NM.msL] at hx ⊢; rcases hx with rfl | rfl <;> simp)) (HT.out V hV))
  rw [← hcat]
  obtain ⟨s1, hs1⟩ : ∃ s, NM.bs (NM.dots [c, h, t]) = s := ⟨_, rfl⟩
  obtain ⟨s2, hs2⟩ : ∃ s, NM.bs (NM.dots [i, p]) = s := ⟨_, rfl⟩
  have z1 : s1.size ≤ 100 := by rw [← hs1, bs_size]; simp only [List.length_cons, List.length_nil] at hl1; omega
  have z2 : s2.size ≤ 100 := by rw [← hs2, bs_size]; simp only [List.length_cons, List.length_nil] at hl2; omega
  have z3 : ¬ (9223372036854775807 < s1.size + 1) := by omega
  have z4 : ¬ (9223372036854775807 < s1.size + 1 + s2.size) := by omega
  rw [hs1] at HC
  rw [hs2] at HD
  rw [hs1, hs2]
  have HB := Lib.hid hb
  have HU := Lib.hid hU
  clear hc hh ht hi hp hall hl1 hl2 hcat hs1 hs2 hU hb hT k1 hm
  show Calls Tryz.prog _ #[.agg #[.int .i64 c, .int .i64 h, .int .i64 t, .int .i64 i, .int .i64 p]] w _
  go_enter Tryz.func33, Tryz.ntmps33
  go_wp2_with fail
  rw [HU.out]
  clear HU
  refine region_specs 12 (fun i => (if i = 11 then 2 else 3 + i)) (fun ix_ => match ix_ with | 0 => .val (.pointer (some ⟨w.heap.size, 0, none⟩)) | 1 => .val (.agg #[.int .i64 c, .int .i64 h, .int .i64 t]) | 2 => .val (.string s1) | 3 => .val (.string (s1 ++ (⟨#[46]⟩ : ByteArray))) | 4 => .val (.pointer (some ⟨w.heap.size, 3, none⟩)) | 5 => .val (.int .i64 i) | 6 => .val (.pointer (some ⟨w.heap.size, 4, none⟩)) | 7 => .val (.int .i64 p) | 8 => .row #[.int .i64 i, .int .i64 p] 3 2 | 9 => .val (.string s2) | 10 => .val (.string (s1 ++ (⟨#[46]⟩ : ByteArray) ++ s2)) | 11 => .val (.string (s1 ++ (⟨#[46]⟩ : ByteArray) ++ s2)) | _ => .val undef) (by kernel_rfl) rfl (by kernel_rfl) (fun i hi => by show (if i = 11 then 2 else 3 + i) < 14; (repeat' split) <;> omega) (fun i j hi hj => by show (if i = 11 then 2 else 3 + i) = (if j = 11 then 2 else 3 + j) → i = j; (repeat' split) <;> omega) ?step ?fin
  case step =>
    intro listed A_ w3 ix op_ hI ho hdep
    have hi : ix < 12 := (Array.getElem?_eq_some_iff.1 ho).1
    have hcase : ix = 0 ∨ ix = 1 ∨ ix = 2 ∨ ix = 3 ∨ ix = 4 ∨ ix = 5 ∨ ix = 6 ∨ ix = 7 ∨ ix = 8 ∨ ix = 9 ∨ ix = 10 ∨ ix = 11 := by omega
    have hh := hI.held
    clear hi
    rcases hcase with rfl | rfl | rfl | rfl | rfl | rfl | rfl | rfl | rfl | rfl | rfl | rfl
    · simp only [List.getElem?_toArray, List.getElem?_cons_zero, Option.some.injEq] at ho
      subst ho
      refine ⟨rfl, ?_⟩
      have e1 : A_.tmps[1]?.getD undef = .pointer (some ⟨w.heap.size, 0, none⟩) := by rw [hI.low 1 (by decide)]; rfl
      clear hI hdep
      exact .run rfl (.pointer (some ⟨w.heap.size, 0, none⟩)) w3 (by simp [execOp, go_sem, Act.eval, e1]) (Below.refl _ _) rfl
    · simp only [List.getElem?_toArray, List.getElem?_cons_succ, List.getElem?_cons_zero, Option.some.injEq] at ho
      subst ho
      refine ⟨rfl, ?_⟩
      have e3 : A_.tmps[3]?.getD undef = .pointer (some ⟨w.heap.size, 0, none⟩) := getD_of (hI.val_ (i := 0) rfl rfl (by decide) (hdep ⟨0, .data⟩ (by simp) rfl))
      clear hI hdep
      obtain ⟨d0, d1, d2, d3, d4⟩ := HK.out w3 hh
      exact .run rfl (.agg #[.int .i64 c, .int .i64 h, .int .i64 t]) w3 (by simp [execOp, go_sem, Act.eval, *]) (Below.refl _ _) rfl
    · simp only [List.getElem?_toArray, List.getElem?_cons_succ, List.getElem?_cons_zero, Option.some.injEq] at ho
      subst ho
      refine ⟨rfl, ?_⟩
      have e4 : A_.tmps[4]?.getD undef = .agg #[.int .i64 c, .int .i64 h, .int .i64 t] := getD_of (hI.val_ (i := 1) rfl rfl (by decide) (hdep ⟨1, .data⟩ (by simp) rfl))
      clear hI hdep
      exact .call rfl 41 #[.agg #[.int .i64 c, .int .i64 h, .int .i64 t]] (.string s1) (by simp [go_sem, Act.eval, e4]) rfl (HC.out w3 hh)
    · simp only [List.getElem?_toArray, List.getElem?_cons_succ, List.getElem?_cons_zero, Option.some.injEq] at ho
      subst ho
      refine ⟨rfl, ?_⟩
      have e5 : A_.tmps[5]?.getD undef = .string s1 := getD_of (hI.val_ (i := 2) rfl rfl (by decide) (hdep ⟨2, .data⟩ (by simp) rfl))
      clear hI hdep
      exact .run rfl (.string (s1 ++ (⟨#[46]⟩ : ByteArray))) w3 (by simp [execOp, go_sem, Act.eval, *]) (Below.refl _ _) rfl
    · simp only [List.getElem?_toArray, List.getElem?_cons_succ, List.getElem?_cons_zero, Option.some.injEq] at ho
      subst ho
      refine ⟨rfl, ?_⟩
      have e1 : A_.tmps[1]?.getD undef = .pointer (some ⟨w.heap.size, 0, none⟩) := by rw [hI.low 1 (by decide)]; rfl
      clear hI hdep
      exact .run rfl (.pointer (some ⟨w.heap.size, 3, none⟩)) w3 (by simp [execOp, go_sem, Act.eval, e1]) (Below.refl _ _) rfl
    · simp only [List.getElem?_toArray, List.getElem?_cons_succ, List.getElem?_cons_zero, Option.some.injEq] at ho
      subst ho
      refine ⟨rfl, ?_⟩
      have e7 : A_.tmps[7]?.getD undef = .pointer (some ⟨w.heap.size, 3, none⟩) := getD_of (hI.val_ (i := 4) rfl rfl (by decide) (hdep ⟨4, .data⟩ (by simp) rfl))
      clear hI hdep
      obtain ⟨d0, d1, d2, d3, d4⟩ := HK.out w3 hh
      exact .run rfl (.int .i64 i) w3 (by simp [execOp, go_sem, Act.eval, *]) (Below.refl _ _) rfl
    · simp only [List.getElem?_toArray, List.getElem?_cons_succ, List.getElem?_cons_zero, Option.some.injEq] at ho
      subst ho
      refine ⟨rfl, ?_⟩
      have e1 : A_.tmps[1]?.getD undef = .pointer (some ⟨w.heap.size, 0, none⟩) := by rw [hI.low 1 (by decide)]; rfl
      clear hI hdep
      exact .run rfl (.pointer (some ⟨w.heap.size, 4, none⟩)) w3 (by simp [execOp, go_sem, Act.eval, e1]) (Below.refl _ _) rfl
    · simp only [List.getElem?_toArray, List.getElem?_cons_succ, List.getElem?_cons_zero, Option.some.injEq] at ho
      subst ho
      refine ⟨rfl, ?_⟩
      have e9 : A_.tmps[9]?.getD undef = .pointer (some ⟨w.heap.size, 4, none⟩) := getD_of (hI.val_ (i := 6) rfl rfl (by decide) (hdep ⟨6, .data⟩ (by simp) rfl))
      clear hI hdep
      obtain ⟨d0, d1, d2, d3, d4⟩ := HK.out w3 hh
      exact .run rfl (.int .i64 p) w3 (by simp [execOp, go_sem, Act.eval, *]) (Below.refl _ _) rfl
    · simp only [List.getElem?_toArray, List.getElem?_cons_succ, List.getElem?_cons_zero, Option.some.injEq] at ho
      subst ho
      refine ⟨rfl, ?_⟩
      have e8 : A_.tmps[8]?.getD undef = .int .i64 i := getD_of (hI.val_ (i := 5) rfl rfl (by decide) (hdep ⟨5, .data⟩ (by simp) rfl))
      have e10 : A_.tmps[10]?.getD undef = .int .i64 p := getD_of (hI.val_ (i := 7) rfl rfl (by decide) (hdep ⟨7, .data⟩ (by simp) rfl))
      clear hI hdep
      exact .run rfl (.slice (some ⟨w3.heap.size, 0, none⟩) 2 2) (w3.alloc (.cells #[.int .i64 i, .int .i64 p] 3)) (by simp [execOp, go_sem, Act.eval, e8, e10]) ((Below.refl _ _).alloc (Nat.le_refl _) _) (new_row _ _ _ _)
    · simp only [List.getElem?_toArray, List.getElem?_cons_succ, List.getElem?_cons_zero, Option.some.injEq] at ho
      subst ho
      refine ⟨rfl, ?_⟩
      obtain ⟨g11, e11, r11⟩ := hI.row_ (i := 8) (j := 11) rfl rfl (by decide) (hdep ⟨8, .data⟩ (by simp) rfl)
      clear hI hdep
      exact .call rfl 32 #[.slice (some ⟨g11, 0, none⟩) 2 2] (.string s2) (by simp [go_sem, Act.eval, e11]) rfl (HD.out w3 g11 hh r11)
    · simp only [List.getElem?_toArray, List.getElem?_cons_succ, List.getElem?_cons_zero, Option.some.injEq] at ho
      subst ho
      refine ⟨rfl, ?_⟩
      have e6 : A_.tmps[6]?.getD undef = .string (s1 ++ (⟨#[46]⟩ : ByteArray)) := getD_of (hI.val_ (i := 3) rfl rfl (by decide) (hdep ⟨3, .data⟩ (by simp) rfl))
      have e12 : A_.tmps[12]?.getD undef = .string s2 := getD_of (hI.val_ (i := 9) rfl rfl (by decide) (hdep ⟨9, .data⟩ (by simp) rfl))
      clear hI hdep
      exact .run rfl (.string (s1 ++ (⟨#[46]⟩ : ByteArray) ++ s2)) w3 (by simp [execOp, go_sem, Act.eval, *]) (Below.refl _ _) rfl
    · simp only [List.getElem?_toArray, List.getElem?_cons_succ, List.getElem?_cons_zero, Option.some.injEq] at ho
      subst ho
      refine ⟨rfl, ?_⟩
      have e13 : A_.tmps[13]?.getD undef = .string (s1 ++ (⟨#[46]⟩ : ByteArray) ++ s2) := getD_of (hI.val_ (i := 10) rfl rfl (by decide) (hdep ⟨10, .data⟩ (by simp) rfl))
      clear hI hdep
      exact .run rfl (.string (s1 ++ (⟨#[46]⟩ : ByteArray) ++ s2)) w3 (by simp [execOp, go_sem, Act.eval, e13]) (Below.refl _ _) rfl
  case fin =>
  intro A_ w3 hs hd hlow hS hok
  obtain ⟨y11, hy11⟩ := row_at (hok 8 11 _ (by decide) rfl rfl)
  obtain rfl : A_ = ⟨#[.agg #[.int .i64 c, .int .i64 h, .int .i64 t, .int .i64 i, .int .i64 p], .pointer (some ⟨w.heap.size, 0, none⟩), .string (s1 ++ (⟨#[46]⟩ : ByteArray) ++ s2), .pointer (some ⟨w.heap.size, 0, none⟩), .agg #[.int .i64 c, .int .i64 h, .int .i64 t], .string s1, .string (s1 ++ (⟨#[46]⟩ : ByteArray)), .pointer (some ⟨w.heap.size, 3, none⟩), .int .i64 i, .pointer (some ⟨w.heap.size, 4, none⟩), .int .i64 p, y11, .string s2, .string (s1 ++ (⟨#[46]⟩ : ByteArray) ++ s2)], []⟩ := act_ext hd hs (fun j hj => match j, hj with | 0, _ => (hlow 0 (by decide)).trans rfl | 1, _ => (hlow 1 (by decide)).trans rfl | 2, _ => val_at (hok 11 2 _ (by decide) rfl rfl) | 3, _ => val_at (hok 0 3 _ (by decide) rfl rfl) | 4, _ => val_at (hok 1 4 _ (by decide) rfl rfl) | 5, _ => val_at (hok 2 5 _ (by decide) rfl rfl) | 6, _ => val_at (hok 3 6 _ (by decide) rfl rfl) | 7, _ => val_at (hok 4 7 _ (by decide) rfl rfl) | 8, _ => val_at (hok 5 8 _ (by decide) rfl rfl) | 9, _ => val_at (hok 6 9 _ (by decide) rfl rfl) | 10, _ => val_at (hok 7 10 _ (by decide) rfl rfl) | 11, _ => hy11 | 12, _ => val_at (hok 9 12 _ (by decide) rfl rfl) | 13, _ => val_at (hok 10 13 _ (by decide) rfl rfl) | n + 14, h => absurd h (by show ¬ n + 14 < 14; omega))
  clear hs hd hlow hok hy11
  go_wp2_with fail
  go_ret
  exact ⟨rfl, HB.out.trans (hS.mono HB.out.size)⟩
end Go.Proofs.YtggallpnbbidfaaGreatDoor
