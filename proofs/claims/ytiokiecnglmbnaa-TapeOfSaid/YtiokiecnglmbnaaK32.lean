/-
  The laws' cut: at most six events and six answers of a tape that came in. No condition.
-/
import Derived.Test.YtiokiecnglmbnaaK29
import Derived.Test.YtiokiecnglmbnaaK21
import Derived.Test.YtiokiecnglmbnaaK31
import Derived.Test.YtiokiecnglmbnaaK15
import Derived.Test.YtiokiecnglmbnaaK18
import Derived.Deep.Cut

namespace Go.Proofs.Ytiokiecnglmbnaa
open Go Go.RowKit Go.Proofs
attribute [local go_sem] Oper.semAt_some

theorem info_evC : (Try.prog.info? 47).map (fun i => (i.zero, i.size, i.bytes)) = some (some (.agg #[.int .i64 0, .int .i64 0, .int .i64 0, .int .i64 0, .int .i64 0, .int .i64 0, .int .i64 0, .int .i64 0]), 8, 64) := by kernel_rfl
theorem info_anC : (Try.prog.info? 71).map (fun i => (i.zero, i.size, i.bytes)) = some (some (.agg #[.int .i64 0, .int .i64 0, .int .i64 0, .int .i64 0, .int .i64 0, .int .i64 0]), 6, 48) := by kernel_rfl
theorem size_evs : (Try.prog.info? 23).map (·.size) = some 1 := by kernel_rfl
theorem size_ansC : (Try.prog.info? 24).map (·.size) = some 1 := by kernel_rfl
theorem size_tapeC : (Try.prog.info? 26).map (·.size) = some 2 := by kernel_rfl
theorem row2C {V : World} {g : Nat} {t : TypeId} {x0 x1 : Value} (h : V.heap[g]? = some (.cells #[x0, x1] t (0, 0))) : V.cell? ⟨g, 0, none⟩ = some x0 ∧ V.cell? ⟨g, 1, none⟩ = some x1 := ⟨cell_of_row _ _ 0 _ _ (0, 0) h, cell_of_row _ _ 1 _ _ (0, 0) h⟩
theorem min_six (n : Nat) : ∃ k : Nat, min 6 (n : Int) = (k : Int) ∧ k ≤ n ∧ k ≤ 6 ∧ k = min 6 n := ⟨min 6 n, by omega, by omega, by omega, rfl⟩
set_option maxHeartbeats 4000000 in
set_option maxRecDepth 100000 in
theorem cut_any {E A : Option Addr} {ne ce na ca : Nat} {es : List NM.Ev} {l : List TP.An} (w : World) (he : RawR evE w E ne ce es) (ha : RawR anE w A na ca l) :
    Calls Try.prog 13 #[.agg #[.slice E ne ce, .slice A na ca]] w fun e w' => (∃ v, e = .returned v ∧ TapeN w.heap.size w' v (es.take 6) (l.take 6)) ∧ Below w.heap.size w w' := by
  obtain ⟨i0, hi0, hz0, hs0, hb0⟩ := RgX.info_split info_evC
  obtain ⟨i1, hi1, hz1, hs1, hb1⟩ := RgX.info_split info_anC
  obtain ⟨p, hp, hpn, hp6, hpm⟩ := min_six ne
  obtain ⟨q, hq, hqn, hq6, hqm⟩ := min_six na
  have hes : es.take 6 = es.take p := by rw [hpm, ← he.1]; simp [List.take_eq_take_iff]
  have hls : l.take 6 = l.take q := by rw [hqm, ← ha.1]; simp [List.take_eq_take_iff]
  rw [hes, hls]
  have hpl : (es.take p).length = p := by rw [List.length_take, he.1]; omega
  have hql : (l.take q).length = q := by rw [List.length_take, ha.1]; omega
  have hpc : p ≤ ce := by have := he.2.1; omega
  have hqc : q ≤ ca := by have := ha.2.1; omega
  obtain ⟨U, hU⟩ : ∃ U, ((w.alloc (.cells #[.slice E ne ce, .slice A na ca] 26)).alloc (.cells #[.slice none 0 0, .slice none 0 0] 26)).alloc (.cells #[.slice none 0 0, .slice none 0 0] 26) = U := ⟨_, rfl⟩
  have hsU : U.heap.size = w.heap.size + 1 + 1 + 1 := by rw [← hU]; simp
  have hb : Below w.heap.size w U := by rw [← hU]; exact (((Below.refl _ w).alloc (Nat.le_refl _) _).alloc (by simp) _).alloc (by simp; omega) _
  have k1 : U.heap[w.heap.size]? = some (.cells #[.slice E ne ce, .slice A na ca] 26 (0, 0)) := by
    rw [← hU, Below.heap_alloc _ _ _ (by simp; omega), Below.heap_alloc _ _ _ (by simp)]; exact new_at rfl
  have k2 : U.heap[w.heap.size + 1]? = some (.cells #[.slice none 0 0, .slice none 0 0] 26 (0, 0)) := by
    rw [← hU, Below.heap_alloc _ _ _ (by simp)]; exact new_at (by simp)
  have k3 : U.heap[w.heap.size + 1 + 1]? = some (.cells #[.slice none 0 0, .slice none 0 0] 26 (0, 0)) := by rw [← hU]; exact new_at (by simp)
  have HE := Lib.hid (fun (V : World) (hV : Below U.heap.size U V) => (he.keep hb).keep hV)
  have HA := Lib.hid (fun (V : World) (hV : Below U.heap.size U V) => (ha.keep hb).keep hV)
  have HAW := Lib.hid ha
  have HK1 := Lib.hid k1
  have HK2 := Lib.hid k2
  have HK3 := Lib.hid k3
  have HB := Lib.hid hb
  have HSU := Lib.hid hsU
  have HP := Lib.hid (And.intro hp hpl)
  have HQ := Lib.hid (And.intro hq hql)
  clear k1 k2 k3 hb he ha hes hls hpl hql hp hq hpm hqm hsU
  go_enter Try.func13, Try.ntmps13
  go_upto_region 2 with (fail)
  try rw [hU]
  clear hU
  have HC := Lib.hid (fun (V : World) (hV : Below U.heap.size U V) => And.intro (row2C ((hV.block _ (by have := HSU.out; omega)).trans HK1.out)) (row2C ((hV.block _ (by have := HSU.out; omega)).trans HK3.out)))
  refine RgX.tail2 11 9 (fun i => ( 4 + i)) (fun ix_ => match ix_ with | 0 => .v (.pointer (some ⟨w.heap.size + 1 + 1, 0, none⟩)) | 1 => .v (.slice none 0 0) | 2 => .v (.pointer (some ⟨w.heap.size, 0, none⟩)) | 3 => .v (.slice E ne ce) | 4 => .v (.pointer (some ⟨w.heap.size, 0, none⟩)) | 5 => .v (.slice E ne ce) | 6 => .v (.int .i64 (ne : Int)) | 7 => .v (.int .i64 (p : Int)) | 8 => .v (.slice E p ce) | 9 => .any | 10 => .v (.pointer (some ⟨w.heap.size + 1 + 1, 0, none⟩)) | _ => .any) [10] (fun ix_ => match ix_ with | 10 => .pointer (some ⟨w.heap.size + 1 + 1, 0, none⟩) | _ => undef) _ _ (fun v w' => ∃ (B' : Option Addr) (c' : Nat), v = .slice B' p c' ∧ w'.ownsRow U.heap.size 47 8 (.slice B' p c') p (RS.flat evE (es.take p)) ∧ Below U.heap.size U w') (by kernel_rfl) rfl rfl (by decide) rfl (by kernel_rfl) (by kernel_rfl) (by kernel_rfl) (by decide) (fun i hi => by show ( 4 + i) < 27; (repeat' split) <;> omega) (fun i j hi hj => by show ( 4 + i) = ( 4 + j) → i = j; (repeat' split) <;> omega) ?step ?app ?flo ?hF ?fin
  case step =>
    intro L_ A_ w3 ix op_ hi hnA hI ho hdep
    have hcase : ix = 0 ∨ ix = 1 ∨ ix = 2 ∨ ix = 3 ∨ ix = 4 ∨ ix = 5 ∨ ix = 6 ∨ ix = 7 ∨ ix = 8 ∨ ix = 10 := by omega
    have hh := hI.held
    clear hi hnA
    rcases hcase with rfl | rfl | rfl | rfl | rfl | rfl | rfl | rfl | rfl | rfl
    · simp only [List.getElem?_toArray, List.getElem?_cons_zero, Option.some.injEq] at ho
      subst ho
      refine ⟨rfl, ?_⟩
      have e3 : A_.tmps[3]?.getD undef = .pointer (some ⟨w.heap.size + 1 + 1, 0, none⟩) := by rw [hI.low 3 (by decide)]; rfl
      clear hI hdep
      exact .run rfl (.pointer (some ⟨w.heap.size + 1 + 1, 0, none⟩)) w3 (by simp [execOp, go_sem, Act.eval, e3]) (Below.refl _ _) rfl
    · simp only [List.getElem?_toArray, List.getElem?_cons_succ, List.getElem?_cons_zero, Option.some.injEq] at ho
      subst ho
      refine ⟨rfl, ?_⟩
      have e4 : A_.tmps[4]?.getD undef = .pointer (some ⟨w.heap.size + 1 + 1, 0, none⟩) := getD_of (hI.val_ (i := 0) rfl rfl (by decide) (hdep ⟨0, .data⟩ (by simp) rfl))
      clear hI hdep
      obtain ⟨⟨a0, a1⟩, b0, b1⟩ := HC.out w3 hh
      exact .run rfl (.slice none 0 0) w3 (by simp [execOp, go_sem, Act.eval, *]) (Below.refl _ _) rfl
    · simp only [List.getElem?_toArray, List.getElem?_cons_succ, List.getElem?_cons_zero, Option.some.injEq] at ho
      subst ho
      refine ⟨rfl, ?_⟩
      have e1 : A_.tmps[1]?.getD undef = .pointer (some ⟨w.heap.size, 0, none⟩) := by rw [hI.low 1 (by decide)]; rfl
      clear hI hdep
      exact .run rfl (.pointer (some ⟨w.heap.size, 0, none⟩)) w3 (by simp [execOp, go_sem, Act.eval, e1]) (Below.refl _ _) rfl
    · simp only [List.getElem?_toArray, List.getElem?_cons_succ, List.getElem?_cons_zero, Option.some.injEq] at ho
      subst ho
      refine ⟨rfl, ?_⟩
      have e6 : A_.tmps[6]?.getD undef = .pointer (some ⟨w.heap.size, 0, none⟩) := getD_of (hI.val_ (i := 2) rfl rfl (by decide) (hdep ⟨2, .data⟩ (by simp) rfl))
      clear hI hdep
      obtain ⟨⟨a0, a1⟩, b0, b1⟩ := HC.out w3 hh
      exact .run rfl (.slice E ne ce) w3 (by simp [execOp, go_sem, Act.eval, *]) (Below.refl _ _) rfl
    · simp only [List.getElem?_toArray, List.getElem?_cons_succ, List.getElem?_cons_zero, Option.some.injEq] at ho
      subst ho
      refine ⟨rfl, ?_⟩
      have e1 : A_.tmps[1]?.getD undef = .pointer (some ⟨w.heap.size, 0, none⟩) := by rw [hI.low 1 (by decide)]; rfl
      clear hI hdep
      exact .run rfl (.pointer (some ⟨w.heap.size, 0, none⟩)) w3 (by simp [execOp, go_sem, Act.eval, e1]) (Below.refl _ _) rfl
    · simp only [List.getElem?_toArray, List.getElem?_cons_succ, List.getElem?_cons_zero, Option.some.injEq] at ho
      subst ho
      refine ⟨rfl, ?_⟩
      have e8 : A_.tmps[8]?.getD undef = .pointer (some ⟨w.heap.size, 0, none⟩) := getD_of (hI.val_ (i := 4) rfl rfl (by decide) (hdep ⟨4, .data⟩ (by simp) rfl))
      clear hI hdep
      obtain ⟨⟨a0, a1⟩, b0, b1⟩ := HC.out w3 hh
      exact .run rfl (.slice E ne ce) w3 (by simp [execOp, go_sem, Act.eval, *]) (Below.refl _ _) rfl
    · simp only [List.getElem?_toArray, List.getElem?_cons_succ, List.getElem?_cons_zero, Option.some.injEq] at ho
      subst ho
      refine ⟨rfl, ?_⟩
      have e9 : A_.tmps[9]?.getD undef = .slice E ne ce := getD_of (hI.val_ (i := 5) rfl rfl (by decide) (hdep ⟨5, .data⟩ (by simp) rfl))
      clear hI hdep
      exact .run rfl (.int .i64 (ne : Int)) w3 (by simp [go_sem, Act.eval, e9]) (Below.refl _ _) rfl
    · simp only [List.getElem?_toArray, List.getElem?_cons_succ, List.getElem?_cons_zero, Option.some.injEq] at ho
      subst ho
      refine ⟨rfl, ?_⟩
      have e10 : A_.tmps[10]?.getD undef = .int .i64 (ne : Int) := getD_of (hI.val_ (i := 6) rfl rfl (by decide) (hdep ⟨6, .data⟩ (by simp) rfl))
      clear hI hdep
      have hmn := HP.out.1
      exact .run rfl (.int .i64 (p : Int)) w3 (by simp [go_sem, Act.eval, e10, hmn]) (Below.refl _ _) rfl
    · simp only [List.getElem?_toArray, List.getElem?_cons_succ, List.getElem?_cons_zero, Option.some.injEq] at ho
      subst ho
      refine ⟨rfl, ?_⟩
      have e7 : A_.tmps[7]?.getD undef = .slice E ne ce := getD_of (hI.val_ (i := 3) rfl rfl (by decide) (hdep ⟨3, .data⟩ (by simp) rfl))
      have e11 : A_.tmps[11]?.getD undef = .int .i64 (p : Int) := getD_of (hI.val_ (i := 7) rfl rfl (by decide) (hdep ⟨7, .data⟩ (by simp) rfl))
      clear hI hdep
      have h8 : (p : Int) ≤ (ce : Int) := by omega
      exact .run rfl (.slice E p ce) w3 (by simp [execOp, go_sem, Act.eval, e7, e11, h8]) (Below.refl _ _) rfl
    · simp only [List.getElem?_toArray, List.getElem?_cons_succ, List.getElem?_cons_zero, Option.some.injEq] at ho
      subst ho
      refine ⟨rfl, ?_⟩
      have e3 : A_.tmps[3]?.getD undef = .pointer (some ⟨w.heap.size + 1 + 1, 0, none⟩) := by rw [hI.low 3 (by decide)]; rfl
      clear hI hdep
      exact .run rfl (.pointer (some ⟨w.heap.size + 1 + 1, 0, none⟩)) w3 (by simp [execOp, go_sem, Act.eval, e3]) (Below.refl _ _) rfl
  case app =>
    intro A_ w3 hs hlow hh hok
    have e5 : A_.tmps[5]?.getD undef = .slice none 0 0 := getD_of (RgX.val_at (hok 1 5 _ (by decide) (by decide) (by decide) rfl rfl))
    have e12 : A_.tmps[12]?.getD undef = .slice E p ce := getD_of (RgX.val_at (hok 8 12 _ (by decide) (by decide) (by decide) rfl rfl))
    clear hs hlow hok
    refine ⟨rfl, rfl, ?_⟩
    refine RgX.app_src_exec (.tmp 5) (.tmp 12) 23 rfl U.heap.size 47 i0 _ 8 64 Try.underlying23 hi0 hz0 hs0 hb0 rfl (by decide) (.slice none 0 0) 0 [] (by simpa [Act.eval] using e5) (World.ownsRow_nil _ _ _ _) E p ce (RS.flat evE (es.take p)) (by simpa [Act.eval] using e12) (by rw [RS.flat_len, HP.out.2]; rfl) ((HE.out w3 (hh)).front p (by omega)) (RS.flat_ones _) (by simp only [maxLen]; omega) (by omega) (by have := hh.size; omega) ?_
    intro B' c' w' hown' hgr'
    rw [Nat.zero_add, List.nil_append] at hown'
    rw [Nat.zero_add]
    exact ⟨B', c', rfl, hown', hh.grown hgr' hh.size (fun b e => by cases e)⟩
  case flo =>
    intro i_ o_ A_ w3 hi ho hlow
    simp only [List.mem_cons, List.not_mem_nil, or_false] at hi
    rcases hi with rfl
    · simp only [List.getElem?_toArray, List.getElem?_cons_succ, List.getElem?_cons_zero, Option.some.injEq] at ho
      subst ho
      have e3 : A_.tmps[3]?.getD undef = .pointer (some ⟨w.heap.size + 1 + 1, 0, none⟩) := by rw [hlow 3 (by decide)]; rfl
      exact ⟨rfl, rfl, by simp [execOp, go_sem, Act.eval, e3]⟩
  case hF =>
    intro i_ hi w_ y_ h_
    simp only [List.mem_cons, List.not_mem_nil, or_false] at hi
    rcases hi with rfl
    · exact h_
  case fin =>
  intro A_ w3 y_ hs hd hlow hy hG hfl hex
  obtain ⟨z4, hz4⟩ := hex 0 4 (by decide) rfl
  obtain ⟨z5, hz5⟩ := hex 1 5 (by decide) rfl
  obtain ⟨z6, hz6⟩ := hex 2 6 (by decide) rfl
  obtain ⟨z7, hz7⟩ := hex 3 7 (by decide) rfl
  obtain ⟨z8, hz8⟩ := hex 4 8 (by decide) rfl
  obtain ⟨z9, hz9⟩ := hex 5 9 (by decide) rfl
  obtain ⟨z10, hz10⟩ := hex 6 10 (by decide) rfl
  obtain ⟨z11, hz11⟩ := hex 7 11 (by decide) rfl
  obtain ⟨z12, hz12⟩ := hex 8 12 (by decide) rfl
  obtain rfl : A_ = ⟨#[.agg #[.slice E ne ce, .slice A na ca], .pointer (some ⟨w.heap.size, 0, none⟩), .pointer (some ⟨w.heap.size + 1, 0, none⟩), .pointer (some ⟨w.heap.size + 1 + 1, 0, none⟩), z4, z5, z6, z7, z8, z9, z10, z11, z12, y_, .pointer (some ⟨w.heap.size + 1 + 1, 0, none⟩), undef, undef, undef, undef, undef, undef, undef, undef, undef, undef, undef, undef], []⟩ := act_ext hd hs (fun j hj => match j, hj with | 0, _ => (hlow 0 (by decide)).trans rfl | 1, _ => (hlow 1 (by decide)).trans rfl | 2, _ => (hlow 2 (by decide)).trans rfl | 3, _ => (hlow 3 (by decide)).trans rfl | 4, _ => hz4 | 5, _ => hz5 | 6, _ => hz6 | 7, _ => hz7 | 8, _ => hz8 | 9, _ => hz9 | 10, _ => hz10 | 11, _ => hz11 | 12, _ => hz12 | 13, _ => hy | 14, _ => hfl 10 (by decide) | 15, _ => (hlow 15 (by decide)).trans rfl | 16, _ => (hlow 16 (by decide)).trans rfl | 17, _ => (hlow 17 (by decide)).trans rfl | 18, _ => (hlow 18 (by decide)).trans rfl | 19, _ => (hlow 19 (by decide)).trans rfl | 20, _ => (hlow 20 (by decide)).trans rfl | 21, _ => (hlow 21 (by decide)).trans rfl | 22, _ => (hlow 22 (by decide)).trans rfl | 23, _ => (hlow 23 (by decide)).trans rfl | 24, _ => (hlow 24 (by decide)).trans rfl | 25, _ => (hlow 25 (by decide)).trans rfl | 26, _ => (hlow 26 (by decide)).trans rfl | n + 27, h => absurd h (by show ¬ n + 27 < 27; omega))
  clear hs hd hlow hy hfl hex hz4 hz5 hz6 hz7 hz8 hz9 hz10 hz11 hz12
  obtain ⟨BE, cE, rfl, hoE, hb3⟩ := hG
  have hs3 := hb3.size
  have hsU := HSU.out
  have hk3 : w3.heap[w.heap.size + 1 + 1]? = _ := (hb3.block _ (by omega)).trans HK3.out
  refine RgX.wpList_store_seg rfl 23 _ _ rfl (w.heap.size + 1 + 1) 0 (.slice BE p cE) rfl rfl 26 _ hk3 (by rw [size_evs]; rfl) (by show 0 + 1 ≤ 2; omega) (by simp [Value.cells, Value.oneCell']) #[.slice BE p cE, .slice none 0 0] rfl ?_
  intro v4 k4 ho4 hz4 hb4
  have hgr4 : w3.grownBy v4 (some (w.heap.size + 1 + 1)) := ⟨hb4.os, hb4.tape, hb4.output, by omega, fun b _ hne => ho4 b (fun e => hne (by rw [e]))⟩
  have HOE := Lib.hid (hoE.kept hgr4 (.inr (fun e => by have := (hoE.lt _ e).1; omega)))
  have HK4 := Lib.hid k4
  have HK41 : Hid (v4.heap[w.heap.size]? = some (.cells #[.slice E ne ce, .slice A na ca] 26 (0, 0))) := Lib.hid ((ho4 _ (by omega)).trans ((hb3.block _ (by omega)).trans HK1.out))
  have HK42 : Hid (v4.heap[w.heap.size + 1]? = some (.cells #[.slice none 0 0, .slice none 0 0] 26 (0, 0))) := Lib.hid ((ho4 _ (by omega)).trans ((hb3.block _ (by omega)).trans HK2.out))
  have HB4 := Lib.hid (show Below w.heap.size w v4 from (HB.out.trans (hb3.mono (by omega))).trans (hb4.mono (by omega)))
  have HS4 := Lib.hid (show v4.heap.size ≥ U.heap.size from by omega)
  have HA4 := Lib.hid (fun (V : World) (hV : Below v4.heap.size v4 V) => (HAW.out.keep HB4.out).keep hV)
  clear hoE hb3 hs3 hk3 k4 ho4 hz4 hb4 hgr4 hsU
  have HC4 := Lib.hid (fun (V : World) (hV : Below v4.heap.size v4 V) => And.intro (row2C ((hV.block _ (by have := HSU.out; have := HS4.out; omega)).trans HK41.out)) (row2C ((hV.block _ (by have := HSU.out; have := HS4.out; omega)).trans HK4.out)))
  go_upto_region 3 with (fail)
  refine RgX.tail2 11 9 (fun i => ( 15 + i)) (fun ix_ => match ix_ with | 0 => .v (.pointer (some ⟨w.heap.size + 1 + 1, 1, none⟩)) | 1 => .v (.slice none 0 0) | 2 => .v (.pointer (some ⟨w.heap.size, 1, none⟩)) | 3 => .v (.slice A na ca) | 4 => .v (.pointer (some ⟨w.heap.size, 1, none⟩)) | 5 => .v (.slice A na ca) | 6 => .v (.int .i64 (na : Int)) | 7 => .v (.int .i64 (q : Int)) | 8 => .v (.slice A q ca) | 9 => .any | 10 => .v (.pointer (some ⟨w.heap.size + 1 + 1, 1, none⟩)) | _ => .any) [10] (fun ix_ => match ix_ with | 10 => .pointer (some ⟨w.heap.size + 1 + 1, 1, none⟩) | _ => undef) _ _ (fun v w' => ∃ (B' : Option Addr) (c' : Nat), v = .slice B' q c' ∧ w'.ownsRow U.heap.size 71 6 (.slice B' q c') q (RS.flat anE (l.take q)) ∧ Below v4.heap.size v4 w') (by kernel_rfl) rfl rfl (by decide) rfl (by kernel_rfl) (by kernel_rfl) (by kernel_rfl) (by decide) (fun i hi => by show ( 15 + i) < 27; (repeat' split) <;> omega) (fun i j hi hj => by show ( 15 + i) = ( 15 + j) → i = j; (repeat' split) <;> omega) ?step ?app ?flo ?hF ?fin
  case step =>
    intro L_ A_ w3 ix op_ hi hnA hI ho hdep
    have hcase : ix = 0 ∨ ix = 1 ∨ ix = 2 ∨ ix = 3 ∨ ix = 4 ∨ ix = 5 ∨ ix = 6 ∨ ix = 7 ∨ ix = 8 ∨ ix = 10 := by omega
    have hh := hI.held
    clear hi hnA
    rcases hcase with rfl | rfl | rfl | rfl | rfl | rfl | rfl | rfl | rfl | rfl
    · simp only [List.getElem?_toArray, List.getElem?_cons_zero, Option.some.injEq] at ho
      subst ho
      refine ⟨rfl, ?_⟩
      have e3 : A_.tmps[3]?.getD undef = .pointer (some ⟨w.heap.size + 1 + 1, 0, none⟩) := by rw [hI.low 3 (by decide)]; rfl
      clear hI hdep
      exact .run rfl (.pointer (some ⟨w.heap.size + 1 + 1, 1, none⟩)) w3 (by simp [execOp, go_sem, Act.eval, e3]) (Below.refl _ _) rfl
    · simp only [List.getElem?_toArray, List.getElem?_cons_succ, List.getElem?_cons_zero, Option.some.injEq] at ho
      subst ho
      refine ⟨rfl, ?_⟩
      have e15 : A_.tmps[15]?.getD undef = .pointer (some ⟨w.heap.size + 1 + 1, 1, none⟩) := getD_of (hI.val_ (i := 0) rfl rfl (by decide) (hdep ⟨0, .data⟩ (by simp) rfl))
      clear hI hdep
      obtain ⟨⟨a0, a1⟩, b0, b1⟩ := HC4.out w3 hh
      exact .run rfl (.slice none 0 0) w3 (by simp [execOp, go_sem, Act.eval, *]) (Below.refl _ _) rfl
    · simp only [List.getElem?_toArray, List.getElem?_cons_succ, List.getElem?_cons_zero, Option.some.injEq] at ho
      subst ho
      refine ⟨rfl, ?_⟩
      have e1 : A_.tmps[1]?.getD undef = .pointer (some ⟨w.heap.size, 0, none⟩) := by rw [hI.low 1 (by decide)]; rfl
      clear hI hdep
      exact .run rfl (.pointer (some ⟨w.heap.size, 1, none⟩)) w3 (by simp [execOp, go_sem, Act.eval, e1]) (Below.refl _ _) rfl
    · simp only [List.getElem?_toArray, List.getElem?_cons_succ, List.getElem?_cons_zero, Option.some.injEq] at ho
      subst ho
      refine ⟨rfl, ?_⟩
      have e17 : A_.tmps[17]?.getD undef = .pointer (some ⟨w.heap.size, 1, none⟩) := getD_of (hI.val_ (i := 2) rfl rfl (by decide) (hdep ⟨2, .data⟩ (by simp) rfl))
      clear hI hdep
      obtain ⟨⟨a0, a1⟩, b0, b1⟩ := HC4.out w3 hh
      exact .run rfl (.slice A na ca) w3 (by simp [execOp, go_sem, Act.eval, *]) (Below.refl _ _) rfl
    · simp only [List.getElem?_toArray, List.getElem?_cons_succ, List.getElem?_cons_zero, Option.some.injEq] at ho
      subst ho
      refine ⟨rfl, ?_⟩
      have e1 : A_.tmps[1]?.getD undef = .pointer (some ⟨w.heap.size, 0, none⟩) := by rw [hI.low 1 (by decide)]; rfl
      clear hI hdep
      exact .run rfl (.pointer (some ⟨w.heap.size, 1, none⟩)) w3 (by simp [execOp, go_sem, Act.eval, e1]) (Below.refl _ _) rfl
    · simp only [List.getElem?_toArray, List.getElem?_cons_succ, List.getElem?_cons_zero, Option.some.injEq] at ho
      subst ho
      refine ⟨rfl, ?_⟩
      have e19 : A_.tmps[19]?.getD undef = .pointer (some ⟨w.heap.size, 1, none⟩) := getD_of (hI.val_ (i := 4) rfl rfl (by decide) (hdep ⟨4, .data⟩ (by simp) rfl))
      clear hI hdep
      obtain ⟨⟨a0, a1⟩, b0, b1⟩ := HC4.out w3 hh
      exact .run rfl (.slice A na ca) w3 (by simp [execOp, go_sem, Act.eval, *]) (Below.refl _ _) rfl
    · simp only [List.getElem?_toArray, List.getElem?_cons_succ, List.getElem?_cons_zero, Option.some.injEq] at ho
      subst ho
      refine ⟨rfl, ?_⟩
      have e20 : A_.tmps[20]?.getD undef = .slice A na ca := getD_of (hI.val_ (i := 5) rfl rfl (by decide) (hdep ⟨5, .data⟩ (by simp) rfl))
      clear hI hdep
      exact .run rfl (.int .i64 (na : Int)) w3 (by simp [go_sem, Act.eval, e20]) (Below.refl _ _) rfl
    · simp only [List.getElem?_toArray, List.getElem?_cons_succ, List.getElem?_cons_zero, Option.some.injEq] at ho
      subst ho
      refine ⟨rfl, ?_⟩
      have e21 : A_.tmps[21]?.getD undef = .int .i64 (na : Int) := getD_of (hI.val_ (i := 6) rfl rfl (by decide) (hdep ⟨6, .data⟩ (by simp) rfl))
      clear hI hdep
      have hmn := HQ.out.1
      exact .run rfl (.int .i64 (q : Int)) w3 (by simp [go_sem, Act.eval, e21, hmn]) (Below.refl _ _) rfl
    · simp only [List.getElem?_toArray, List.getElem?_cons_succ, List.getElem?_cons_zero, Option.some.injEq] at ho
      subst ho
      refine ⟨rfl, ?_⟩
      have e18 : A_.tmps[18]?.getD undef = .slice A na ca := getD_of (hI.val_ (i := 3) rfl rfl (by decide) (hdep ⟨3, .data⟩ (by simp) rfl))
      have e22 : A_.tmps[22]?.getD undef = .int .i64 (q : Int) := getD_of (hI.val_ (i := 7) rfl rfl (by decide) (hdep ⟨7, .data⟩ (by simp) rfl))
      clear hI hdep
      have h8 : (q : Int) ≤ (ca : Int) := by omega
      exact .run rfl (.slice A q ca) w3 (by simp [execOp, go_sem, Act.eval, e18, e22, h8]) (Below.refl _ _) rfl
    · simp only [List.getElem?_toArray, List.getElem?_cons_succ, List.getElem?_cons_zero, Option.some.injEq] at ho
      subst ho
      refine ⟨rfl, ?_⟩
      have e3 : A_.tmps[3]?.getD undef = .pointer (some ⟨w.heap.size + 1 + 1, 0, none⟩) := by rw [hI.low 3 (by decide)]; rfl
      clear hI hdep
      exact .run rfl (.pointer (some ⟨w.heap.size + 1 + 1, 1, none⟩)) w3 (by simp [execOp, go_sem, Act.eval, e3]) (Below.refl _ _) rfl
  case app =>
    intro A_ w3 hs hlow hh hok
    have e16 : A_.tmps[16]?.getD undef = .slice none 0 0 := getD_of (RgX.val_at (hok 1 16 _ (by decide) (by decide) (by decide) rfl rfl))
    have e23 : A_.tmps[23]?.getD undef = .slice A q ca := getD_of (RgX.val_at (hok 8 23 _ (by decide) (by decide) (by decide) rfl rfl))
    clear hs hlow hok
    refine ⟨rfl, rfl, ?_⟩
    refine RgX.app_src_exec (.tmp 16) (.tmp 23) 24 rfl U.heap.size 71 i1 _ 6 48 Try.underlying24 hi1 hz1 hs1 hb1 rfl (by decide) (.slice none 0 0) 0 [] (by simpa [Act.eval] using e16) (World.ownsRow_nil _ _ _ _) A q ca (RS.flat anE (l.take q)) (by simpa [Act.eval] using e23) (by rw [RS.flat_len, HQ.out.2]; rfl) ((HA4.out w3 (hh)).front q (by omega)) (RS.flat_ones _) (by simp only [maxLen]; omega) (by omega) (by have := hh.size; have := HS4.out; omega) ?_
    intro B' c' w' hown' hgr'
    rw [Nat.zero_add, List.nil_append] at hown'
    rw [Nat.zero_add]
    exact ⟨B', c', rfl, hown', hh.grown hgr' hh.size (fun b e => by cases e)⟩
  case flo =>
    intro i_ o_ A_ w3 hi ho hlow
    simp only [List.mem_cons, List.not_mem_nil, or_false] at hi
    rcases hi with rfl
    · simp only [List.getElem?_toArray, List.getElem?_cons_succ, List.getElem?_cons_zero, Option.some.injEq] at ho
      subst ho
      have e3 : A_.tmps[3]?.getD undef = .pointer (some ⟨w.heap.size + 1 + 1, 0, none⟩) := by rw [hlow 3 (by decide)]; rfl
      exact ⟨rfl, rfl, by simp [execOp, go_sem, Act.eval, e3]⟩
  case hF =>
    intro i_ hi w_ y_ h_
    simp only [List.mem_cons, List.not_mem_nil, or_false] at hi
    rcases hi with rfl
    · exact h_
  case fin =>
  intro A_ w3 y_ hs hd hlow hy hG hfl hex
  obtain ⟨z15, hz15⟩ := hex 0 15 (by decide) rfl
  obtain ⟨z16, hz16⟩ := hex 1 16 (by decide) rfl
  obtain ⟨z17, hz17⟩ := hex 2 17 (by decide) rfl
  obtain ⟨z18, hz18⟩ := hex 3 18 (by decide) rfl
  obtain ⟨z19, hz19⟩ := hex 4 19 (by decide) rfl
  obtain ⟨z20, hz20⟩ := hex 5 20 (by decide) rfl
  obtain ⟨z21, hz21⟩ := hex 6 21 (by decide) rfl
  obtain ⟨z22, hz22⟩ := hex 7 22 (by decide) rfl
  obtain ⟨z23, hz23⟩ := hex 8 23 (by decide) rfl
  obtain rfl : A_ = ⟨#[.agg #[.slice E ne ce, .slice A na ca], .pointer (some ⟨w.heap.size, 0, none⟩), .pointer (some ⟨w.heap.size + 1, 0, none⟩), .pointer (some ⟨w.heap.size + 1 + 1, 0, none⟩), z4, z5, z6, z7, z8, z9, z10, z11, z12, .slice BE p cE, .pointer (some ⟨w.heap.size + 1 + 1, 0, none⟩), z15, z16, z17, z18, z19, z20, z21, z22, z23, y_, .pointer (some ⟨w.heap.size + 1 + 1, 1, none⟩), undef], []⟩ := act_ext hd hs (fun j hj => match j, hj with | 0, _ => (hlow 0 (by decide)).trans rfl | 1, _ => (hlow 1 (by decide)).trans rfl | 2, _ => (hlow 2 (by decide)).trans rfl | 3, _ => (hlow 3 (by decide)).trans rfl | 4, _ => (hlow 4 (by decide)).trans rfl | 5, _ => (hlow 5 (by decide)).trans rfl | 6, _ => (hlow 6 (by decide)).trans rfl | 7, _ => (hlow 7 (by decide)).trans rfl | 8, _ => (hlow 8 (by decide)).trans rfl | 9, _ => (hlow 9 (by decide)).trans rfl | 10, _ => (hlow 10 (by decide)).trans rfl | 11, _ => (hlow 11 (by decide)).trans rfl | 12, _ => (hlow 12 (by decide)).trans rfl | 13, _ => (hlow 13 (by decide)).trans rfl | 14, _ => (hlow 14 (by decide)).trans rfl | 15, _ => hz15 | 16, _ => hz16 | 17, _ => hz17 | 18, _ => hz18 | 19, _ => hz19 | 20, _ => hz20 | 21, _ => hz21 | 22, _ => hz22 | 23, _ => hz23 | 24, _ => hy | 25, _ => hfl 10 (by decide) | 26, _ => (hlow 26 (by decide)).trans rfl | n + 27, h => absurd h (by show ¬ n + 27 < 27; omega))
  clear hs hd hlow hy hfl hex hz15 hz16 hz17 hz18 hz19 hz20 hz21 hz22 hz23
  obtain ⟨BA, cA, rfl, hoA, hb5⟩ := hG
  have hs5 := hb5.size
  have hsU := HSU.out
  have hs4 := HS4.out
  have hk5 : w3.heap[w.heap.size + 1 + 1]? = _ := (hb5.block _ (by omega)).trans HK4.out
  refine RgX.wpList_store_seg rfl 24 _ _ rfl (w.heap.size + 1 + 1) 1 (.slice BA q cA) rfl rfl 26 _ hk5 (by rw [size_ansC]; rfl) (by show 1 + 1 ≤ 2; omega) (by simp [Value.cells, Value.oneCell']) #[.slice BE p cE, .slice BA q cA] rfl ?_
  intro v6 k6 ho6 hz6 hb6
  have hgr6 : w3.grownBy v6 (some (w.heap.size + 1 + 1)) := ⟨hb6.os, hb6.tape, hb6.output, by omega, fun b _ hne => ho6 b (fun e => hne (by rw [e]))⟩
  have HOA := Lib.hid (hoA.kept hgr6 (.inr (fun e => by have := (hoA.lt _ e).1; omega)))
  have HOE6 := Lib.hid ((own_belowT HOE.out hb5).kept hgr6 (.inr (fun e => by have := (HOE.out.lt _ e).1; omega)))
  have HK62 : Hid (v6.heap[w.heap.size + 1]? = some (.cells #[.slice none 0 0, .slice none 0 0] 26 (0, 0))) := Lib.hid ((ho6 _ (by omega)).trans ((hb5.block _ (by omega)).trans HK42.out))
  have HB6 := Lib.hid (show Below w.heap.size w v6 from (HB4.out.trans (hb5.mono (by omega))).trans (hb6.mono (by omega)))
  have HS6 := Lib.hid (show v6.heap.size ≥ U.heap.size from by omega)
  obtain ⟨c0, c1⟩ := row2C k6
  clear hoA hb5 hs5 hk5 k6 ho6 hz6 hb6 hgr6 hsU hs4
  go_wp2_with (refine RgX.wpList_store_seg rfl 26 _ _ rfl (w.heap.size + 1) 0 (.agg #[.slice BE p cE, .slice BA q cA]) rfl rfl 26 _ HK62.out (by rw [size_tapeC]; rfl) (by show 0 + 2 ≤ 2; omega) (by simp [Value.cells, Value.oneCell']) #[.slice BE p cE, .slice BA q cA] rfl ?_; intro v7 k7 ho7 hz7 hb7)
  have hsU := HSU.out
  have hs6 := HS6.out
  have hgr7 : v6.grownBy v7 (some (w.heap.size + 1)) := ⟨hb7.os, hb7.tape, hb7.output, by omega, fun b _ hne => ho7 b (fun e => hne (by rw [e]))⟩
  obtain ⟨r0, r1⟩ := row2C k7
  have o1 := HOE6.out.kept hgr7 (.inr (fun e => by have := (HOE6.out.lt _ e).1; omega))
  have o2 := HOA.out.kept hgr7 (.inr (fun e => by have := (HOA.out.lt _ e).1; omega))
  refine bodyPost_ret (v := .agg #[.slice BE p cE, .slice BA q cA]) (by simp [results, Try.results13, go_sem, r0, r1]) rfl ?_
  exact ⟨⟨_, rfl, BE, p, cE, BA, q, cA, rfl, ⟨HP.out.2, HQ.out.2⟩, own_baseT o1 (by omega), own_baseT o2 (by omega)⟩, HB6.out.trans (hb7.mono (by omega))⟩
end Go.Proofs.Ytiokiecnglmbnaa
