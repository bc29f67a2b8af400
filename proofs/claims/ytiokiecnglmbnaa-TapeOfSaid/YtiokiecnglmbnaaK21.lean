/-
  The program's Normal and Parts. Conditions: the lengths.
  The program's Encode. Conditions: at most 1000 events and 1000 answers; the numbers are Go's.
  The program's With. Conditions: the lengths.
  The program's Get: the last answer to a question, by slices.Backward. Conditions: the lengths.
  The program's Get. Conditions: the lengths.
-/
import Derived.Test.YtiokiecnglmbnaaK20
import Derived.IntWalk

namespace Go.Proofs.Ytiokiecnglmbnaa
open Go Go.RowKit Go.Proofs
attribute [local go_sem] Oper.semAt_some

set_option maxHeartbeats 4000000 in
set_option maxRecDepth 100000 in
theorem normal_any {E A : Option Addr} {ne ce na ca : Nat} {es : List NM.Ev} {l : List TP.An} (w : World) (h : TIn w E ne ce A na es l) :
    Calls Try.prog 17 #[.agg #[.slice E ne ce, .slice A na ca]] w fun e w' => (∃ v, e = .returned v ∧ TapeN w.heap.size w' v es (TP.normA l)) ∧ Below w.heap.size w w' := by
  obtain ⟨U, hU, hb, k1, k2, hlt⟩ := two_boxes w (.cells #[.slice E ne ce, .slice A na ca] 26) (.cells #[.slice none 0 0, .slice none 0 0] 26)
  have HI := Lib.hid (h.keep hb)
  have HK := Lib.hid (fun (V : World) (hV : Below U.heap.size U V) => row2 ((hV.block _ (by omega)).trans k1))
  have HR := Lib.hid k2
  have HB := Lib.hid hb
  have hne := h.ev.1
  clear k1 k2 hb h
  go_enter Try.func17, Try.ntmps17
  go_wp2_with fail
  clear hU
  refine RgX.tail 6 (fun i => ( 3 + i)) (fun ix_ => match ix_ with | 0 => .v (.pointer (some ⟨w.heap.size, 1, none⟩)) | 1 => .v (.slice A na ca) | 2 => .mapq U.heap.size (TP.getA l) na | 3 => .v (.pointer (some ⟨w.heap.size, 0, none⟩)) | 4 => .v (.slice E ne ce) | 5 => .tape U.heap.size es (TP.normA l) ne (TP.normA l).length | _ => .any) _ (by kernel_rfl) rfl rfl (by kernel_rfl) (by kernel_rfl) (fun i hi => by show ( 3 + i) < 9; (repeat' split) <;> omega) (fun i j hi hj => by show ( 3 + i) = ( 3 + j) → i = j; (repeat' split) <;> omega) ?step ?fin
  case step =>
    intro L_ A_ w3 ix op_ hi hI ho hdep
    have hcase : ix = 0 ∨ ix = 1 ∨ ix = 2 ∨ ix = 3 ∨ ix = 4 ∨ ix = 5 := by omega
    have hh := hI.held
    clear hi
    rcases hcase with rfl | rfl | rfl | rfl | rfl | rfl
    · simp only [List.getElem?_toArray, List.getElem?_cons_zero, Option.some.injEq] at ho
      subst ho
      refine ⟨rfl, ?_⟩
      have e1 : A_.tmps[1]?.getD undef = .pointer (some ⟨w.heap.size, 0, none⟩) := by rw [hI.low 1 (by decide)]; rfl
      clear hI hdep
      exact .run rfl (.pointer (some ⟨w.heap.size, 1, none⟩)) w3 (by simp [execOp, go_sem, Act.eval, e1]) (Below.refl _ _) rfl
    · simp only [List.getElem?_toArray, List.getElem?_cons_succ, List.getElem?_cons_zero, Option.some.injEq] at ho
      subst ho
      refine ⟨rfl, ?_⟩
      have e3 : A_.tmps[3]?.getD undef = .pointer (some ⟨w.heap.size, 1, none⟩) := getD_of (hI.val_ (i := 0) rfl rfl (by decide) (hdep ⟨0, .data⟩ (by simp) rfl))
      clear hI hdep
      obtain ⟨⟨b0, b1⟩, _, _⟩ := HK.out w3 hh
      exact .run rfl (.slice A na ca) w3 (by simp [execOp, go_sem, Act.eval, *]) (Below.refl _ _) rfl
    · simp only [List.getElem?_toArray, List.getElem?_cons_succ, List.getElem?_cons_zero, Option.some.injEq] at ho
      subst ho
      refine ⟨rfl, ?_⟩
      have e4 : A_.tmps[4]?.getD undef = .slice A na ca := getD_of (hI.val_ (i := 1) rfl rfl (by decide) (hdep ⟨1, .data⟩ (by simp) rfl))
      clear hI hdep
      exact .call rfl 45 #[.slice A na ca] (by simp [go_sem, Act.eval, e4]) (RgX.mapq_calls (collectA_any w3 (HI.out.keep hh).an HI.out.ba) hh.size)
    · simp only [List.getElem?_toArray, List.getElem?_cons_succ, List.getElem?_cons_zero, Option.some.injEq] at ho
      subst ho
      refine ⟨rfl, ?_⟩
      have e1 : A_.tmps[1]?.getD undef = .pointer (some ⟨w.heap.size, 0, none⟩) := by rw [hI.low 1 (by decide)]; rfl
      clear hI hdep
      exact .run rfl (.pointer (some ⟨w.heap.size, 0, none⟩)) w3 (by simp [execOp, go_sem, Act.eval, e1]) (Below.refl _ _) rfl
    · simp only [List.getElem?_toArray, List.getElem?_cons_succ, List.getElem?_cons_zero, Option.some.injEq] at ho
      subst ho
      refine ⟨rfl, ?_⟩
      have e6 : A_.tmps[6]?.getD undef = .pointer (some ⟨w.heap.size, 0, none⟩) := getD_of (hI.val_ (i := 3) rfl rfl (by decide) (hdep ⟨3, .data⟩ (by simp) rfl))
      clear hI hdep
      obtain ⟨⟨b0, b1⟩, _, _⟩ := HK.out w3 hh
      exact .run rfl (.slice E ne ce) w3 (by simp [execOp, go_sem, Act.eval, *]) (Below.refl _ _) rfl
    · simp only [List.getElem?_toArray, List.getElem?_cons_succ, List.getElem?_cons_zero, Option.some.injEq] at ho
      subst ho
      refine ⟨rfl, ?_⟩
      obtain ⟨_, e5, B5, rfl, h5⟩ := hI.get_ (i := 2) (j := 5) rfl rfl (by decide) (hdep ⟨2, .data⟩ (by simp) rfl)
      have e7 : A_.tmps[7]?.getD undef = .slice E ne ce := getD_of (hI.val_ (i := 4) rfl rfl (by decide) (hdep ⟨4, .data⟩ (by simp) rfl))
      clear hI hdep
      exact .call rfl 46 #[Value.map (some B5), .slice E ne ce] (by simp [go_sem, Act.eval, e5, e7]) (RgX.tape_calls_lo hh.size hne rfl (tape_any B5 na w3 (HI.out.keep hh).ev HI.out.nil HI.out.be h5.2 HI.out.ba))
  case fin =>
  intro A_ w3 hs hd hlow hS hok
  obtain ⟨_, hy5, B5, rfl, h5⟩ := hok 2 5 _ (by decide) rfl rfl
  obtain ⟨_, hy8, E8, c8, A8, d8, rfl, h8⟩ := hok 5 8 _ (by decide) rfl rfl
  obtain rfl : A_ = ⟨#[.agg #[.slice E ne ce, .slice A na ca], .pointer (some ⟨w.heap.size, 0, none⟩), .pointer (some ⟨w.heap.size + 1, 0, none⟩), .pointer (some ⟨w.heap.size, 1, none⟩), .slice A na ca, Value.map (some B5), .pointer (some ⟨w.heap.size, 0, none⟩), .slice E ne ce, .agg #[.slice E8 ne c8, .slice A8 (TP.normA l).length d8]], []⟩ := act_ext hd hs (fun j hj => match j, hj with | 0, _ => (hlow 0 (by decide)).trans rfl | 1, _ => (hlow 1 (by decide)).trans rfl | 2, _ => (hlow 2 (by decide)).trans rfl | 3, _ => RgX.val_at (hok 0 3 _ (by decide) rfl rfl) | 4, _ => RgX.val_at (hok 1 4 _ (by decide) rfl rfl) | 5, _ => hy5 | 6, _ => RgX.val_at (hok 3 6 _ (by decide) rfl rfl) | 7, _ => RgX.val_at (hok 4 7 _ (by decide) rfl rfl) | 8, _ => hy8 | n + 9, h => absurd h (by show ¬ n + 9 < 9; omega))
  clear hs hd hlow hok hy5 hy8
  have hs3 := hS.size
  have hres : w3.heap[w.heap.size + 1]? = _ := (hS.block _ hlt).trans HR.out
  have HT := Lib.hid h8
  have HS := Lib.hid hS
  clear h8 h5 hS
  go_wp2_with (refine RgX.wpList_store_seg rfl 26 _ _ rfl (w.heap.size + 1) 0 (.agg #[.slice E8 ne c8, .slice A8 (TP.normA l).length d8]) rfl rfl 26 _ hres (by rw [size_tape]; rfl) (by show 0 + 2 ≤ 2; omega) (by simp [Value.cells, Value.oneCell']) #[.slice E8 ne c8, .slice A8 (TP.normA l).length d8] rfl ?_; intro W4 k4 ho4 hz4 hb4)
  obtain ⟨⟨r0, r1⟩, _, _⟩ := row2 k4
  have hgr : w3.grownBy W4 (some (w.heap.size + 1)) := ⟨hb4.os, hb4.tape, hb4.output, by omega, fun b _ hne => ho4 b (fun e => hne (by rw [e]))⟩
  have hT4 := (HT.out.grown hgr hres (by decide) (by decide)).low (show w.heap.size ≤ U.heap.size by omega)
  refine bodyPost_ret (v := .agg #[.slice E8 ne c8, .slice A8 (TP.normA l).length d8]) (by simp [results, Try.results17, go_sem, r0, r1]) rfl ?_
  exact ⟨⟨_, rfl, E8, ne, c8, A8, _, d8, rfl, hT4⟩, HB.out.trans ((HS.out.mono (by omega)).trans (hb4.mono (Nat.le_succ _)))⟩
set_option maxHeartbeats 4000000 in
set_option maxRecDepth 100000 in
theorem parts_any {E A : Option Addr} {ne ce na ca : Nat} {es : List NM.Ev} {l : List TP.An} (w : World) (h : TIn w E ne ce A na es l) :
    Calls Try.prog 18 #[.agg #[.slice E ne ce, .slice A na ca]] w fun e w' => e = .returned (.int .i64 ((ne : Int) + ((TP.normA l).length : Int))) ∧ Below w.heap.size w w' := by
  have hb := one_box w (.cells #[.slice E ne ce, .slice A na ca] 26)
  obtain ⟨U, hU⟩ : ∃ U, w.alloc (.cells #[.slice E ne ce, .slice A na ca] 26) = U := ⟨_, rfl⟩
  rw [hU] at hb
  have hlt : w.heap.size < U.heap.size := by rw [← hU]; simp
  have k1 : U.heap[w.heap.size]? = some (.cells #[.slice E ne ce, .slice A na ca] 26 (0, 0)) := by rw [← hU]; exact new_at rfl
  have HI := Lib.hid (h.keep hb)
  have HK := Lib.hid (fun (V : World) (hV : Below U.heap.size U V) => row2 ((hV.block _ (by omega)).trans k1))
  have HB := Lib.hid hb
  have hbe := h.be
  have hba := h.ba
  have hnl : (TP.normA l).length ≤ na := by rw [← h.an.1]; exact TP.norm_len l
  clear k1 hb h
  go_enter Try.func18, Try.ntmps18
  go_wp2_with fail
  clear hU
  refine RgX.region 9 (fun i => (if i = 8 then 2 else 3 + i)) (fun ix_ => match ix_ with | 0 => .v (.pointer (some ⟨w.heap.size, 0, none⟩)) | 1 => .v (.slice E ne ce) | 2 => .v (.int .i64 (ne : Int)) | 3 => .v (.pointer (some ⟨w.heap.size, 1, none⟩)) | 4 => .v (.slice A na ca) | 5 => .mapq U.heap.size (TP.getA l) na | 6 => .v (.int .i64 ((TP.normA l).length : Int)) | 7 => .v (.int .i64 ((ne : Int) + ((TP.normA l).length : Int))) | 8 => .v (.int .i64 ((ne : Int) + ((TP.normA l).length : Int))) | _ => .any) (by kernel_rfl) rfl (by kernel_rfl)  (fun i hi => by show (if i = 8 then 2 else 3 + i) < 11; (repeat' split) <;> omega) (fun i j hi hj => by show (if i = 8 then 2 else 3 + i) = (if j = 8 then 2 else 3 + j) → i = j; (repeat' split) <;> omega) ?step ?fin
  case step =>
    intro L_ A_ w3 ix op_ hI ho hdep
    have hi : ix < 9 := (Array.getElem?_eq_some_iff.1 ho).1
    have hcase : ix = 0 ∨ ix = 1 ∨ ix = 2 ∨ ix = 3 ∨ ix = 4 ∨ ix = 5 ∨ ix = 6 ∨ ix = 7 ∨ ix = 8 := by omega
    have hh := hI.held
    clear hi
    rcases hcase with rfl | rfl | rfl | rfl | rfl | rfl | rfl | rfl | rfl
    · simp only [List.getElem?_toArray, List.getElem?_cons_zero, Option.some.injEq] at ho
      subst ho
      refine ⟨rfl, ?_⟩
      have e1 : A_.tmps[1]?.getD undef = .pointer (some ⟨w.heap.size, 0, none⟩) := by rw [hI.low 1 (by decide)]; rfl
      clear hI hdep
      exact .run rfl (.pointer (some ⟨w.heap.size, 0, none⟩)) w3 (by simp [execOp, go_sem, Act.eval, e1]) (Below.refl _ _) rfl
    · simp only [List.getElem?_toArray, List.getElem?_cons_succ, List.getElem?_cons_zero, Option.some.injEq] at ho
      subst ho
      refine ⟨rfl, ?_⟩
      have e3 : A_.tmps[3]?.getD undef = .pointer (some ⟨w.heap.size, 0, none⟩) := getD_of (hI.val_ (i := 0) rfl rfl (by decide) (hdep ⟨0, .data⟩ (by simp) rfl))
      clear hI hdep
      obtain ⟨⟨b0, b1⟩, _, _⟩ := HK.out w3 hh
      exact .run rfl (.slice E ne ce) w3 (by simp [execOp, go_sem, Act.eval, *]) (Below.refl _ _) rfl
    · simp only [List.getElem?_toArray, List.getElem?_cons_succ, List.getElem?_cons_zero, Option.some.injEq] at ho
      subst ho
      refine ⟨rfl, ?_⟩
      have e4 : A_.tmps[4]?.getD undef = .slice E ne ce := getD_of (hI.val_ (i := 1) rfl rfl (by decide) (hdep ⟨1, .data⟩ (by simp) rfl))
      clear hI hdep
      exact .run rfl (.int .i64 (ne : Int)) w3 (by simp [go_sem, Act.eval, e4]) (Below.refl _ _) rfl
    · simp only [List.getElem?_toArray, List.getElem?_cons_succ, List.getElem?_cons_zero, Option.some.injEq] at ho
      subst ho
      refine ⟨rfl, ?_⟩
      have e1 : A_.tmps[1]?.getD undef = .pointer (some ⟨w.heap.size, 0, none⟩) := by rw [hI.low 1 (by decide)]; rfl
      clear hI hdep
      exact .run rfl (.pointer (some ⟨w.heap.size, 1, none⟩)) w3 (by simp [execOp, go_sem, Act.eval, e1]) (Below.refl _ _) rfl
    · simp only [List.getElem?_toArray, List.getElem?_cons_succ, List.getElem?_cons_zero, Option.some.injEq] at ho
      subst ho
      refine ⟨rfl, ?_⟩
      have e6 : A_.tmps[6]?.getD undef = .pointer (some ⟨w.heap.size, 1, none⟩) := getD_of (hI.val_ (i := 3) rfl rfl (by decide) (hdep ⟨3, .data⟩ (by simp) rfl))
      clear hI hdep
      obtain ⟨⟨b0, b1⟩, _, _⟩ := HK.out w3 hh
      exact .run rfl (.slice A na ca) w3 (by simp [execOp, go_sem, Act.eval, *]) (Below.refl _ _) rfl
    · simp only [List.getElem?_toArray, List.getElem?_cons_succ, List.getElem?_cons_zero, Option.some.injEq] at ho
      subst ho
      refine ⟨rfl, ?_⟩
      have e7 : A_.tmps[7]?.getD undef = .slice A na ca := getD_of (hI.val_ (i := 4) rfl rfl (by decide) (hdep ⟨4, .data⟩ (by simp) rfl))
      clear hI hdep
      exact .call rfl 45 #[.slice A na ca] (by simp [go_sem, Act.eval, e7]) (RgX.mapq_calls (collectA_any w3 (HI.out.keep hh).an HI.out.ba) hh.size)
    · simp only [List.getElem?_toArray, List.getElem?_cons_succ, List.getElem?_cons_zero, Option.some.injEq] at ho
      subst ho
      refine ⟨rfl, ?_⟩
      obtain ⟨_, e8, B8, rfl, h8⟩ := hI.get_ (i := 5) (j := 8) rfl rfl (by decide) (hdep ⟨5, .data⟩ (by simp) rfl)
      clear hI hdep
      have hlen := h8.2.len 3
      exact .run rfl (.int .i64 ((TP.normA l).length : Int)) w3 (by simp [go_sem, Act.eval, e8, hlen]) (Below.refl _ _) rfl
    · simp only [List.getElem?_toArray, List.getElem?_cons_succ, List.getElem?_cons_zero, Option.some.injEq] at ho
      subst ho
      refine ⟨rfl, ?_⟩
      have e5 : A_.tmps[5]?.getD undef = .int .i64 (ne : Int) := getD_of (hI.val_ (i := 2) rfl rfl (by decide) (hdep ⟨2, .data⟩ (by simp) rfl))
      have e9 : A_.tmps[9]?.getD undef = .int .i64 ((TP.normA l).length : Int) := getD_of (hI.val_ (i := 6) rfl rfl (by decide) (hdep ⟨6, .data⟩ (by simp) rfl))
      clear hI hdep
      have hw : IntKind.i64.wrap ((ne : Int) + ((TP.normA l).length : Int)) = (ne : Int) + ((TP.normA l).length : Int) := IntWalk.i64_in _ (by omega)
      exact .run rfl (.int .i64 ((ne : Int) + ((TP.normA l).length : Int))) w3 (by simp [execOp, go_sem, Act.eval, e5, e9, hw]) (Below.refl _ _) rfl
    · simp only [List.getElem?_toArray, List.getElem?_cons_succ, List.getElem?_cons_zero, Option.some.injEq] at ho
      subst ho
      refine ⟨rfl, ?_⟩
      have e10 : A_.tmps[10]?.getD undef = .int .i64 ((ne : Int) + ((TP.normA l).length : Int)) := getD_of (hI.val_ (i := 7) rfl rfl (by decide) (hdep ⟨7, .data⟩ (by simp) rfl))
      clear hI hdep
      exact .run rfl (.int .i64 ((ne : Int) + ((TP.normA l).length : Int))) w3 (by simp [execOp, go_sem, Act.eval, e10]) (Below.refl _ _) rfl
  case fin =>
  intro A_ w3 hs hd hlow hS hok
  obtain ⟨_, hy8, B8, rfl, h8⟩ := hok 5 8 _ (by decide) rfl rfl
  obtain rfl : A_ = ⟨#[.agg #[.slice E ne ce, .slice A na ca], .pointer (some ⟨w.heap.size, 0, none⟩), .int .i64 ((ne : Int) + ((TP.normA l).length : Int)), .pointer (some ⟨w.heap.size, 0, none⟩), .slice E ne ce, .int .i64 (ne : Int), .pointer (some ⟨w.heap.size, 1, none⟩), .slice A na ca, Value.map (some B8), .int .i64 ((TP.normA l).length : Int), .int .i64 ((ne : Int) + ((TP.normA l).length : Int))], []⟩ := act_ext hd hs (fun j hj => match j, hj with | 0, _ => (hlow 0 (by decide)).trans rfl | 1, _ => (hlow 1 (by decide)).trans rfl | 2, _ => RgX.val_at (hok 8 2 _ (by decide) rfl rfl) | 3, _ => RgX.val_at (hok 0 3 _ (by decide) rfl rfl) | 4, _ => RgX.val_at (hok 1 4 _ (by decide) rfl rfl) | 5, _ => RgX.val_at (hok 2 5 _ (by decide) rfl rfl) | 6, _ => RgX.val_at (hok 3 6 _ (by decide) rfl rfl) | 7, _ => RgX.val_at (hok 4 7 _ (by decide) rfl rfl) | 8, _ => hy8 | 9, _ => RgX.val_at (hok 6 9 _ (by decide) rfl rfl) | 10, _ => RgX.val_at (hok 7 10 _ (by decide) rfl rfl) | n + 11, h => absurd h (by show ¬ n + 11 < 11; omega))
  clear hs hd hlow hok hy8
  have HS := Lib.hid hS
  clear h8 hS
  go_wp2_with fail
  go_ret
  exact ⟨rfl, HB.out.trans (HS.out.mono (by omega))⟩
end Go.Proofs.Ytiokiecnglmbnaa

namespace Go.Proofs.Ytiokiecnglmbnaa
open Go Go.RowKit Go.Proofs
attribute [local go_sem] Oper.semAt_some

theorem getA_i64 {l : List TP.An} (q : NM.Qu) : (∀ a ∈ l, I64 a.2) → I64 (TP.getA l q) := by
  refine TP.snoc_ind (p := fun l => (∀ a ∈ l, I64 a.2) → I64 (TP.getA l q)) ?_ ?_ l
  · intro _
    rw [TP.getA_nil]
    exact ⟨by decide, by decide⟩
  · intro l a ih h
    rw [TP.getA_snoc]
    split
    · obtain ⟨h1, h2⟩ := h a (by simp)
      constructor <;> omega
    · exact ih fun x hx => h x (by simp [hx])
theorem normA_i64 {l : List TP.An} (h : ∀ a ∈ l, ∀ x ∈ anL a, I64 x) : ∀ a ∈ TP.normA l, ∀ x ∈ anL a, I64 x := by
  intro a ha x hx
  obtain ⟨h1, h2⟩ := TP.mem_norm.1 ha
  obtain ⟨b, hb, hk⟩ := TP.getA_key (h1 ▸ h2)
  rcases List.mem_append.1 hx with hx | hx
  · exact h b hb x (List.mem_append.2 (.inl (hk ▸ hx)))
  · rw [List.mem_singleton.1 hx, h1]
    exact getA_i64 a.1 fun c hc => h c hc c.2 (List.mem_append.2 (.inr (by simp)))
set_option maxHeartbeats 4000000 in
set_option maxRecDepth 100000 in
theorem encodeP_any {E A : Option Addr} {ne ce na ca : Nat} {es : List NM.Ev} {l : List TP.An} (w : World) (h : TIn w E ne ce A na es l) (h1 : ne ≤ 1000) (h2 : na ≤ 1000) (he : ∀ e ∈ es, ∀ x ∈ NM.evL e, I64 x) (ha : ∀ a ∈ l, ∀ x ∈ anL a, I64 x) :
    Calls Try.prog 33 #[.agg #[.slice E ne ce, .slice A na ca]] w (Mk 5 .u8 w (encT es (TP.normA l))) := by
  have hb := one_box w (.cells #[.slice E ne ce, .slice A na ca] 26)
  obtain ⟨U, hU⟩ : ∃ U, w.alloc (.cells #[.slice E ne ce, .slice A na ca] 26) = U := ⟨_, rfl⟩
  rw [hU] at hb
  have hlt : U.heap.size = w.heap.size + 1 := by rw [← hU]; simp
  have k1 : U.heap[w.heap.size]? = some (.cells #[.slice E ne ce, .slice A na ca] 26 (0, 0)) := by rw [← hU]; exact new_at rfl
  obtain ⟨⟨b0, b1⟩, _, _⟩ := row2 k1
  have HN := Lib.hid (normal_any (ce := ce) (ca := ca) U (h.keep hb))
  have hl1 := h.ev.1
  have hl2 := h.an.1
  have hnl := TP.norm_len l
  have H64 := Lib.hid (And.intro he (normA_i64 ha))
  have HB := Lib.hid hb
  clear k1 hb h he ha
  go_enter Try.func33, Try.ntmps33
  go_wp2_with fail
  refine HN.out.mono ?_
  rintro e w1 ⟨⟨v, rfl, E1, ne1, c1, A1, na1, d1, rfl, hT⟩, hb1⟩
  have e1 := hT.1.1
  have e2 := hT.1.2
  have HE := Lib.hid (encode_any (ce := c1) (ca := d1) w1 (TapeIs.tin hT (by omega) (by omega)) (by omega) (by omega) H64.out.1 H64.out.2)
  have HB1 := Lib.hid hb1
  have hs1 := hb1.size
  clear hT hb1 HN b0 b1 hU
  go_wp2_with fail
  refine HE.out.mono ?_
  rintro e w2 ⟨B, n, c, rfl, m1, m2, m3, m4⟩
  have HM := Lib.hid (And.intro m1 (And.intro m2 (And.intro m3 m4)))
  clear m1 m2 m3 m4
  go_wp2_with fail
  go_ret
  obtain ⟨m1, m2, m3, m4⟩ := HM.out
  exact ⟨B, n, c, rfl, m1, m2, own_baseT m3 (by omega), HB.out.trans ((HB1.out.mono (by omega)).trans (m4.mono (by omega)))⟩
end Go.Proofs.Ytiokiecnglmbnaa

namespace Go.Proofs.Ytiokiecnglmbnaa
open Go Go.RowKit Go.Proofs
attribute [local go_sem] Oper.semAt_some

/-- Two boxes and a third. -/
theorem three_boxes (w : World) (A B C : Obj) : ∃ U, ((w.alloc A).alloc B).alloc C = U ∧ Below w.heap.size w U ∧ U.heap[w.heap.size]? = some A ∧ U.heap[w.heap.size + 1]? = some B ∧ U.heap[w.heap.size + 1 + 1]? = some C ∧ w.heap.size + 2 < U.heap.size := by
  refine ⟨_, rfl, (((Below.refl _ _).alloc (Nat.le_refl _) _).alloc (by simp) _).alloc (by simp; omega) _, ?_, ?_, new_at (by simp), by simp⟩
  · rw [Below.heap_alloc _ _ _ (by simp; omega), Below.heap_alloc _ _ _ (by simp)]
    exact new_at rfl
  · rw [Below.heap_alloc _ _ _ (by simp)]
    exact new_at (by simp)
set_option maxHeartbeats 4000000 in
set_option maxRecDepth 100000 in
theorem with_any {E A : Option Addr} {ne ce na ca : Nat} {es : List NM.Ev} {l : List TP.An} (q : NM.Qu) (y : Int) (w : World) (h : TIn w E ne ce A na es l) :
    Calls Try.prog 23 #[.agg #[.slice E ne ce, .slice A na ca], quV q, .int .i64 y] w fun e w' => (∃ v, e = .returned v ∧ TapeN w.heap.size w' v es (TP.withA l q y)) ∧ Below w.heap.size w w' := by
  obtain ⟨qc, qh, qt, qk, qi⟩ := q
  obtain ⟨U, hU, hb, k0, k1, k2, hlt⟩ := three_boxes w (.cells #[.slice E ne ce, .slice A na ca] 26) (.cells #[.int .i64 qc, .int .i64 qh, .int .i64 qt, .int .i64 qk, .int .i64 qi] 30) (.cells #[.slice none 0 0, .slice none 0 0] 26)
  have HI := Lib.hid (h.keep hb)
  have HK := Lib.hid (fun (V : World) (h0 : V.heap[w.heap.size]? = U.heap[w.heap.size]?) (h1 : V.heap[w.heap.size + 1]? = U.heap[w.heap.size + 1]?) => And.intro (row2 (h0.trans k0)) (row5 (h1.trans k1)))
  have HR := Lib.hid k2
  have HB := Lib.hid hb
  have hba := h.ba0
  have hbe := h.be
  have HWN := Lib.hid (show ∀ r, TP.getA (l ++ [(⟨qc, qh, qt, qk, qi⟩, y)]) r = updQ (TP.getA l) ⟨qc, qh, qt, qk, qi⟩ y r from fun r => updQ_get _ _ _)
  obtain ⟨⟨⟨b0, b1⟩, _, _⟩, d0, d1, d2, d3, d4⟩ := HK.out U rfl rfl
  clear k0 k1 k2 hb h
  go_enter Try.func23, Try.ntmps23
  go_wp2_with (first
    | (go_at_call 45; refine (collectA_any _ HI.out.an HI.out.ba).mono ?_; rintro e w1 ⟨B, rfl, hB1, hm1, hbl1⟩
       have HM1 := Lib.hid (And.intro hB1 (And.intro hm1 hbl1))
       obtain ⟨⟨⟨b0, b1⟩, _, _⟩, d0, d1, d2, d3, d4⟩ := HK.out w1 (hbl1.block _ (by omega)) (hbl1.block _ (by omega))
       clear hB1 hm1 hbl1)
    | (go_at_call 50; refine (set_any B na _ ⟨qc, qh, qt, qk, qi⟩ y _ HM1.out.2.1).mono ?_; rintro e w2 ⟨rfl, hm2, hg2⟩
       have HM2 := Lib.hid (And.intro (hm2.congr HWN.out) hg2)
       have hB1 := HM1.out.1
       have hs2 := HM1.out.2.2.size
       have hk2 : ∀ b, b < U.heap.size → w2.heap[b]? = U.heap[b]? := fun b hb => (hg2.block b (by omega) (fun e => by injection e with e; omega)).trans (HM1.out.2.2.block b hb)
       obtain ⟨⟨⟨b0, b1⟩, _, _⟩, d0, d1, d2, d3, d4⟩ := HK.out w2 (hk2 _ (by omega)) (hk2 _ (by omega))
       have hbu2 : Below U.heap.size U w2 := ⟨hg2.os.trans HM1.out.2.2.os, hg2.tape.trans HM1.out.2.2.tape, hg2.output.trans HM1.out.2.2.output, Nat.le_trans hs2 hg2.size, hk2⟩
       have HB2 := Lib.hid hbu2
       clear hm2 hg2 hB1 hs2 hk2 hbu2))
  refine (tape_any B (na + 1) _ (HI.out.keep HB2.out).ev HI.out.nil HI.out.be HM2.out.1 (by omega)).mono ?_
  rintro e w3 ⟨⟨v, rfl, E', ne', ce', A', na', ca', rfl, ht⟩, hb3⟩
  have hR3 : w3.heap[w.heap.size + 1 + 1]? = _ := (hb3.block _ (by have := HB2.out.size; omega)).trans ((HB2.out.block _ (by omega)).trans HR.out)
  have HT := Lib.hid (And.intro ht hb3)
  clear ht hb3
  go_wp2_with (refine RgX.wpList_store_seg rfl 26 _ _ rfl (w.heap.size + 1 + 1) 0 (.agg #[.slice E' ne' ce', .slice A' na' ca']) rfl rfl 26 _ hR3 (by rw [size_tape]; rfl) (by show 0 + 2 ≤ 2; omega) (by simp [Value.cells, Value.oneCell']) #[.slice E' ne' ce', .slice A' na' ca'] rfl ?_; intro W4 k4 ho4 hz4 hb4)
  obtain ⟨⟨r0, r1⟩, _, _⟩ := row2 k4
  have hgr : w3.grownBy W4 (some (w.heap.size + 1 + 1)) := ⟨hb4.os, hb4.tape, hb4.output, by omega, fun b _ hne => ho4 b (fun e => hne (by rw [e]))⟩
  have hT4 := (TapeIs.grown HT.out.1 hgr hR3 (by decide) (by decide)).low (show w.heap.size ≤ w2.heap.size by have := HB2.out.size; omega)
  refine bodyPost_ret (v := .agg #[.slice E' ne' ce', .slice A' na' ca']) (by simp [results, Try.results23, go_sem, r0, r1]) rfl ?_
  have hs := HB2.out.size
  exact ⟨⟨_, rfl, E', ne', ce', A', na', ca', rfl, hT4⟩, HB.out.trans ((HB2.out.mono (by omega)).trans ((HT.out.2.mono (by omega)).trans (hb4.mono (by omega))))⟩
end Go.Proofs.Ytiokiecnglmbnaa

namespace Go.Proofs.Ytiokiecnglmbnaa
open Go Go.RowKit Go.Proofs Go.Shelf
attribute [local go_sem] Oper.semAt_some

theorem backwardA_any (A : Option Addr) (n c : Nat) (w : World) :
    Calls Try.prog 49 #[.slice A n c] w fun e w' => e = .returned (.func (.func 73) #[] #[.pointer (some ⟨w.heap.size, 0, none⟩)]) ∧ w' = w.alloc (.cells #[.slice A n c] 24) := by
  go_enter Try.func49, Try.ntmps49
  go_wp2
  go_ret
  exact ⟨rfl, rfl⟩
/-- The blocks of X lie as they lay, and no block has gone. -/
def KpX (X : Nat → Prop) (W W' : World) : Prop := W.heap.size ≤ W'.heap.size ∧ ∀ k, X k → W'.heap[k]? = W.heap[k]?
theorem KpX.refl (X : Nat → Prop) (W : World) : KpX X W W := ⟨Nat.le_refl _, fun _ _ => rfl⟩
theorem KpX.trans {X : Nat → Prop} {A B C : World} (h : KpX X A B) (k : KpX X B C) : KpX X A C := ⟨Nat.le_trans h.1 k.1, fun i hi => (k.2 i hi).trans (h.2 i hi)⟩
/-- An answer with its place. -/
def bwE (x : Nat × TP.An) : Array Value := #[.int .i64 (x.1 : Int), anV x.2]
set_option maxRecDepth 100000 in
set_option maxHeartbeats 4000000 in
theorem backwardA1_in (N : Nat) (hN : 3 ≤ N) (l Bs : Nat) (X : Nat → Prop) (A : Option Addr) (n c : Nat) (L : List TP.An) (hL : L.length = n) (hb : n ≤ 1000000) (J Jx : List (Nat × TP.An) → World → Prop)
    (hY : ∀ pre x W, J pre W → pre.length < n → YieldAt Fence.wide (N - 1) Try.prog l (bwE x) W fun e W' =>
      (e = .returned (.bool true) ∧ J (pre ++ [x]) W' ∧ KpX X W W') ∨ (e = .returned (.bool false) ∧ Jx (pre ++ [x]) W'))
    (W : World) (hX : X Bs) (hBs : W.cell? ⟨Bs, 0, none⟩ = some (.slice A n c)) (hA : 0 < n → ∃ g, A = some ⟨g, 0, none⟩ ∧ X g ∧ ∀ j x, L[j]? = some x → AnAt W g j x) (h0 : J [] W) :
    CallsIn Fence.wide N Try.prog 73 #[.func (.yield l) #[] #[], .pointer (some ⟨Bs, 0, none⟩)] W fun e W' => (∃ v, e = .returned v) ∧
      ((∃ ys : List (Nat × TP.An), ys.map (·.2) = L.reverse ∧ J ys W') ∨ (∃ pre : List (Nat × TP.An), (pre.map (·.2)) <+: L.reverse ∧ Jx pre W')) := by
  have HA := Lib.hid hA
  refine callsIn_of_wp Try.func73 rfl trivial ?_ rfl
  simp only [Try.ntmps73, List.size_toArray, List.length_cons, List.length_nil, Nat.reduceAdd, Nat.reduceSub, Array.replicate_succ, Array.replicate_zero, List.push_toArray, List.append_toArray, List.nil_append, List.cons_append]
  have HL := Lib.hid hL
  clear hA hL
  gi_wp2
  gi_loopw [3] (fun i V => ∃ (j : Nat) (pre : List (Nat × TP.An)), i = .int .i64 ((j : Int) - 1) ∧ j ≤ n ∧ pre.length = n - j ∧ Hid (pre.map (·.2) = (L.drop j).reverse) ∧ Hid (J pre V) ∧ Hid (KpX X W V)) (fun i _ => (intOf i + 1).toNat)
  case atStart => exact ⟨n, [], rfl, Nat.le_refl _, by simp, (show List.map _ [] = _ by rw [List.drop_eq_nil_of_le (by rw [HL.out]; exact Nat.le_refl _)]; rfl), h0, KpX.refl _ _⟩
  case round =>
    obtain ⟨j, pre, rfl, hj, hpl, hpre, hJ, hK⟩ := hrel
    have hbx : wr.cell? ⟨Bs, 0, none⟩ = some (.slice A n c) := (World.cell?_of_block (w := W) (hK.out.2 _ hX)).trans hBs
    rcases Nat.eq_zero_or_pos j with h0j | h0j
    · subst h0j
      have HP := Lib.hid (show pre.map (·.2) = L.reverse from hpre.out)
      clear hpre
      have hneg : ((0 : Int) - 1) = -1 := rfl
      gi_wp2
      go_end0
      exact ⟨⟨_, rfl⟩, .inl ⟨pre, HP.out, hJ.out⟩⟩
    · obtain ⟨i, rfl⟩ : ∃ i, j = i + 1 := ⟨j - 1, by omega⟩
      have hi : ((i + 1 : Nat) : Int) - 1 = (i : Int) := by omega
      rw [hi]
      obtain ⟨g, hg, hgX, hxs⟩ := HA.out (by omega)
      subst hg
      obtain ⟨x, hx⟩ : ∃ x, L[i]? = some x := ⟨_, List.getElem?_eq_getElem (by rw [HL.out]; omega)⟩
      have hcx : ∀ o, wr.cell? ⟨g, o, none⟩ = W.cell? ⟨g, o, none⟩ := fun o => World.cell?_of_block (w := W) (hK.out.2 _ hgX)
      obtain ⟨x0, x1, x2, x3, x4, x5⟩ := hxs i x hx
      rw [← hcx] at x0 x1 x2 x3 x4 x5
      obtain ⟨fn, tmps, assign, body, hy, hR⟩ := hY pre (i, x) wr hJ.out (by omega)
      unfold bwE at hy
      dsimp only at hy
      have HPP := Lib.hid (show (pre ++ [(i, x)]).map (·.2) = (L.drop i).reverse by
        obtain ⟨h1, e⟩ := List.getElem?_eq_some_iff.1 hx
        rw [List.map_append, hpre.out, List.drop_eq_getElem_cons h1, List.reverse_cons, e]
        rfl)
      have HPX := Lib.hid (show (pre ++ [(i, x)]).map (·.2) <+: L.reverse by
        rw [HPP.out]
        refine ⟨(L.take i).reverse, ?_⟩
        rw [← List.reverse_append, List.take_append_drop])
      obtain ⟨⟨c', h', t', k', i'⟩, y'⟩ := x
      clear hY hpre hcx hxs hx
      gi_wp2
      all_goals
        refine ⟨fun _ => by omega, hR.mono ?_⟩
        rintro e W3 (⟨rfl, hJ3, hk3⟩ | ⟨rfl, hJx3⟩)
      · gi_wp2
        go_roundw
        case rel => exact ⟨i, _, rfl, by omega, by rw [List.length_append, List.length_singleton]; omega, HPP.out, hJ3, hK.out.trans hk3⟩
        case measure => simp [intOf]
      · gi_wp2
        refine bodyPost_ret (results_none rfl _ _ _) rfl ?_
        exact ⟨⟨_, rfl⟩, .inr ⟨_, HPX.out, hJx3⟩⟩
theorem backwardA_stops (N : Nat) (hN : 3 ≤ N) (Bs : Nat) (X : Nat → Prop) (A : Option Addr) (n c : Nat) (L : List TP.An) (hL : L.length = n) (hb : n ≤ 1000000) (w : World) (hX : X Bs) (hlt : Bs < w.heap.size) (hBs : w.cell? ⟨Bs, 0, none⟩ = some (.slice A n c)) (hA : 0 < n → ∃ g, A = some ⟨g, 0, none⟩ ∧ X g ∧ g < w.heap.size ∧ ∀ j x, L[j]? = some x → AnAt w g j x) :
    SeqStopsK Fence.wide N Try.prog 73 #[.pointer (some ⟨Bs, 0, none⟩)] bwE (KpX X) (fun ys => ys.map (·.2) = L.reverse) (fun pre => (pre.map (·.2)) <+: L.reverse) n w :=
  fun l J Jx W hW _ _ hY h0 => backwardA1_in N hN l Bs X A n c L hL hb J Jx hY W hX ((hW.cell (p := ⟨Bs, 0, none⟩) hlt).trans hBs) (fun hn => by
    obtain ⟨g, e, h1, h2, h3⟩ := hA hn
    exact ⟨g, e, h1, fun j x hj => (h3 j x hj).keep h2 hW⟩) h0
end Go.Proofs.Ytiokiecnglmbnaa

namespace Go.Proofs.Ytiokiecnglmbnaa
open Go Go.RowKit Go.Proofs Go.Shelf
attribute [local go_sem] Oper.semAt_some

namespace TP
theorem getA_skip (l : List An) (q : NM.Qu) : ∀ r : List An, (∀ y ∈ r, y.1 ≠ q) → getA (l ++ r) q = getA l q := by
  intro r
  induction r using snoc_ind with
  | h0 => intro _; rw [List.append_nil]
  | h1 r a ih =>
    intro h
    rw [← List.append_assoc, getA_snoc, if_neg (h a (by simp))]
    exact ih fun y hy => h y (by simp [hy])
theorem getA_miss {l : List An} {q : NM.Qu} (h : ∀ y ∈ l, y.1 ≠ q) : getA l q = 0 := by
  have := getA_skip [] q l h
  rwa [List.nil_append] at this
theorem getA_hit {l ps : List An} {x : An} {q : NM.Qu} (hp : (ps ++ [x]) <+: l.reverse) (hn : ∀ y ∈ ps, y.1 ≠ q) (hx : x.1 = q) : getA l q = max 0 x.2 := by
  obtain ⟨r, hr⟩ := hp
  have hl : l = r.reverse ++ [x] ++ ps.reverse := by
    have := congrArg List.reverse hr
    rw [List.reverse_reverse] at this
    rw [← this]
    simp
  rw [hl, getA_skip _ _ _ (fun y hy => hn y (List.mem_reverse.1 hy)), getA_snoc, if_pos hx]
end TP
/-- Between two rounds of Get's loop: no answer to the question has come. -/
def GetI (w : World) (u : Nat) (q : NM.Qu) (pre : List (Nat × TP.An)) (W : World) : Prop := (W.heap[w.heap.size + 1]? = some (.cells #[.int .i64 q.c, .int .i64 q.h, .int .i64 q.t, .int .i64 q.k, .int .i64 q.i] 30 (0, 0)) ∧ Boxed W (w.heap.size + 1 + 1) 3 (.int .i64 0)) ∧ ((∀ x ∈ pre, x.2.1 ≠ q) ∧ Below w.heap.size w W) ∧ u < W.heap.size
/-- The loop is left: the last that has come is an answer. -/
def GetX (w : World) (q : NM.Qu) (c : Code) (pre : List (Nat × TP.An)) (W : World) : Prop := c = .ret ∧ ∃ ps x, pre = ps ++ [x] ∧ (∀ y ∈ ps, y.2.1 ≠ q) ∧ x.2.1 = q ∧ Boxed W (w.heap.size + 1 + 1) 3 (.int .i64 (max 0 x.2.2)) ∧ Below w.heap.size w W
theorem tmaxE (y : Int) : (if 0 < y then y else 0) = max 0 y := by split <;> omega
theorem box_putD {W : World} {D b : Nat} {t : TypeId} {u : Value} (h : Boxed W b t u) (hK : W.heap[D]? = some (.deferred (some []))) (o : Obj) : Boxed (W.putObj D o) b t u :=
  block_own_c h (grownBy_putObj' W D o) (fun r e => by cases e; exact ⟨_, hK, rfl⟩)
theorem get_ret {V : World} {b : Nat} {u : Value} (tmps : Array Value) (hp : tmps.getD 4 undef = .pointer (some ⟨b, 0, none⟩)) (hu : Boxed V b 3 u) : (results Try.f21 tmps).run Try.prog V = .ok u V := by
  have c1 := hu.cell
  have hp' : tmps[4]?.getD undef = .pointer (some ⟨b, 0, none⟩) := by simpa using hp
  simp [results, Try.results21, go_sem, hp', c1]
set_option maxRecDepth 100000 in
set_option maxHeartbeats 8000000 in
theorem get_in (n : Nat) (hn : 6 ≤ n) {E A : Option Addr} {ne ce na ca : Nat} {es : List NM.Ev} {l : List TP.An} (q : NM.Qu) (w : World) (h : TIn w E ne ce A na es l) :
    CallsIn Fence.wide n Try.prog 21 #[.agg #[.slice E ne ce, .slice A na ca], quV q] w fun e w' => e = .returned (.int .i64 (TP.getA l q)) ∧ Below w.heap.size w w' := by
  have h1 : 1 ≤ n := by omega
  refine callsIn_of_wp_marks Try.func21 rfl trivial ?_ rfl
  simp only [Try.ntmps21, List.size_toArray, List.length_cons, List.length_nil, Nat.reduceAdd, Nat.reduceSub, Array.replicate_succ, Array.replicate_zero, List.push_toArray, List.append_toArray, List.nil_append, List.cons_append]
  obtain ⟨qc, qh, qt, qk, qi⟩ := q
  obtain ⟨U, hU, hb, k0, k1, k2, hlt⟩ := three_boxes w (.cells #[.slice E ne ce, .slice A na ca] 26) (.cells #[.int .i64 qc, .int .i64 qh, .int .i64 qt, .int .i64 qk, .int .i64 qi] 30) (.cells #[.int .i64 0] 3)
  have hba := h.ba
  have HA := Lib.hid h.an
  have hE0 := row2 k0
  have hBA := backwardA_any A na ca U
  obtain ⟨⟨b0, b1⟩, _, _⟩ := hE0
  have HK := Lib.hid (And.intro k1 k2)
  have HB := Lib.hid hb
  clear k0 k1 k2 hb h
  gi_wp2_with (refine ⟨trivial, ?_⟩; gi_at_call 49; refine (callsIn_wide.2 hBA).mono ?_; rintro e w' ⟨rfl, rfl⟩)
  clear hU b0 b1
  obtain ⟨w', hw'⟩ : ∃ W, U.alloc (.cells #[.slice A na ca] 24) = W := ⟨_, rfl⟩
  rw [hw']
  have hbU : Below U.heap.size U w' := hw' ▸ one_box U _
  have hsz : w'.heap.size = U.heap.size + 1 := by rw [← hw']; simp
  have hB0 : Below w.heap.size w w' := HB.out.trans (hbU.mono (by omega))
  have bx : w'.cell? ⟨U.heap.size, 0, none⟩ = some (.slice A na ca) := by rw [← hw']; exact cell_of_row _ _ 0 _ _ (0, 0) (World.alloc_heap_new U _)
  have kq : w'.heap[w.heap.size + 1]? = some (.cells #[.int .i64 qc, .int .i64 qh, .int .i64 qt, .int .i64 qk, .int .i64 qi] 30 (0, 0)) := (hbU.block _ (by omega)).trans HK.out.1
  have kr : Boxed w' (w.heap.size + 1 + 1) 3 (.int .i64 0) := (hbU.block _ (by omega)).trans HK.out.2
  have hAA : 0 < na → ∃ g, A = some ⟨g, 0, none⟩ ∧ g < w.heap.size ∧ ∀ j x, l[j]? = some x → AnAt w' g j x := fun hn => by
    obtain ⟨g, e, hg, hx⟩ := HA.out.2 hn
    exact ⟨g, e, hg, fun j x hj => (hx j x hj).keep hg hB0⟩
  have HAA := Lib.hid hAA
  clear hAA hw' hBA
  refine wpIn_rangeFunc_ownH rfl h1 (gf := 73) (lb := #[.pointer (some ⟨U.heap.size, 0, none⟩)]) rfl trivial (enters_of Try.func73 (by kernel_rfl) rfl)
    (backwardA_stops (n - 1) (by omega) U.heap.size (fun k => k = U.heap.size ∨ k < w.heap.size) A na ca l HA.out.1 hba w' (.inl rfl) (by omega) bx (fun hn => by
      obtain ⟨g, e, hg, hx⟩ := HAA.out hn
      exact ⟨g, e, .inr hg, by omega, hx⟩))
    (fun h k => KpX.trans h k) (fun W l o o' hl h _ _ => ⟨by simp, fun k hk => World.putObj_heap_other (by rcases hk with rfl | hk <;> omega)⟩) (Below.refl _ _) (fun _ => rfl)
    (GetI w U.heap.size ⟨qc, qh, qt, qk, qi⟩) (GetX w ⟨qc, qh, qt, qk, qi⟩)
    (fun pre X Y row hx hg hr => ⟨⟨block_own_c hx.1.1 hg (fun r e => (hr r e).2), block_own_c hx.1.2 hg (fun r e => (hr r e).2)⟩, ⟨hx.2.1.1, hx.2.1.2.grown hg hx.2.1.2.size (fun k e => by have := (hr k e).1; omega)⟩, Nat.lt_of_lt_of_le hx.2.2 hg.size⟩)
    (fun c pre X Y row hx hg hr => by
      obtain ⟨e0, ps, x, e1, e2, e3, h0, hb⟩ := hx
      exact ⟨e0, ps, x, e1, e2, e3, block_own_c h0 hg (fun r e => (hr r e).2), hb.grown hg hb.size (fun k e => by have := (hr k e).1; omega)⟩)
    ⟨⟨kq, kr⟩, ⟨(fun x h => by cases h), hB0⟩, by omega⟩
    (fun x a' W => ∃ Bx, W.heap[Bx]? = some (.cells (TP.anC x.2).toArray 71 (0, 0)) ∧ w.heap.size ≤ Bx ∧ a' = { tmps := #[.agg #[.slice E ne ce, .slice A na ca], quV ⟨qc, qh, qt, qk, qi⟩, .pointer (some ⟨w.heap.size, 0, none⟩), .pointer (some ⟨w.heap.size + 1, 0, none⟩), .pointer (some ⟨w.heap.size + 1 + 1, 0, none⟩), undef, .pointer (some ⟨Bx, 0, none⟩), .pointer (some ⟨w.heap.size, 1, none⟩), .slice A na ca, .func (.func 73) #[] #[.pointer (some ⟨U.heap.size, 0, none⟩)], .int .i64 (x.1 : Int), anV x.2, undef, undef, undef, undef, undef, undef, undef], defers := [] })
    (fun x a' _ X Y row hs hg hr => by obtain ⟨Bx, h1, h2, h3⟩ := hs; exact ⟨Bx, block_own_c h1 hg (fun r e => (hr r e).2), h2, h3⟩)
    ?assign ?body ?done ?stop
  case assign =>
    rintro l' pre ⟨i, ⟨⟨xc, xh, xt, xk, xi⟩, y⟩⟩ W K ⟨⟨c1, c2⟩, ⟨hz, hB⟩, bxW⟩ hK
    have hK := Lib.hid hK
    have hsW := hB.size
    unfold bwE
    gi_wp2
    exact hK.out _ _ ((KeepsOthers.alloc _ _).from _) ⟨by simp, fun k hk => Below.heap_alloc _ _ _ (by rcases hk with rfl | hk <;> omega)⟩ ⟨⟨(Below.heap_alloc _ _ _ (heap_lt c1)).trans c1, (Below.heap_alloc _ _ _ (heap_lt c2)).trans c2⟩, ⟨hz, hB.alloc hB.size _⟩, by simp; omega⟩ ⟨W.heap.size, World.alloc_heap_new W _, hsW, rfl⟩
  case body =>
    rintro l' pre ⟨i, ⟨⟨xc, xh, xt, xk, xi⟩, y⟩⟩ a' W hl ⟨r, hr⟩ ⟨⟨c1, c2⟩, ⟨hz, hB⟩, bxW⟩ ⟨Bx, htk, hBx, rfl⟩ hlt2
    obtain ⟨t0, t1, t2, t3, t4, t5⟩ : AnAt W Bx 0 (⟨xc, xh, xt, xk, xi⟩, y) := ⟨cell_of_row _ _ 0 _ _ (0, 0) htk, cell_of_row _ _ 1 _ _ (0, 0) htk, cell_of_row _ _ 2 _ _ (0, 0) htk, cell_of_row _ _ 3 _ _ (0, 0) htk, cell_of_row _ _ 4 _ _ (0, 0) htk, cell_of_row _ _ 5 _ _ (0, 0) htk⟩
    obtain ⟨d0, d1, d2, d3, d4⟩ := row5 c1
    have heq : ∀ V, (binOp .eql 30 (quV ⟨xc, xh, xt, xk, xi⟩) (quV ⟨qc, qh, qt, qk, qi⟩)).run Try.prog V = .ok (.bool (decide ((⟨xc, xh, xt, xk, xi⟩ : NM.Qu) = ⟨qc, qh, qt, qk, qi⟩))) V := fun V => eqQ_any _ _ V
    have HI := Lib.hid (And.intro (And.intro c1 c2) (And.intro hz hB))
    have hc2 := c2.cell
    have hf2 := c2.frozen
    clear c1 c2 hz hlt2 hr
    by_cases hxq : (⟨xc, xh, xt, xk, xi⟩ : NM.Qu) = ⟨qc, qh, qt, qk, qi⟩
    · have dq : decide ((⟨xc, xh, xt, xk, xi⟩ : NM.Qu) = ⟨qc, qh, qt, qk, qi⟩) = true := decide_eq_true hxq
      simp only [dq] at heq
      have HX := Lib.hid hxq
      clear hxq dq
      gi_wp2
      refine ⟨(KeepsOthers.setCell _ _ _).from _, ?_⟩
      show GetX _ _ _ _ _
      have hset := HI.out.1.2.set (.int .i64 (max y 0))
      exact ⟨rfl, pre, _, rfl, HI.out.2.1, HX.out, by show Boxed _ _ _ (.int .i64 (max 0 y)); rw [Int.max_comm 0 y]; exact hset, HI.out.2.2.setCell (p := ⟨w.heap.size + 1 + 1, 0, none⟩) (by show w.heap.size ≤ w.heap.size + 1 + 1; omega) _⟩
    · have dq : decide ((⟨xc, xh, xt, xk, xi⟩ : NM.Qu) = ⟨qc, qh, qt, qk, qi⟩) = false := decide_eq_false hxq
      simp only [dq] at heq
      have HX := Lib.hid hxq
      clear hxq dq
      gi_wp2
      refine ⟨(KeepsOthers.refl _).from _, KpX.refl _ _, ?_⟩
      show GetI _ _ _ _ _
      refine ⟨HI.out.1, ⟨fun z hz => ?_, HI.out.2.2⟩, bxW⟩
      rcases List.mem_append.1 hz with hz | hz
      · exact HI.out.2.1 z hz
      · rw [List.mem_singleton] at hz
        subst hz
        exact HX.out
  case done =>
    rintro D ys W hD hS ⟨⟨c1, c2⟩, ⟨hz, hB⟩, bxW⟩ hK
    have hget := TP.getA_miss (l := l) (q := ⟨qc, qh, qt, qk, qi⟩) (fun y hy => by
      have : y ∈ ys.map (·.2) := by rw [hS]; exact List.mem_reverse.2 hy
      obtain ⟨z, hz2, rfl⟩ := List.mem_map.1 this
      exact hz z hz2)
    have hc2 := c2.cell
    have hf2 := c2.frozen
    have HC := Lib.hid (And.intro c2 (And.intro hB hK))
    have HG := Lib.hid hget
    clear c1 hz hB hK hget hS
    gi_wp2
    refine ⟨by simp, .inl ⟨_, _, rfl, run_takeDeferred ((Below.heap_setCell _ _ _ _ (by show D ≠ w.heap.size + 1 + 1; omega)).trans HC.out.2.2), ?_⟩⟩
    refine ⟨_, get_ret _ rfl (box_putD (HC.out.1.set (.int .i64 0)) ((Below.heap_setCell _ _ _ _ (by show D ≠ w.heap.size + 1 + 1; omega)).trans HC.out.2.2) _), by rw [HG.out], ?_⟩
    exact (HC.out.2.1.setCell (p := ⟨w.heap.size + 1 + 1, 0, none⟩) (by show w.heap.size ≤ w.heap.size + 1 + 1; omega) _).grown (grownBy_putObj' _ _ _) (by have := HC.out.2.1.size; simp [World.setCell]; omega) (fun k e => by injection e with e; omega)
  case stop =>
    rintro D c pre W hD hpre ⟨rfl, ps, x, rfl, hps, hx, c2, hB⟩ hK
    have hget := TP.getA_hit (l := l) (ps := ps.map (·.2)) (x := x.2) (q := ⟨qc, qh, qt, qk, qi⟩) (by simpa using hpre) (fun y hy => by
      obtain ⟨z, hz2, rfl⟩ := List.mem_map.1 hy
      exact hps z hz2) hx
    gi_wp2
    refine ⟨by simp, .inl ⟨_, _, rfl, run_takeDeferred hK, ?_⟩⟩
    refine ⟨_, get_ret _ rfl (box_putD c2 hK _), by rw [hget], ?_⟩
    exact hB.grown (grownBy_putObj' _ _ _) hB.size (fun k e => by injection e with e; omega)
theorem get_any {E A : Option Addr} {ne ce na ca : Nat} {es : List NM.Ev} {l : List TP.An} (q : NM.Qu) (w : World) (h : TIn w E ne ce A na es l) :
    Calls Try.prog 21 #[.agg #[.slice E ne ce, .slice A na ca], quV q] w fun e w' => e = .returned (.int .i64 (TP.getA l q)) ∧ Below w.heap.size w w' := callsIn_wide.1 (get_in 6 (by decide) q w h)
end Go.Proofs.Ytiokiecnglmbnaa
