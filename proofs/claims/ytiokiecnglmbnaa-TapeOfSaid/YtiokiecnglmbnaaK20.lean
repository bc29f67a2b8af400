/-
  The tape of some events and the map of answers. Conditions: the sizes.
  Tapes that come in and tapes that were made, and what a slot of a region is to hold of them. No function of the program.
  The program's encode: the bytes of a tape. Conditions: the lengths; the numbers are Go's.
  The program's decode, its first loop: the events. Conditions: the bytes' number.
  The program's encode of a normal tape. Conditions: at most 1000 events and 1000 answers; the numbers are Go's.
-/
import Derived.Test.YtiokiecnglmbnaaK12
import Derived.Test.YtiokiecnglmbnaaK4
import Derived.Test.YtiokiecnglmbnaaK17
import Derived.Test.YtiokiecnglmbnaaK5
import Derived.Test.YtiokiecnglmbnaaK18
import Derived.Test.YtiokiecnglmbnaaK15
import Derived.Test.YtiokiecnglmbnaaK19
import Derived.Test.YtiokiecnglmbnaaK3
import Derived.Test.YtiokiecnglmbnaaK23
import Derived.Deep.AppendLies

namespace Go.Proofs.Ytiokiecnglmbnaa
open Go Go.RowKit Go.Proofs
attribute [local go_sem] Oper.semAt_some

theorem own_belowT {w w' : World} {base size n : Nat} {e : TypeId} {v : Value} {xs : List Value} (h : w.ownsRow base e size v n xs) (hb : Below w.heap.size w w') : w'.ownsRow base e size v n xs :=
  h.kept (row := none) ⟨hb.os, hb.tape, hb.output, hb.size, fun k hk _ => hb.block k hk⟩ (by cases hv : v.ownBlock <;> simp)
theorem own_baseT {w : World} {base base' size n : Nat} {e : TypeId} {v : Value} {xs : List Value} (h : w.ownsRow base e size v n xs) (hb : base' ≤ base) : w.ownsRow base' e size v n xs := by
  refine ⟨h.1, ?_⟩
  rcases h.2 with h | ⟨g, cap, cur, h1, h2, h3⟩
  · exact .inl h
  · exact .inr ⟨g, cap, cur, h1, Nat.le_trans hb h2, h3⟩
theorem size_tape : (Try.prog.info? 26).map (·.size) = some 2 := by kernel_rfl
theorem size_anss : (Try.prog.info? 24).map (·.size) = some 1 := by kernel_rfl
theorem row2 {V : World} {g : Nat} {t : TypeId} {x0 x1 : Value} (h : V.heap[g]? = some (.cells #[x0, x1] t (0, 0))) : (V.cell? ⟨g, 0, none⟩ = some x0 ∧ V.cell? ⟨g, 1, none⟩ = some x1) ∧ V.frozen? ⟨g, 0, none⟩ = false ∧ V.frozen? ⟨g, 1, none⟩ = false :=
  ⟨⟨cell_of_row _ _ 0 _ _ (0, 0) h, cell_of_row _ _ 1 _ _ (0, 0) h⟩, by simp [World.frozen?, h], by simp [World.frozen?, h]⟩
theorem quC_at : ∀ {l : List NM.Qu} {j o : Nat} {x : NM.Qu}, l[j]? = some x → o < 5 → (l.flatMap quC)[j * 5 + o]? = (quC x)[o]?
  | [], j, o, x, h, _ => by simp at h
  | y :: t, 0, o, x, h, ho => by
    simp only [List.getElem?_cons_zero, Option.some.injEq] at h
    subst h
    show (quC y ++ t.flatMap quC)[0 * 5 + o]? = _
    rw [Nat.zero_mul, Nat.zero_add, List.getElem?_append_left (by exact ho)]
  | y :: t, j + 1, o, x, h, ho => by
    show (quC y ++ t.flatMap quC)[(j + 1) * 5 + o]? = _
    rw [List.getElem?_append_right (by show 5 ≤ _; omega), show (j + 1) * 5 + o - (quC y).length = j * 5 + o by show _ - 5 = _; omega]
    exact quC_at (by simpa using h) ho
/-- The keys' cells. -/
theorem keys_at {w : World} {base n c : Nat} {A : Option Addr} {ss : List NM.Qu} (h : w.ownsRow base 30 5 (.slice A n c) n (ss.flatMap quC)) (hn : 0 < n) : ∃ g, A = some ⟨g, 0, none⟩ ∧ base ≤ g ∧ g < w.heap.size ∧ ∀ V : World, V.heap[g]? = w.heap[g]? → ∀ j q, ss[j]? = some q → (V.cell? ⟨g, j * 5, none⟩ = some (.int .i64 q.c) ∧ V.cell? ⟨g, j * 5 + 1, none⟩ = some (.int .i64 q.h)) ∧ V.cell? ⟨g, j * 5 + 2, none⟩ = some (.int .i64 q.t) ∧ V.cell? ⟨g, j * 5 + 3, none⟩ = some (.int .i64 q.k) ∧ V.cell? ⟨g, j * 5 + 4, none⟩ = some (.int .i64 q.i) := by
  obtain ⟨g, cap, hv, hb, hlt⟩ := h.form hn
  injection hv with hB
  subst hB
  refine ⟨g, rfl, hb, hlt, fun V hV j q hj => ?_⟩
  have key : ∀ o, o < 5 → ∀ u, (quC q)[o]? = some u → V.cell? ⟨g, j * 5 + o, none⟩ = some u := fun o ho u hu => by
    have := h.cells (g := g) rfl (j * 5 + o) u (by rw [quC_at hj ho]; exact hu)
    rw [Addr.add_lit, Nat.zero_add] at this
    exact (World.cell?_of_block (w := w) hV).trans this
  exact ⟨⟨key 0 (by omega) _ rfl, key 1 (by omega) _ rfl⟩, key 2 (by omega) _ rfl, key 3 (by omega) _ rfl, key 4 (by omega) _ rfl⟩
theorem take_map_succ {α β : Type} {l : List α} {k : Nat} {x : α} (f : α → β) (h : l[k]? = some x) : (l.take (k + 1)).map f = (l.take k).map f ++ [f x] := by
  rw [List.take_add_one, h, List.map_append]
  rfl
theorem ansC_snoc (l : List TP.An) (x : TP.An) : TP.ansC (l ++ [x]) = TP.ansC l ++ TP.anC x := by simp [TP.ansC]
/-- A tape in new rows. -/
def TapeN (base : Nat) (w : World) (v : Value) (es : List NM.Ev) (an : List TP.An) : Prop :=
  ∃ E ne ce A na ca, v = .agg #[.slice E ne ce, .slice A na ca] ∧ (es.length = ne ∧ an.length = na) ∧ w.ownsRow base 47 8 (.slice E ne ce) ne (es.flatMap evC) ∧ w.ownsRow base 71 6 (.slice A na ca) na (TP.ansC an)
set_option maxHeartbeats 8000000 in
set_option maxRecDepth 100000 in
theorem tape_any {E : Option Addr} {ne ce : Nat} {es : List NM.Ev} {t : List TP.An} (B m : Nat) (w : World) (he : Evs w E ne es) (hE : E = none → ne = 0 ∧ ce = 0) (bn : ne ≤ 1000000) (hm : MapQ w B (TP.getA t) m) (bm : m ≤ 1000000) :
    Calls Try.prog 46 #[.map (some B), .slice E ne ce] w fun e w' => (∃ v, e = .returned v ∧ TapeN w.heap.size w' v es (TP.normA t)) ∧ Below w.heap.size w w' := by
  obtain ⟨i1, hi1, hz1, hs1, hb1⟩ := info_split' info_answer
  obtain ⟨U, hU⟩ : ∃ U, w.alloc (.cells #[.slice none 0 0, .slice none 0 0] 26) = U := ⟨_, rfl⟩
  have hb : Below w.heap.size w U := hU ▸ one_box w _
  have hltU : w.heap.size < U.heap.size := by rw [← hU]; simp
  have kr : U.heap[w.heap.size]? = some (.cells #[.slice none 0 0, .slice none 0 0] 26 (0, 0)) := by rw [← hU]; exact new_at rfl
  have hbl := hm.lt
  have HCL := Lib.hid (cloneE_any U (he.keep hb) hE bn)
  have HB := Lib.hid hb
  have HR := Lib.hid kr
  have HM := Lib.hid hm
  have HEL := Lib.hid he.1
  clear he hE hm hb kr
  go_enter Try.func46, Try.ntmps46
  go_upto_region 2 with (go_at_call 70; refine HCL.out.mono ?_; rintro e w1 ⟨E', ce', rfl, o1, n1, b1⟩; clear HCL; have HO1 := Lib.hid (And.intro o1 b1); clear o1 n1 b1)
  obtain ⟨w2, hw2⟩ : ∃ w2, w1.alloc (.cells #[.slice E' ne ce', .slice none 0 0] 26) = w2 := ⟨_, rfl⟩
  have hb2 : Below w1.heap.size w1 w2 := hw2 ▸ one_box w1 _
  have hs2 : w2.heap.size = w1.heap.size + 1 := by rw [← hw2]; simp
  have k2 : w2.heap[w1.heap.size]? = some (.cells #[.slice E' ne ce', .slice none 0 0] 26 (0, 0)) := by rw [← hw2]; exact new_at rfl
  have hsU := HO1.out.2.size
  have hbw : Below w.heap.size w w2 := HB.out.trans ((HO1.out.2.mono (Nat.le_of_lt hltU)).trans (hb2.mono (by omega)))
  have hres : w2.heap[w.heap.size]? = some (.cells #[.slice none 0 0, .slice none 0 0] 26 (0, 0)) := (hb2.block _ (by omega)).trans ((HO1.out.2.block _ hltU).trans HR.out)
  have hev : w2.ownsRow w.heap.size 47 8 (.slice E' ne ce') ne (es.flatMap evC) := own_baseT (own_belowT HO1.out.1 hb2) (Nat.le_of_lt hltU)
  obtain ⟨g5, hg5⟩ : ∃ g5, w1.heap.size = g5 := ⟨_, rfl⟩
  rw [hg5] at k2 hs2
  have hgw : w.heap.size < g5 := by omega
  have hm2 := HM.out.keep HM.out.lt hbw
  have hBg : B < g5 := by omega
  have HKY := Lib.hid (fun V => keys_any B V)
  have HSF := Lib.hid (fun (V : World) (e : V = w2.alloc (.cells #[.map (some B)] 85)) => sortedF_any w2.heap.size B m (TP.getA t) V (by rw [e]; simp) (by rw [e]; exact cell_of_row _ _ 0 _ _ (0, 0) (World.alloc_heap_new w2 _)) (hm2.keep hm2.lt (e ▸ one_box w2 _)) bm)
  have HK2 := Lib.hid (And.intro (And.intro k2 hres) (And.intro hev (And.intro hbw hm2)))
  have HSZ := Lib.hid (And.intro hs2 hgw)
  clear hb2 k2 hbw hres hev hm2 HO1 HR HM hsU hs2 HB
  rw [hg5]
  clear hg5
  go_wp2_with (first
    | (go_at_call 72; refine (HKY.out _).mono ?_; rintro e wk ⟨rfl, hwk⟩; have hwk := hwk.symm; subst hwk; clear HKY)
    | (go_at_call 71; refine (HSF.out _ rfl).mono ?_; rintro e w3 ⟨KA, n, kc, ss, rfl, s1, s2, s3, s4, s5, s6⟩; clear HSF; have HS := Lib.hid (And.intro (And.intro s1 s2) (And.intro (And.intro s3 s4) (And.intro s5 s6))); clear s1 s2 s3 s4 s5 s6))
  clear hw2
  have hb3 : Below w2.heap.size w2 w3 := (one_box w2 _).trans (HS.out.2.2.2.mono (by simp))
  have s3 := hb3.size
  have hk3 : w3.heap[g5]? = some (.cells #[.slice E' ne ce', .slice none 0 0] 26 (0, 0)) := (hb3.block _ (by have := HSZ.out; omega)).trans HK2.out.1.1
  have H3 := Lib.hid hb3
  have hbn : n ≤ 1000000 := by have := HS.out.1.2; omega
  have hsl := HS.out.1.1
  have hn0 : 0 < n → ∃ g, KA = some ⟨g, 0, none⟩ ∧ w2.heap.size ≤ g ∧ g < w3.heap.size ∧ ∀ V : World, V.heap[g]? = w3.heap[g]? → ∀ j q, ss[j]? = some q → (V.cell? ⟨g, j * 5, none⟩ = some (.int .i64 q.c) ∧ V.cell? ⟨g, j * 5 + 1, none⟩ = some (.int .i64 q.h)) ∧ V.cell? ⟨g, j * 5 + 2, none⟩ = some (.int .i64 q.t) ∧ V.cell? ⟨g, j * 5 + 3, none⟩ = some (.int .i64 q.k) ∧ V.cell? ⟨g, j * 5 + 4, none⟩ = some (.int .i64 q.i) := fun hn => by
    obtain ⟨g, h1, h2, h3, h4⟩ := keys_at HS.out.2.2.1 hn
    simp at h2
    exact ⟨g, h1, by omega, h3, h4⟩
  have HKS := Lib.hid hn0
  have HSL := Lib.hid hsl
  have HGL := Lib.hid (show w.heap.size < g5 ∧ g5 < w2.heap.size ∧ B < w.heap.size from ⟨HSZ.out.2, by have := HSZ.out.1; omega, hbl⟩)
  clear hn0 hsl hb3
  go_loopw [7, 15] (fun _ i V => ∃ (k : Nat) (A1 : Option Addr) (c1 : Nat), k ≤ n ∧ i = .int .i64 (k : Int) ∧ Hid (V.heap[g5]? = some (.cells #[.slice E' ne ce', .slice A1 k c1] 26 (0, 0))) ∧ Hid (V.ownsRow w3.heap.size 71 6 (.slice A1 k c1) k (TP.ansC ((ss.take k).map fun q => (q, TP.getA t q)))) ∧ Hid (w3.grownBy V (some g5))) (fun _ i _ => n - (intOf i).toNat)
  case atStart => exact ⟨0, none, 0, by omega, rfl, hk3, (show World.ownsRow _ _ _ _ _ _ _ from World.ownsRow_nil _ _ _ _), ⟨rfl, rfl, rfl, Nat.le_refl _, fun _ _ _ => rfl⟩⟩
  case round =>
    obtain ⟨k, A1, c1, hk, rfl, HBX, HAO, HGR⟩ := hrel
    have hsr := HGR.out.size
    by_cases hin : k < n
    · have dk : decide (k < n) = true := decide_eq_true hin
      obtain ⟨⟨qc, qh, qt, qk, qi⟩, hq⟩ : ∃ x, ss[k]? = some x := ⟨_, List.getElem?_eq_getElem (by rw [HSL.out]; exact hin)⟩
      obtain ⟨g, hg, hg1, hg2, hgc⟩ := HKS.out (by omega)
      obtain ⟨⟨c0, c1'⟩, c2, c3, c4⟩ := hgc wr (HGR.out.block g hg2 (fun e => by have := HGL.out; injection e with e; omega)) k ⟨qc, qh, qt, qk, qi⟩ hq
      subst hg
      obtain ⟨y, hy⟩ : ∃ y, TP.getA t ⟨qc, qh, qt, qk, qi⟩ = y := ⟨_, rfl⟩
      have HST := Lib.hid (show TP.ansC ((ss.take (k + 1)).map fun q => (q, TP.getA t q)) = TP.ansC ((ss.take k).map fun q => (q, TP.getA t q)) ++ [.int .i64 qc, .int .i64 qh, .int .i64 qt, .int .i64 qk, .int .i64 qi, .int .i64 y] from by
        rw [take_map_succ _ hq, ansC_snoc, hy]
        rfl)
      have hmr : MapQ wr B (TP.getA t) m := HK2.out.2.2.2.of_block ((HGR.out.block B (by have := HGL.out; omega) (fun e => by have := HGL.out; injection e with e; omega)).trans (H3.out.block B (by have := HGL.out; omega)))
      have HLK := Lib.hid (fun (V : World) (hV : Below wr.heap.size wr V) => show (Instr.lookup 85 (.map (some B)) (.agg #[.int .i64 qc, .int .i64 qh, .int .i64 qt, .int .i64 qk, .int .i64 qi]) false).run Try.prog V = .ok (.int .i64 y) V from by
        have := (hmr.keep hmr.lt hV).look ⟨qc, qh, qt, qk, qi⟩ (TP.getA_nn _ _) false
        rw [hy] at this
        exact this)
      have HBV := Lib.hid (fun (V : World) (hV : Below (wr.heap.size + 1) (wr.alloc (.cells #[.int .i64 qc, .int .i64 qh, .int .i64 qt, .int .i64 qk, .int .i64 qi] 30)) V) => And.intro (row2 ((hV.block g5 (by have := HGL.out; omega)).trans ((Below.heap_alloc _ _ _ (by have := HGL.out; omega)).trans HBX.out))) (row5 ((hV.block wr.heap.size (by omega)).trans (World.alloc_heap_new wr _))))
      clear hgc hq hy hmr
      go_upto_region 5 with (fail)
      clear c0 c1' c2 c3 c4
      obtain ⟨w7, hw7⟩ : ∃ w7, wr.alloc (.cells #[.int .i64 qc, .int .i64 qh, .int .i64 qt, .int .i64 qk, .int .i64 qi] 30) = w7 := ⟨_, rfl⟩
      have hs7 : w7.heap.size = wr.heap.size + 1 := by rw [← hw7]; simp
      have HW7 := Lib.hid (show Below wr.heap.size wr w7 from hw7 ▸ one_box wr _)
      rw [hw7]
      rw [hw7] at HBV
      clear hw7
      refine RgX.tail2 10 8 (fun i => ( 19 + i)) (fun ix_ => match ix_ with | 0 => .v (.pointer (some ⟨g5, 1, none⟩)) | 1 => .v (.slice A1 k c1) | 2 => .v (.agg #[.int .i64 qc, .int .i64 qh, .int .i64 qt, .int .i64 qk, .int .i64 qi]) | 3 => .v (Value.map (some B)) | 4 => .v (.agg #[.int .i64 qc, .int .i64 qh, .int .i64 qt, .int .i64 qk, .int .i64 qi]) | 5 => .v (.int .i64 y) | 6 => .v (.agg #[.int .i64 qc, .int .i64 qh, .int .i64 qt, .int .i64 qk, .int .i64 qi, .int .i64 y]) | 7 => .row #[.int .i64 qc, .int .i64 qh, .int .i64 qt, .int .i64 qk, .int .i64 qi, .int .i64 y] 71 1 | 8 => .any | 9 => .v (.pointer (some ⟨g5, 1, none⟩)) | _ => .any) [9] (fun ix_ => match ix_ with | 9 => .pointer (some ⟨g5, 1, none⟩) | _ => undef) _ _ (fun v w' => ∃ (B' : Option Addr) (c' : Nat), v = .slice B' (k + 1) c' ∧ ∃ V3, Below w7.heap.size w7 V3 ∧ w'.ownsRow w3.heap.size 71 6 (.slice B' (k + 1) c') (k + 1) (TP.ansC ((ss.take k).map fun q => (q, TP.getA t q)) ++ [.int .i64 qc, .int .i64 qh, .int .i64 qt, .int .i64 qk, .int .i64 qi, .int .i64 y]) ∧ V3.grownBy w' (Value.slice A1 k c1).ownBlock) (by kernel_rfl) rfl rfl (by decide) rfl (by kernel_rfl) (by kernel_rfl) (by kernel_rfl) (by decide) (fun i hi => by show ( 19 + i) < 31; (repeat' split) <;> omega) (fun i j hi hj => by show ( 19 + i) = ( 19 + j) → i = j; (repeat' split) <;> omega) ?step ?app ?flo ?hF ?fin
      case step =>
        intro L_ A_ w9 ix op_ hi hnA hI ho hdep
        have hcase : ix = 0 ∨ ix = 1 ∨ ix = 2 ∨ ix = 3 ∨ ix = 4 ∨ ix = 5 ∨ ix = 6 ∨ ix = 7 ∨ ix = 9 := by omega
        have hh := hI.held
        clear hi hnA
        rcases hcase with rfl | rfl | rfl | rfl | rfl | rfl | rfl | rfl | rfl
        · simp only [List.getElem?_toArray, List.getElem?_cons_zero, Option.some.injEq] at ho
          subst ho
          refine ⟨rfl, ?_⟩
          have e5 : A_.tmps[5]?.getD undef = .pointer (some ⟨g5, 0, none⟩) := by rw [hI.low 5 (by decide)]; rfl
          clear hI hdep
          exact .run rfl (.pointer (some ⟨g5, 1, none⟩)) w9 (by simp [execOp, go_sem, Act.eval, e5]) (Below.refl _ _) rfl
        · simp only [List.getElem?_toArray, List.getElem?_cons_succ, List.getElem?_cons_zero, Option.some.injEq] at ho
          subst ho
          refine ⟨rfl, ?_⟩
          have e19 : A_.tmps[19]?.getD undef = .pointer (some ⟨g5, 1, none⟩) := getD_of (hI.val_ (i := 0) rfl rfl (by decide) (hdep ⟨0, .data⟩ (by simp) rfl))
          clear hI hdep
          obtain ⟨⟨⟨b0, b1⟩, bf0, bf1⟩, ⟨d0, d1, d2, d3, d4⟩⟩ := HBV.out w9 (hs7 ▸ hh)
          exact .run rfl (.slice A1 k c1) w9 (by simp [execOp, go_sem, Act.eval, *]) (Below.refl _ _) rfl
        · simp only [List.getElem?_toArray, List.getElem?_cons_succ, List.getElem?_cons_zero, Option.some.injEq] at ho
          subst ho
          refine ⟨rfl, ?_⟩
          have e7 : A_.tmps[7]?.getD undef = .pointer (some ⟨wr.heap.size, 0, none⟩) := by rw [hI.low 7 (by decide)]; rfl
          clear hI hdep
          obtain ⟨⟨⟨b0, b1⟩, bf0, bf1⟩, ⟨d0, d1, d2, d3, d4⟩⟩ := HBV.out w9 (hs7 ▸ hh)
          exact .run rfl (.agg #[.int .i64 qc, .int .i64 qh, .int .i64 qt, .int .i64 qk, .int .i64 qi]) w9 (by simp [execOp, go_sem, Act.eval, *]) (Below.refl _ _) rfl
        · simp only [List.getElem?_toArray, List.getElem?_cons_succ, List.getElem?_cons_zero, Option.some.injEq] at ho
          subst ho
          refine ⟨rfl, ?_⟩
          have e0 : A_.tmps[0]?.getD undef = Value.map (some B) := by rw [hI.low 0 (by decide)]; rfl
          clear hI hdep
          exact .run rfl (Value.map (some B)) w9 (by simp [execOp, go_sem, Act.eval, e0]) (Below.refl _ _) rfl
        · simp only [List.getElem?_toArray, List.getElem?_cons_succ, List.getElem?_cons_zero, Option.some.injEq] at ho
          subst ho
          refine ⟨rfl, ?_⟩
          have e7 : A_.tmps[7]?.getD undef = .pointer (some ⟨wr.heap.size, 0, none⟩) := by rw [hI.low 7 (by decide)]; rfl
          clear hI hdep
          obtain ⟨⟨⟨b0, b1⟩, bf0, bf1⟩, ⟨d0, d1, d2, d3, d4⟩⟩ := HBV.out w9 (hs7 ▸ hh)
          exact .run rfl (.agg #[.int .i64 qc, .int .i64 qh, .int .i64 qt, .int .i64 qk, .int .i64 qi]) w9 (by simp [execOp, go_sem, Act.eval, *]) (Below.refl _ _) rfl
        · simp only [List.getElem?_toArray, List.getElem?_cons_succ, List.getElem?_cons_zero, Option.some.injEq] at ho
          subst ho
          refine ⟨rfl, ?_⟩
          have e22 : A_.tmps[22]?.getD undef = Value.map (some B) := getD_of (hI.val_ (i := 3) rfl rfl (by decide) (hdep ⟨3, .data⟩ (by simp) rfl))
          have e23 : A_.tmps[23]?.getD undef = .agg #[.int .i64 qc, .int .i64 qh, .int .i64 qt, .int .i64 qk, .int .i64 qi] := getD_of (hI.val_ (i := 4) rfl rfl (by decide) (hdep ⟨4, .data⟩ (by simp) rfl))
          clear hI hdep
          have hlk := HLK.out w9 (HW7.out.trans (hh.mono (by omega)))
          exact .run rfl (.int .i64 y) w9 (by simp [execOp, go_sem, Act.eval, e22, e23, hlk]) (Below.refl _ _) rfl
        · simp only [List.getElem?_toArray, List.getElem?_cons_succ, List.getElem?_cons_zero, Option.some.injEq] at ho
          subst ho
          refine ⟨rfl, ?_⟩
          have e21 : A_.tmps[21]?.getD undef = .agg #[.int .i64 qc, .int .i64 qh, .int .i64 qt, .int .i64 qk, .int .i64 qi] := getD_of (hI.val_ (i := 2) rfl rfl (by decide) (hdep ⟨2, .data⟩ (by simp) rfl))
          have e24 : A_.tmps[24]?.getD undef = .int .i64 y := getD_of (hI.val_ (i := 5) rfl rfl (by decide) (hdep ⟨5, .data⟩ (by simp) rfl))
          clear hI hdep
          exact .run rfl (.agg #[.int .i64 qc, .int .i64 qh, .int .i64 qt, .int .i64 qk, .int .i64 qi, .int .i64 y]) w9 (by simp [execOp, go_sem, Act.eval, e21, e24]) (Below.refl _ _) rfl
        · simp only [List.getElem?_toArray, List.getElem?_cons_succ, List.getElem?_cons_zero, Option.some.injEq] at ho
          subst ho
          refine ⟨rfl, ?_⟩
          have e25 : A_.tmps[25]?.getD undef = .agg #[.int .i64 qc, .int .i64 qh, .int .i64 qt, .int .i64 qk, .int .i64 qi, .int .i64 y] := getD_of (hI.val_ (i := 6) rfl rfl (by decide) (hdep ⟨6, .data⟩ (by simp) rfl))
          clear hI hdep
          exact .run rfl (.slice (some ⟨w9.heap.size, 0, none⟩) 1 1) (w9.alloc (.cells #[.int .i64 qc, .int .i64 qh, .int .i64 qt, .int .i64 qk, .int .i64 qi, .int .i64 y] 71)) (by simp [execOp, go_sem, Act.eval, e25]) ((Below.refl _ _).alloc (Nat.le_refl _) _) (RgX.row_new _ _ _ _)
        · simp only [List.getElem?_toArray, List.getElem?_cons_succ, List.getElem?_cons_zero, Option.some.injEq] at ho
          subst ho
          refine ⟨rfl, ?_⟩
          have e5 : A_.tmps[5]?.getD undef = .pointer (some ⟨g5, 0, none⟩) := by rw [hI.low 5 (by decide)]; rfl
          clear hI hdep
          exact .run rfl (.pointer (some ⟨g5, 1, none⟩)) w9 (by simp [execOp, go_sem, Act.eval, e5]) (Below.refl _ _) rfl
      case app =>
        intro A_ w9 hs hlow hh hok
        have e20 : A_.tmps[20]?.getD undef = .slice A1 k c1 := getD_of (RgX.val_at (hok 1 20 _ (by decide) (by decide) (by decide) rfl rfl))
        obtain ⟨_, q26, g26, rfl, r26⟩ := hok 7 26 _ (by decide) (by decide) (by decide) rfl rfl
        have e26 : A_.tmps[26]?.getD undef = .slice (some ⟨g26, 0, none⟩) 1 1 := getD_of q26
        clear hs hlow hok
        refine ⟨rfl, rfl, ?_⟩
        refine RgX.app_exec (.tmp 20) (.tmp 26) 24 rfl w3.heap.size 71 i1 _ 6 48 Try.underlying24 hi1 hz1 hs1 hb1 rfl (by decide) (.slice A1 k c1) k (TP.ansC ((ss.take k).map fun q => (q, TP.getA t q))) (by simpa [Act.eval] using e20) (own_belowT (own_belowT HAO.out HW7.out) hh) ⟨g26, 0, none⟩ 1 1 [.int .i64 qc, .int .i64 qh, .int .i64 qt, .int .i64 qk, .int .i64 qi, .int .i64 y] (by simpa [Act.eval] using e26) rfl (World.news_of_block r26) (fun u hu => by simp at hu; rcases hu with rfl | rfl | rfl | rfl | rfl | rfl <;> rfl) (by decide) (by simp only [maxLen]; omega) (by omega) (by have := hh.size; omega) ?_
        intro B' c' w' hown' hgr'
        exact ⟨B', c', rfl, w9, hh, hown', hgr'⟩
      case flo =>
        intro i_ o_ A_ w9 hi ho hlow
        simp only [List.mem_cons, List.not_mem_nil, or_false] at hi
        rcases hi with rfl
        · simp only [List.getElem?_toArray, List.getElem?_cons_succ, List.getElem?_cons_zero, Option.some.injEq] at ho
          subst ho
          have e5 : A_.tmps[5]?.getD undef = .pointer (some ⟨g5, 0, none⟩) := by rw [hlow 5 (by decide)]; rfl
          exact ⟨rfl, rfl, by simp [execOp, go_sem, Act.eval, e5]⟩
      case hF =>
        intro i_ hi w_ y_ h_
        simp only [List.mem_cons, List.not_mem_nil, or_false] at hi
        rcases hi with rfl
        · exact h_
      case fin =>
      intro A_ w9 y_ hs hd hlow hy hG hfl hex
      obtain ⟨z19, hz19⟩ := hex 0 19 (by decide) rfl
      obtain ⟨z20, hz20⟩ := hex 1 20 (by decide) rfl
      obtain ⟨z21, hz21⟩ := hex 2 21 (by decide) rfl
      obtain ⟨z22, hz22⟩ := hex 3 22 (by decide) rfl
      obtain ⟨z23, hz23⟩ := hex 4 23 (by decide) rfl
      obtain ⟨z24, hz24⟩ := hex 5 24 (by decide) rfl
      obtain ⟨z25, hz25⟩ := hex 6 25 (by decide) rfl
      obtain ⟨z26, hz26⟩ := hex 7 26 (by decide) rfl
      obtain rfl : A_ = ⟨#[Value.map (some B), .slice E ne ce, undef, undef, .pointer (some ⟨w.heap.size, 0, none⟩), .pointer (some ⟨g5, 0, none⟩), undef, .pointer (some ⟨wr.heap.size, 0, none⟩), .slice E ne ce, .slice E' ne ce', .agg #[.slice E' ne ce', .slice none 0 0], Value.map (some B), .func (.func 91) #[] #[.pointer (some ⟨w2.heap.size, 0, none⟩)], .slice (some ⟨g, 0, none⟩) n kc, .int .i64 (n : Int), .int .i64 (k : Int), .bool true, .pointer (some { block := g, off := k * 5 }), .agg #[.int .i64 qc, .int .i64 qh, .int .i64 qt, .int .i64 qk, .int .i64 qi], z19, z20, z21, z22, z23, z24, z25, z26, y_, .pointer (some ⟨g5, 1, none⟩), u29, undef], []⟩ := act_ext hd hs (fun j hj => match j, hj with | 0, _ => (hlow 0 (by decide)).trans rfl | 1, _ => (hlow 1 (by decide)).trans rfl | 2, _ => (hlow 2 (by decide)).trans rfl | 3, _ => (hlow 3 (by decide)).trans rfl | 4, _ => (hlow 4 (by decide)).trans rfl | 5, _ => (hlow 5 (by decide)).trans rfl | 6, _ => (hlow 6 (by decide)).trans rfl | 7, _ => (hlow 7 (by decide)).trans rfl | 8, _ => (hlow 8 (by decide)).trans rfl | 9, _ => (hlow 9 (by decide)).trans rfl | 10, _ => (hlow 10 (by decide)).trans rfl | 11, _ => (hlow 11 (by decide)).trans rfl | 12, _ => (hlow 12 (by decide)).trans rfl | 13, _ => (hlow 13 (by decide)).trans rfl | 14, _ => (hlow 14 (by decide)).trans rfl | 15, _ => (hlow 15 (by decide)).trans rfl | 16, _ => (hlow 16 (by decide)).trans rfl | 17, _ => (hlow 17 (by decide)).trans rfl | 18, _ => (hlow 18 (by decide)).trans rfl | 19, _ => hz19 | 20, _ => hz20 | 21, _ => hz21 | 22, _ => hz22 | 23, _ => hz23 | 24, _ => hz24 | 25, _ => hz25 | 26, _ => hz26 | 27, _ => hy | 28, _ => hfl 9 (by decide) | 29, _ => (hlow 29 (by decide)).trans rfl | 30, _ => (hlow 30 (by decide)).trans rfl | n + 31, h => absurd h (by show ¬ n + 31 < 31; omega))
      clear hs hd hlow hy hfl hex hz19 hz20 hz21 hz22 hz23 hz24 hz25 hz26
      obtain ⟨B', c', rfl, V3, hV3, hown', hgr'⟩ := hG
      have hob : ∀ b, (Value.slice A1 k c1).ownBlock = some b → w3.heap.size ≤ b := fun b hb => (HAO.out.lt b hb).1
      have hgl := HGL.out
      have hbx : w9.heap[g5]? = some (.cells #[.slice E' ne ce', .slice A1 k c1] 26 (0, 0)) := (hgr'.block g5 (by have := hV3.size; omega) (fun e => by have := hob _ e.symm; omega)).trans ((hV3.block g5 (by omega)).trans ((HW7.out.block g5 (by omega)).trans HBX.out))
      refine RgX.wpList_store_seg rfl 24 _ _ rfl g5 1 (.slice B' (k + 1) c') rfl rfl 26 _ hbx (by rw [size_anss]; rfl) (by show 1 + 1 ≤ 2; omega) (by simp [Value.cells, Value.oneCell']) #[.slice E' ne ce', .slice B' (k + 1) c'] rfl ?_
      intro W11 k11 ho11 hz11 hb11
      have hgr11 : w9.grownBy W11 (some g5) := ⟨hb11.os, hb11.tape, hb11.output, by omega, fun b _ hne => ho11 b (fun e => hne (by rw [e]))⟩
      have hown11 := hown'.kept hgr11 (.inr (fun e => by have := (hown'.lt g5 e).1; omega))
      have hfr : w3.grownBy W11 (some g5) := ⟨hb11.os.trans (hgr'.os.trans (hV3.os.trans (HW7.out.os.trans HGR.out.os))), hb11.tape.trans (hgr'.tape.trans (hV3.tape.trans (HW7.out.tape.trans HGR.out.tape))), hb11.output.trans (hgr'.output.trans (hV3.output.trans (HW7.out.output.trans HGR.out.output))), by have := hgr'.size; have := hV3.size; omega, fun b hb hne => (ho11 b (fun e => hne (by rw [e]))).trans ((hgr'.block b (by have := hV3.size; omega) (fun e => by have := hob _ e.symm; omega)).trans ((hV3.block b (by omega)).trans ((HW7.out.block b (by omega)).trans (HGR.out.block b hb hne))))⟩
      have K11 := Lib.hid k11
      have O11 := Lib.hid (show W11.ownsRow w3.heap.size 71 6 (.slice B' (k + 1) c') (k + 1) (TP.ansC ((ss.take (k + 1)).map fun q => (q, TP.getA t q))) from by rw [HST.out]; exact hown11)
      have F11 := Lib.hid hfr
      clear k11 ho11 hz11 hb11 hgr11 hown11 hfr hown' hgr' hV3 hbx hob hgl
      go_wp2_with fail
      go_roundw
      case rel => exact ⟨k + 1, B', c', by omega, by go_num, K11, O11, F11⟩
      case measure => simp [intOf]; omega
    · have dk : decide (k < n) = false := decide_eq_false hin
      obtain rfl : k = n := by omega
      obtain ⟨⟨b0, b1⟩, bf0, bf1⟩ := row2 HBX.out
      have hgl := HGL.out
      have hres : wr.heap[w.heap.size]? = _ := (HGR.out.block _ (by omega) (fun e => by injection e with e; omega)).trans ((H3.out.block _ (by omega)).trans HK2.out.1.2)
      have HRES := Lib.hid hres
      clear hres
      go_wp2_with (refine RgX.wpList_store_seg rfl 26 _ _ rfl w.heap.size 0 (.agg #[.slice E' ne ce', .slice A1 k c1]) rfl rfl 26 _ HRES.out (by rw [size_tape]; rfl) (by show 0 + 2 ≤ 2; omega) (by simp [Value.cells, Value.oneCell']) #[.slice E' ne ce', .slice A1 k c1] rfl ?_; intro W12 k12 ho12 hz12 hb12)
      obtain ⟨⟨r0, r1⟩, _, _⟩ := row2 k12
      have hgr12 : wr.grownBy W12 (some w.heap.size) := ⟨hb12.os, hb12.tape, hb12.output, by omega, fun b _ hne => ho12 b (fun e => hne (by rw [e]))⟩
      have hnr : ∀ {base : Nat} {e : TypeId} {s z : Nat} {v : Value} {xs : List Value}, w.heap.size < base → wr.ownsRow base e s v z xs → v.ownBlock = none ∨ v.ownBlock ≠ some w.heap.size := fun hlt h => .inr (fun e => by have := (h.lt _ e).1; omega)
      have hown := own_baseT (HAO.out.kept hgr12 (hnr (by omega) HAO.out)) (show w.heap.size ≤ w3.heap.size by omega)
      have hevr : wr.ownsRow w.heap.size 47 8 (.slice E' ne ce') ne (es.flatMap evC) := (own_belowT HK2.out.2.1 H3.out).kept HGR.out (by
        rcases HK2.out.2.1.2 with ⟨h, _⟩ | ⟨g', cap', cur', h, _, hh, _⟩
        · rw [h]
          exact .inl rfl
        · rw [h]
          refine .inr fun e => ?_
          injection e with e
          subst e
          rw [HK2.out.1.1] at hh
          injection hh with hh
          injection hh with _ hh
          cases hh)
      have hevn : W12.ownsRow w.heap.size 47 8 (.slice E' ne ce') ne (es.flatMap evC) := hevr.kept hgr12 (by
        rcases hevr.2 with ⟨h, _⟩ | ⟨g', cap', cur', h, _, hh, _⟩
        · rw [h]
          exact .inl rfl
        · rw [h]
          refine .inr fun e => ?_
          injection e with e
          subst e
          rw [HRES.out] at hh
          injection hh with hh
          injection hh with _ hh
          cases hh)
      have hbl : Below w.heap.size w wr := (HK2.out.2.2.1.trans (H3.out.mono (by omega))).grown HGR.out (by omega) (fun b e => by injection e with e; omega)
      have hnorm := sorted_norm HS.out.2.1.1 HS.out.2.1.2
      rw [List.take_of_length_le (by rw [HSL.out]; exact Nat.le_refl _), hnorm] at hown
      refine bodyPost_ret (v := .agg #[.slice E' ne ce', .slice A1 k c1]) (by simp [results, Try.results46, go_sem, r0, r1]) rfl ?_
      exact ⟨⟨_, rfl, E', ne, ce', A1, k, c1, rfl, ⟨HEL.out, by rw [← hnorm, List.length_map]; exact HSL.out⟩, hevn, hown⟩, hbl.trans hb12⟩
end Go.Proofs.Ytiokiecnglmbnaa

namespace Go.Proofs.Ytiokiecnglmbnaa
open Go Go.RowKit Go.Proofs

/-- A tape that comes in. -/
structure TIn (w : World) (E : Option Addr) (ne ce : Nat) (A : Option Addr) (na : Nat) (es : List NM.Ev) (l : List TP.An) : Prop where
  ev : Evs w E ne es
  nil : E = none → ne = 0 ∧ ce = 0
  an : Ans w A na l
  be : ne ≤ 1000000
  ba0 : na ≤ 900000
theorem TIn.ba {w : World} {E : Option Addr} {ne ce : Nat} {A : Option Addr} {na : Nat} {es : List NM.Ev} {l : List TP.An} (h : TIn w E ne ce A na es l) : na ≤ 1000000 := Nat.le_trans h.ba0 (by decide)
theorem TIn.keep {w w' : World} {E : Option Addr} {ne ce : Nat} {A : Option Addr} {na : Nat} {es : List NM.Ev} {l : List TP.An} (h : TIn w E ne ce A na es l) (hb : Below w.heap.size w w') : TIn w' E ne ce A na es l := ⟨h.ev.keep hb, h.nil, h.an.keep hb, h.be, h.ba0⟩
/-- A tape in rows made since block lo. -/
def TapeIs (lo : Nat) (w : World) (E : Option Addr) (ne ce : Nat) (A : Option Addr) (na ca : Nat) (es : List NM.Ev) (l : List TP.An) : Prop :=
  (es.length = ne ∧ l.length = na) ∧ w.ownsRow lo 47 8 (.slice E ne ce) ne (es.flatMap evC) ∧ w.ownsRow lo 71 6 (.slice A na ca) na (TP.ansC l)
theorem tapeN_iff {lo : Nat} {w : World} {v : Value} {es : List NM.Ev} {l : List TP.An} : TapeN lo w v es l ↔ ∃ E ne ce A na ca, v = .agg #[.slice E ne ce, .slice A na ca] ∧ TapeIs lo w E ne ce A na ca es l := Iff.rfl
theorem nil_of_own {w : World} {base size n c : Nat} {e : TypeId} {A : Option Addr} {xs : List Value} (h : w.ownsRow base e size (.slice A n c) n xs) : A = none → n = 0 ∧ c = 0 := fun e => by
  rcases h.2 with ⟨h1, h2⟩ | ⟨g, cap, cur, h1, _⟩
  · injection h1 with _ _ h3
    exact ⟨h2, h3⟩
  · injection h1 with h1
    rw [e] at h1
    cases h1
theorem TapeIs.tin {lo : Nat} {w : World} {E A : Option Addr} {ne ce na ca : Nat} {es : List NM.Ev} {l : List TP.An} (h : TapeIs lo w E ne ce A na ca es l) (be : ne ≤ 1000000) (ba : na ≤ 900000) : TIn w E ne ce A na es l :=
  ⟨evs_of_own h.2.1 h.1.1, nil_of_own h.2.1, (ans_of_own h.2.2 h.1.2).1, be, ba⟩
theorem TapeIs.keep {lo : Nat} {w w' : World} {E A : Option Addr} {ne ce na ca : Nat} {es : List NM.Ev} {l : List TP.An} (h : TapeIs lo w E ne ce A na ca es l) (hb : Below w.heap.size w w') : TapeIs lo w' E ne ce A na ca es l :=
  ⟨h.1, own_belowT h.2.1 hb, own_belowT h.2.2 hb⟩
theorem TapeIs.low {lo lo' : Nat} {w : World} {E A : Option Addr} {ne ce na ca : Nat} {es : List NM.Ev} {l : List TP.An} (h : TapeIs lo w E ne ce A na ca es l) (hl : lo' ≤ lo) : TapeIs lo' w E ne ce A na ca es l :=
  ⟨h.1, own_baseT h.2.1 hl, own_baseT h.2.2 hl⟩
/-- A row of structs is not a block of another type. -/
theorem own_ne {w : World} {base size n g : Nat} {e t : TypeId} {v : Value} {xs : List Value} {C : Array Value} {fr : Nat × Nat} (h : w.ownsRow base e size v n xs) (hg : w.heap[g]? = some (.cells C t fr)) (hne : t ≠ e) : v.ownBlock = none ∨ v.ownBlock ≠ some g := by
  rcases h.2 with ⟨rfl, _⟩ | ⟨g', cap, cur, rfl, _, hh, _⟩
  · exact .inl rfl
  · refine .inr fun e2 => ?_
    have e3 : some g' = some g := e2
    injection e3 with e3
    subst e3
    rw [hh] at hg
    injection hg with hg
    injection hg with _ hg
    exact hne hg.symm
/-- A block of another type has turned. -/
theorem TapeIs.grown {lo g : Nat} {w w' : World} {E A : Option Addr} {ne ce na ca : Nat} {es : List NM.Ev} {l : List TP.An} {C : Array Value} {t : TypeId} {fr : Nat × Nat} (h : TapeIs lo w E ne ce A na ca es l) (hgr : w.grownBy w' (some g)) (hg : w.heap[g]? = some (.cells C t fr)) (h1 : t ≠ 47) (h2 : t ≠ 71) : TapeIs lo w' E ne ce A na ca es l :=
  ⟨h.1, h.2.1.kept hgr (own_ne h.2.1 hg h1), h.2.2.kept hgr (own_ne h.2.2 hg h2)⟩
namespace RgX
/-- A tape made since block lo. -/
def Sp.tape (lo : Nat) (es : List NM.Ev) (l : List TP.An) (ne na : Nat) : Sp := ⟨fun w x => ∃ E ce A ca, x = .agg #[.slice E ne ce, .slice A na ca] ∧ TapeIs lo w E ne ce A na ca es l, fun ⟨E, ce, A, ca, e, h⟩ hb => ⟨E, ce, A, ca, e, h.keep hb⟩⟩
/-- A map of answers made since block lo. -/
def Sp.mapq (lo : Nat) (f : NM.Qu → Int) (n : Nat) : Sp := ⟨fun w x => ∃ B, x = .map (some B) ∧ (lo ≤ B ∧ MapQ w B f n), fun ⟨B, e, h1, h2⟩ hb => ⟨B, e, h1, h2.keep h2.lt hb⟩⟩
theorem tape_calls {P : Program} {fn : FuncId} {args : Array Value} {w : World} {lo : Nat} {es : List NM.Ev} {l : List TP.An} {ne na : Nat} (hn : es.length = ne) (hm : l.length = na) (h : Calls P fn args w fun e w' => (∃ v, e = .returned v ∧ TapeN lo w' v es l) ∧ Below w.heap.size w w') : Calls P fn args w fun e w' => (∃ v, e = .returned v ∧ (Sp.tape lo es l ne na).p w' v) ∧ Below w.heap.size w w' :=
  h.mono fun _ _ ⟨⟨v, e, E, ne', ce, A, na', ca, hv, ht⟩, hb⟩ => by
    obtain rfl : ne' = ne := ht.1.1.symm.trans hn
    obtain rfl : na' = na := ht.1.2.symm.trans hm
    exact ⟨⟨v, e, E, ce, A, ca, hv, ht⟩, hb⟩
theorem tape_calls_lo {P : Program} {fn : FuncId} {args : Array Value} {w : World} {lo lo' : Nat} {es : List NM.Ev} {l : List TP.An} {ne na : Nat} (hl : lo' ≤ lo) (hn : es.length = ne) (hm : l.length = na) (h : Calls P fn args w fun e w' => (∃ v, e = .returned v ∧ TapeN lo w' v es l) ∧ Below w.heap.size w w') : Calls P fn args w fun e w' => (∃ v, e = .returned v ∧ (Sp.tape lo' es l ne na).p w' v) ∧ Below w.heap.size w w' :=
  tape_calls hn hm (h.mono fun _ _ ⟨⟨v, e, E, ne', ce, A, na', ca, hv, ht⟩, hb⟩ => ⟨⟨v, e, E, ne', ce, A, na', ca, hv, TapeIs.low ht hl⟩, hb⟩)
theorem mapq_calls {P : Program} {fn : FuncId} {args : Array Value} {w : World} {lo : Nat} {f : NM.Qu → Int} {n : Nat} (h : Calls P fn args w fun e w' => ∃ B, e = .returned (.map (some B)) ∧ w.heap.size ≤ B ∧ MapQ w' B f n ∧ Below w.heap.size w w') (hl : lo ≤ w.heap.size) : Calls P fn args w fun e w' => (∃ v, e = .returned v ∧ (Sp.mapq lo f n).p w' v) ∧ Below w.heap.size w w' :=
  h.mono fun _ _ ⟨B, e, h1, h2, h3⟩ => ⟨⟨_, e, B, rfl, Nat.le_trans hl h1, h2⟩, h3⟩
end RgX
end Go.Proofs.Ytiokiecnglmbnaa

namespace Go.Proofs.Ytiokiecnglmbnaa
open Go Go.RowKit Go.Proofs
attribute [local go_sem] Oper.semAt_some

/-- The bytes of some numbers. -/
def encN (l : List Int) : List Int := l.flatMap encI
def anL (x : TP.An) : List Int := NM.quL x.1 ++ [x.2]
/-- The bytes of a tape. -/
def encT (es : List NM.Ev) (l : List TP.An) : List Int := encU es.length ++ es.flatMap (fun e => encN (NM.evL e)) ++ encU l.length ++ l.flatMap (fun x => encN (anL x))
theorem encN_len (l : List Int) : (encN l).length ≤ 10 * l.length := encI_le l
theorem encEs_len (l : List NM.Ev) : (l.flatMap fun e => encN (NM.evL e)).length ≤ 80 * l.length := by
  induction l with
  | nil => simp
  | cons x xs ih =>
    have := encN_len (NM.evL x)
    have e : (NM.evL x).length = 8 := rfl
    rw [List.flatMap_cons, List.length_append, List.length_cons]
    omega
theorem encAs_len (l : List TP.An) : (l.flatMap fun x => encN (anL x)).length ≤ 60 * l.length := by
  induction l with
  | nil => simp
  | cons x xs ih =>
    have := encN_len (anL x)
    have e : (anL x).length = 6 := rfl
    rw [List.flatMap_cons, List.length_append, List.length_cons]
    omega
theorem Kept.below {g B : Nat} {w w' : World} (h : Below B w w') (hB : w.heap.size ≤ B) : Kept g w w' := fun k _ hk _ _ => (h.block k (Nat.lt_of_lt_of_le (heap_lt hk) hB)).trans hk
set_option maxHeartbeats 400000 in
theorem out_int_k (base g : Nat) (n : Int) (bs : List Int) (w : World) (h : OutAt base w g bs) (hn : I64 n) (hl : bs.length ≤ 1000000) :
    Calls Try.prog 41 #[.pointer (some ⟨g, 0, none⟩), .int .i64 n] w fun e w' => e = .returned (.tuple #[]) ∧ OutAt base w' g (bs ++ encI n) ∧ Below base w w' ∧ Kept g w w' := by
  go_enter Try.func41, Try.ntmps41
  go_wp2_with fail
  refine (zigzag_any n hn _).mono ?_
  rintro e w1 ⟨rfl, rfl⟩
  go_wp2_with fail
  refine (out_uint_k base g (zig n) bs _ h (zig_w hn) hl).mono ?_
  rintro e w1 ⟨rfl, h1, hb1, hk1⟩
  go_wp2_with fail
  go_end0
  exact ⟨rfl, h1, hb1, hk1⟩
set_option maxHeartbeats 1000000 in
theorem record_any (base g b : Nat) (n : Nat) (l bs : List Int) (w : World) (h : OutAt base w g bs) (hr : ∀ V, Below base w V → Kept g w V → ∀ j x, l[j]? = some x → V.cell? ⟨b, j, none⟩ = some (.int .i64 x)) (hln : l.length = n) (hi : ∀ x ∈ l, I64 x) (hl : bs.length + 10 * n ≤ 900000) :
    Calls Try.prog 74 #[.pointer (some ⟨g, 0, none⟩), .slice (some ⟨b, 0, none⟩) n n] w fun e w' => e = .returned (.tuple #[]) ∧ OutAt base w' g (bs ++ encN l) ∧ Below base w w' ∧ Kept g w w' := by
  have HR := Lib.hid hr
  have HI := Lib.hid hi
  have HL := Lib.hid hln
  have HO := Lib.hid h
  clear hr hi h hln
  go_enter Try.func74, Try.ntmps74
  go_wp2_with fail
  go_loopw [5, 8] (fun _ i wr => ∃ k : Nat, k ≤ n ∧ i = .int .i64 k ∧ OutAt base wr g (bs ++ encN (l.take k)) ∧ Below base w wr ∧ Kept g w wr) (fun _ i _ => n - (intOf i).toNat)
  case atStart => exact ⟨0, Nat.zero_le _, rfl, by simpa [encN] using HO.out, Below.refl _ _, Kept.refl _ _⟩
  case round =>
    obtain ⟨k, hk, rfl, hO, hB, hKp⟩ := hrel
    by_cases hlt : k < n
    · obtain ⟨x, hx⟩ : ∃ x, l[k]? = some x := ⟨_, List.getElem?_eq_getElem (by rw [HL.out]; exact hlt)⟩
      have hc := HR.out wr hB hKp k x hx
      have hx64 := HI.out x (List.mem_of_getElem? hx)
      have HS := Lib.hid (show l.take (k + 1) = l.take k ++ [x] by rw [List.take_add_one, hx]; rfl)
      have hel := encN_len (l.take k)
      have htl : (l.take k).length ≤ k := List.length_take_le _ _
      clear hx
      go_wp2_with fail
      refine (out_int_k base g x _ _ hO hx64 (by simp only [List.length_append]; omega)).mono ?_
      rintro e w2 ⟨rfl, h2, hb2, hk2⟩
      go_wp2_with fail
      go_roundw
      case rel => exact ⟨k + 1, by omega, by go_num, by rw [HS.out]; simpa [encN] using h2, hB.trans hb2, hKp.trans hk2⟩
      case measure => simp [intOf]; omega
    · obtain rfl : k = n := by omega
      have e : l.take k = l := List.take_of_length_le (by rw [HL.out]; omega)
      rw [e] at hO
      clear e
      go_wp2_with fail
      go_end0
      exact ⟨rfl, hO, hB, hKp⟩
end Go.Proofs.Ytiokiecnglmbnaa

namespace Go.Proofs.Ytiokiecnglmbnaa
open Go Go.RowKit Go.Proofs
attribute [local go_sem] Oper.semAt_some

/-- What stands between two steps of the decoder: its reader in block g, its tape in block t5 with these events and answers, its result's cell. -/
structure DcAt (lo B g t5 r0 : Nat) (W : World) (s : St) (E : Option Addr) (ne ce : Nat) (A : Option Addr) (na ca : Nat) (es : List NM.Ev) (l : List TP.An) : Prop where
  rd : InAt B W g s
  box : W.heap[t5]? = some (.cells #[.slice E ne ce, .slice A na ca] 26 (0, 0))
  res : W.heap[r0]? = some (.cells #[.slice none 0 0, .slice none 0 0] 26 (0, 0))
  row : TapeIs lo W E ne ce A na ca es l
  bg : B ≤ lo
  g0 : r0 < g
  g1 : g < t5
  g2 : t5 < lo
/-- The reader has read on. -/
theorem DcAt.but {lo B g t5 r0 : Nat} {W W' : World} {s s' : St} {E A : Option Addr} {ne ce na ca : Nat} {es : List NM.Ev} {l : List TP.An} (h : DcAt lo B g t5 r0 W s E ne ce A na ca es l) (hb : But g W W') (hi : InAt B W' g s') : DcAt lo B g t5 r0 W' s' E ne ce A na ca es l := by
  obtain ⟨C, hC⟩ : ∃ C, W.heap[g]? = some (.cells C 144 (0, 0)) := by
    have := h.rd
    cases s with
    | ok bs => obtain ⟨A, n, c, hg, _⟩ := this; exact ⟨_, hg⟩
    | bad e => obtain ⟨A, n, c, hg, _⟩ := this; exact ⟨_, hg⟩
  have h0 := h.g0
  have h1 := h.g1
  exact ⟨hi, (hb.block t5 (heap_lt h.box) (fun e => by injection e with e; omega)).trans h.box, (hb.block r0 (heap_lt h.res) (fun e => by injection e with e; omega)).trans h.res, h.row.grown hb hC (by decide) (by decide), h.bg, h.g0, h.g1, h.g2⟩
theorem DcAt.below {lo B g t5 r0 : Nat} {W W' : World} {s : St} {E A : Option Addr} {ne ce na ca : Nat} {es : List NM.Ev} {l : List TP.An} (h : DcAt lo B g t5 r0 W s E ne ce A na ca es l) (hb : Below W.heap.size W W') : DcAt lo B g t5 r0 W' s E ne ce A na ca es l :=
  ⟨h.rd.below hb, (hb.block _ (heap_lt h.box)).trans h.box, (hb.block _ (heap_lt h.res)).trans h.res, h.row.keep hb, h.bg, h.g0, h.g1, h.g2⟩
theorem evRow_ne {lo : Nat} {W : World} {E : Option Addr} {ne ce : Nat} {xs : List Value} (h : W.ownsRow lo 47 8 (.slice E ne ce) ne xs) {b : Nat} (hb : (Value.slice E ne ce).ownBlock = some b) : lo ≤ b ∧ ∃ C, W.heap[b]? = some (.cells C 47 (0, 0)) := by
  rcases h.2 with ⟨e, _⟩ | ⟨g, cap, cur, e, h1, h2, _⟩
  · rw [e] at hb
    cases hb
  · rw [e] at hb
    have hb' : some g = some b := hb
    injection hb' with hb'
    subst hb'
    exact ⟨h1, cur, h2⟩
theorem anRow_ne {lo : Nat} {W : World} {E : Option Addr} {ne ce : Nat} {xs : List Value} (h : W.ownsRow lo 71 6 (.slice E ne ce) ne xs) {b : Nat} (hb : (Value.slice E ne ce).ownBlock = some b) : lo ≤ b ∧ ∃ C, W.heap[b]? = some (.cells C 71 (0, 0)) := by
  rcases h.2 with ⟨e, _⟩ | ⟨g, cap, cur, e, h1, h2, _⟩
  · rw [e] at hb
    cases hb
  · rw [e] at hb
    have hb' : some g = some b := hb
    injection hb' with hb'
    subst hb'
    exact ⟨h1, cur, h2⟩
/-- An event is appended: the row has grown, the box's first cell is set. -/
theorem DcAt.event {lo B g t5 r0 : Nat} {W W7 : World} {s : St} {E A E' : Option Addr} {ne ce na ca ce' : Nat} {es : List NM.Ev} {l : List TP.An} {x : NM.Ev} (h : DcAt lo B g t5 r0 W s E ne ce A na ca es l)
    (hown : W7.ownsRow lo 47 8 (.slice E' (ne + 1) ce') (ne + 1) (es.flatMap evC ++ evC x)) (hgr : W.grownBy W7 (Value.slice E ne ce).ownBlock) :
    DcAt lo B g t5 r0 (W7.setCell ⟨t5, 0, none⟩ (.slice E' (ne + 1) ce')) s E' (ne + 1) ce' A na ca (es ++ [x]) l := by
  have hob : ∀ b, (Value.slice E ne ce).ownBlock = some b → lo ≤ b := fun b hb => (evRow_ne h.row.2.1 hb).1
  have h2 := h.g2
  have h1 := h.g1
  have h0 := h.g0
  have hbx : W7.heap[t5]? = _ := (hgr.block t5 (heap_lt h.box) (fun e => by have := hob _ e.symm; omega)).trans h.box
  have hrs : W7.heap[r0]? = _ := (hgr.block r0 (heap_lt h.res) (fun e => by have := hob _ e.symm; omega)).trans h.res
  have hrd : InAt B W7 g s := h.rd.grown hgr (fun e => by have := hob _ e.symm; omega) (fun b e => .inl (Nat.le_trans h.bg (hob b e)))
  have han : W7.ownsRow lo 71 6 (.slice A na ca) na (TP.ansC l) := h.row.2.2.kept hgr (by
    rcases hv : (Value.slice A na ca).ownBlock with _ | b
    · exact .inl rfl
    · refine .inr fun e => ?_
      obtain ⟨_, C, hC⟩ := anRow_ne h.row.2.2 hv
      obtain ⟨_, D, hD⟩ := evRow_ne h.row.2.1 e.symm
      rw [hC] at hD
      injection hD with hD
      injection hD with _ hD
      cases hD)
  obtain ⟨W8, hW8, k8, o8, z8, p8, q8, r8⟩ := set1D hbx (i := 0) (.slice E' (ne + 1) ce')
  rw [hW8]
  have hg8 : W7.grownBy W8 (some t5) := ⟨p8, q8, r8, by omega, fun b _ hne => o8 b (fun e => hne (by rw [e]))⟩
  refine ⟨hrd.grown hg8 (fun e => by injection e with e; omega) (fun b e => .inr (fun C hC => by injection e with e; subst e; rw [hbx] at hC; injection hC with hC; injection hC with _ hC; cases hC)), k8, (o8 r0 (by omega)).trans hrs, ⟨⟨by rw [List.length_append, List.length_singleton, h.row.1.1], h.row.1.2⟩, ?_, han.kept hg8 (own_ne han hbx (by decide))⟩, h.bg, h.g0, h.g1, h.g2⟩
  rw [List.flatMap_append, show [x].flatMap evC = evC x by simp]
  exact hown.kept hg8 (own_ne hown hbx (by decide))
/-- An answer is appended. -/
theorem DcAt.answer {lo B g t5 r0 : Nat} {W W7 : World} {s : St} {E A A' : Option Addr} {ne ce na ca ca' : Nat} {es : List NM.Ev} {l : List TP.An} {x : TP.An} (h : DcAt lo B g t5 r0 W s E ne ce A na ca es l)
    (hown : W7.ownsRow lo 71 6 (.slice A' (na + 1) ca') (na + 1) (TP.ansC l ++ TP.anC x)) (hgr : W.grownBy W7 (Value.slice A na ca).ownBlock) :
    DcAt lo B g t5 r0 (W7.setCell ⟨t5, 1, none⟩ (.slice A' (na + 1) ca')) s E ne ce A' (na + 1) ca' es (l ++ [x]) := by
  have hob : ∀ b, (Value.slice A na ca).ownBlock = some b → lo ≤ b := fun b hb => (anRow_ne h.row.2.2 hb).1
  have h2 := h.g2
  have h1 := h.g1
  have h0 := h.g0
  have hbx : W7.heap[t5]? = _ := (hgr.block t5 (heap_lt h.box) (fun e => by have := hob _ e.symm; omega)).trans h.box
  have hrs : W7.heap[r0]? = _ := (hgr.block r0 (heap_lt h.res) (fun e => by have := hob _ e.symm; omega)).trans h.res
  have hrd : InAt B W7 g s := h.rd.grown hgr (fun e => by have := hob _ e.symm; omega) (fun b e => .inl (Nat.le_trans h.bg (hob b e)))
  have hev : W7.ownsRow lo 47 8 (.slice E ne ce) ne (es.flatMap evC) := h.row.2.1.kept hgr (by
    rcases hv : (Value.slice E ne ce).ownBlock with _ | b
    · exact .inl rfl
    · refine .inr fun e => ?_
      obtain ⟨_, C, hC⟩ := evRow_ne h.row.2.1 hv
      obtain ⟨_, D, hD⟩ := anRow_ne h.row.2.2 e.symm
      rw [hC] at hD
      injection hD with hD
      injection hD with _ hD
      cases hD)
  obtain ⟨W8, hW8, k8, o8, z8, p8, q8, r8⟩ := set1D hbx (i := 1) (.slice A' (na + 1) ca')
  rw [hW8]
  have hg8 : W7.grownBy W8 (some t5) := ⟨p8, q8, r8, by omega, fun b _ hne => o8 b (fun e => hne (by rw [e]))⟩
  refine ⟨hrd.grown hg8 (fun e => by injection e with e; omega) (fun b e => .inr (fun C hC => by injection e with e; subst e; rw [hbx] at hC; injection hC with hC; injection hC with _ hC; cases hC)), k8, (o8 r0 (by omega)).trans hrs, ⟨⟨h.row.1.1, by rw [List.length_append, List.length_singleton, h.row.1.2]⟩, hev.kept hg8 (own_ne hev hbx (by decide)), ?_⟩, h.bg, h.g0, h.g1, h.g2⟩
  rw [ansC_snoc]
  exact hown.kept hg8 (own_ne hown hbx (by decide))
end Go.Proofs.Ytiokiecnglmbnaa

namespace Go.Proofs.Ytiokiecnglmbnaa
open Go Go.RowKit Go.Proofs
attribute [local go_sem] Oper.semAt_some

/-- A new row of integers, at any world that keeps it. -/
theorem row_kept {base g b : Nat} {W : World} {l : List Int} {C : Array Value} (hC : C = (l.map (Value.int .i64)).toArray) (hW : W.heap.size = b) (hg : g < b) : ∀ V, Below base (W.alloc (.cells C 3)) V → Kept g (W.alloc (.cells C 3)) V → ∀ j x, l[j]? = some x → V.cell? ⟨b, j, none⟩ = some (.int .i64 x) := fun V _ hk j x hx => by
  subst hC
  subst hW
  have h := hk W.heap.size _ (World.alloc_heap_new W _) (by omega) (fun C e => by injection e with _ e; exact absurd e (by decide))
  rw [cell_of_row V W.heap.size j _ _ (0, 0) h]
  simp [hx]
set_option maxHeartbeats 8000000 in
set_option maxRecDepth 100000 in
theorem encode_any {E A : Option Addr} {ne ce na ca : Nat} {es : List NM.Ev} {l : List TP.An} (w : World) (h : TIn w E ne ce A na es l) (h1 : ne ≤ 1000) (h2 : na ≤ 1000) (he : ∀ e ∈ es, ∀ x ∈ NM.evL e, I64 x) (ha : ∀ a ∈ l, ∀ x ∈ anL a, I64 x) :
    Calls Try.prog 54 #[.agg #[.slice E ne ce, .slice A na ca]] w (Mk 5 .u8 w (encT es l)) := by
  have hb := one_box w (.cells #[.slice E ne ce, .slice A na ca] 26)
  obtain ⟨U, hU⟩ : ∃ U, w.alloc (.cells #[.slice E ne ce, .slice A na ca] 26) = U := ⟨_, rfl⟩
  rw [hU] at hb
  have hlt : w.heap.size < U.heap.size := by rw [← hU]; simp
  have k1 : U.heap[w.heap.size]? = some (.cells #[.slice E ne ce, .slice A na ca] 26 (0, 0)) := by rw [← hU]; exact new_at rfl
  have HI := Lib.hid (h.keep hb)
  have HK := Lib.hid (fun (V : World) (hV : Below U.heap.size U V) => row2 ((hV.block _ (by omega)).trans k1))
  have HB := Lib.hid hb
  have H64 := Lib.hid (And.intro he ha)
  have HEL := Lib.hid (And.intro h.ev.1 h.an.1)
  have hwe : IntKind.u64.wrap (ne : Int) = ne := by rw [IntKind.wrap_u64]; omega
  have hwa : IntKind.u64.wrap (na : Int) = na := by rw [IntKind.wrap_u64]; omega
  have o0 := OutAt.new U
  have hb0 : Below U.heap.size U (U.alloc (.cells #[.slice none 0 0] 74)) := one_box U _
  obtain ⟨⟨b0, b1⟩, _, _⟩ := HK.out _ hb0
  have HO0 := Lib.hid (And.intro o0 hb0)
  clear k1 hb h he ha o0 hb0
  go_enter Try.func54, Try.ntmps54
  go_wp2_with fail
  refine (out_uint U.heap.size U.heap.size ne [] _ HO0.out.1 ⟨by omega, by omega⟩ (by simp)).mono ?_
  rintro e w1 ⟨rfl, o1, hb1⟩
  have hB1 := HO0.out.2.trans hb1
  obtain ⟨⟨b0, b1⟩, _, _⟩ := HK.out _ hB1
  have HO1 := Lib.hid (And.intro o1 hB1)
  clear o1 hb1 hB1 hU hwe
  go_wp2_with fail
  clear b0 b1
  go_loopw [5, 6, 18] (fun _ _ i V => ∃ k : Nat, k ≤ ne ∧ i = .int .i64 (k : Int) ∧ Hid (OutAt U.heap.size V U.heap.size (encU ne ++ (es.take k).flatMap fun e => encN (NM.evL e))) ∧ Hid (Below U.heap.size U V)) (fun _ _ i _ => ne - (intOf i).toNat)
  case atStart => exact ⟨0, by omega, rfl, (by have := HO1.out.1; simpa using this : OutAt _ _ _ _), HO1.out.2⟩
  case round =>
    obtain ⟨k, hk, rfl, HO, HV⟩ := hrel
    by_cases hin : k < ne
    · have dk : decide (k < ne) = true := decide_eq_true hin
      obtain ⟨x, hx⟩ : ∃ x, es[k]? = some x := ⟨_, List.getElem?_eq_getElem (by rw [HEL.out.1]; exact hin)⟩
      obtain ⟨g, hg, hgl, hxa⟩ := HI.out.ev.2 (by omega)
      obtain ⟨c0, c1, c2, c3, c4, c5, c6, c7⟩ := (hxa k x hx).keep hgl HV.out
      subst hg
      have HX := Lib.hid (show (es.take (k + 1)).flatMap (fun e => encN (NM.evL e)) = (es.take k).flatMap (fun e => encN (NM.evL e)) ++ encN (NM.evL x) by rw [List.take_add_one, hx, List.flatMap_append]; simp)
      have hx64 := H64.out.1 x (List.mem_of_getElem? hx)
      have hel := encEs_len (es.take k)
      have htl : (es.take k).length ≤ k := List.length_take_le _ _
      have hul := encU_len ne
      obtain ⟨xk, xn, xa, ⟨xc, xh, xt, xi, xp⟩⟩ := x
      clear hxa hx
      have hsV := HV.out.size
      have hoz : U.heap.size < wr.heap.size := by obtain ⟨_, _, _, h, _⟩ := HO.out; exact h.lt
      go_wp2_with fail
      have hW : ∃ W, (wr.alloc (.cells #[.int .i64 xk, .int .i64 xn, .int .i64 xa, .int .i64 xc, .int .i64 xh, .int .i64 xt, .int .i64 xi, .int .i64 xp] 47)).alloc (.cells #[.int .i64 xc, .int .i64 xh, .int .i64 xt] 28) = W := ⟨_, rfl⟩
      obtain ⟨W, hW⟩ := hW
      rw [hW]
      have hbW : Below wr.heap.size wr W := hW ▸ ((one_box wr _).trans ((one_box (wr.alloc _) _).mono (by simp)))
      have hsW : W.heap.size = wr.heap.size + 1 + 1 := by rw [← hW]; simp
      have hoW := ((HO.out.below hbW).below (one_box W (.cells #[.int .i64 xk, .int .i64 xn, .int .i64 xa, .int .i64 xc, .int .i64 xh, .int .i64 xt, .int .i64 xi, .int .i64 xp] 3)))
      have hbV : Below U.heap.size U (W.alloc (.cells #[.int .i64 xk, .int .i64 xn, .int .i64 xa, .int .i64 xc, .int .i64 xh, .int .i64 xt, .int .i64 xi, .int .i64 xp] 3)) := (HV.out.trans (hbW.mono hsV)).alloc (by omega) _
      refine (record_any U.heap.size U.heap.size (wr.heap.size + 1 + 1) 8 (NM.evL ⟨xk, xn, xa, ⟨xc, xh, xt, xi, xp⟩⟩) _ _ hoW (row_kept rfl hsW (by omega)) rfl hx64 (by simp only [List.length_append]; omega)).mono ?_
      rintro e w2 ⟨rfl, o2, hb2, _⟩
      have HO2 := Lib.hid (And.intro o2 (hbV.trans hb2))
      clear o2 hb2 hoW hbV hbW hW
      go_wp2_with fail
      go_roundw
      case rel => exact ⟨k + 1, by omega, by go_num, (by rw [HX.out, ← List.append_assoc]; exact HO2.out.1 : OutAt _ _ _ _), HO2.out.2⟩
      case measure => simp [intOf]; omega
    · have dk : decide (k < ne) = false := decide_eq_false hin
      obtain rfl : k = ne := by omega
      have HT := Lib.hid (show es.take k = es from List.take_of_length_le (by rw [HEL.out.1]; exact Nat.le_refl _))
      obtain ⟨⟨b0, b1⟩, _, _⟩ := HK.out wr HV.out
      obtain ⟨wo, hwo⟩ : ∃ W, W = wr := ⟨_, rfl⟩
      subst hwo
      have hel := encEs_len es
      have hul := encU_len k
      have hl1 := HEL.out.1
      go_wp2_with fail
      refine (out_uint U.heap.size U.heap.size na _ _ HO.out ⟨by omega, by omega⟩ (by rw [HT.out]; simp only [List.length_append]; omega)).mono ?_
      rintro e w3 ⟨rfl, o3, hb3⟩
      have HO3 := Lib.hid (And.intro o3 (HV.out.trans hb3))
      obtain ⟨⟨b0, b1⟩, _, _⟩ := HK.out w3 HO3.out.2
      clear o3 hb3 hwa
      go_wp2_with fail
      clear b0 b1
      go_loopw [8, 9, 54] (fun _ _ i V => ∃ j : Nat, j ≤ na ∧ i = .int .i64 (j : Int) ∧ Hid (OutAt U.heap.size V U.heap.size ((encU k ++ (es.take k).flatMap fun e => encN (NM.evL e)) ++ encU na ++ (l.take j).flatMap fun x => encN (anL x))) ∧ Hid (Below U.heap.size U V)) (fun _ _ i _ => na - (intOf i).toNat)
      case atStart => exact ⟨0, by omega, rfl, (by have := HO3.out.1; simpa using this : OutAt _ _ _ _), HO3.out.2⟩
      case round =>
        obtain ⟨j, hj, rfl, HO4, HV4⟩ := hrel
        have hel2 := encAs_len (l.take j)
        have htl2 : (l.take j).length ≤ j := List.length_take_le _ _
        have hul2 := encU_len na
        by_cases hjn : j < na
        · have dj : decide (j < na) = true := decide_eq_true hjn
          obtain ⟨x, hx⟩ : ∃ x, l[j]? = some x := ⟨_, List.getElem?_eq_getElem (by rw [HEL.out.2]; exact hjn)⟩
          obtain ⟨g, hg, hgl, hxa⟩ := HI.out.an.2 (by omega)
          obtain ⟨c0, c1, c2, c3, c4, c5⟩ := (hxa j x hx).keep hgl HV4.out
          subst hg
          have HX := Lib.hid (show (l.take (j + 1)).flatMap (fun e => encN (anL e)) = (l.take j).flatMap (fun e => encN (anL e)) ++ encN (anL x) by rw [List.take_add_one, hx, List.flatMap_append]; simp)
          have hx64 := H64.out.2 x (List.mem_of_getElem? hx)
          obtain ⟨⟨xc, xh, xt, xk, xi⟩, y⟩ := x
          clear hxa hx
          have hsV := HV4.out.size
          have hoz : U.heap.size < wr.heap.size := by obtain ⟨_, _, _, h, _⟩ := HO4.out; exact h.lt
          go_wp2_with fail
          have hW : ∃ W, (wr.alloc (.cells #[.int .i64 xc, .int .i64 xh, .int .i64 xt, .int .i64 xk, .int .i64 xi, .int .i64 y] 71)).alloc (.cells #[.int .i64 xc, .int .i64 xh, .int .i64 xt] 28) = W := ⟨_, rfl⟩
          obtain ⟨W, hW⟩ := hW
          rw [hW]
          have hbW : Below wr.heap.size wr W := hW ▸ ((one_box wr _).trans ((one_box (wr.alloc _) _).mono (by simp)))
          have hsW : W.heap.size = wr.heap.size + 1 + 1 := by rw [← hW]; simp
          have hoW := ((HO4.out.below hbW).below (one_box W (.cells #[.int .i64 xc, .int .i64 xh, .int .i64 xt, .int .i64 xk, .int .i64 xi, .int .i64 y] 3)))
          have hbV : Below U.heap.size U (W.alloc (.cells #[.int .i64 xc, .int .i64 xh, .int .i64 xt, .int .i64 xk, .int .i64 xi, .int .i64 y] 3)) := (HV4.out.trans (hbW.mono hsV)).alloc (by omega) _
          refine (record_any U.heap.size U.heap.size (wr.heap.size + 1 + 1) 6 (anL (⟨xc, xh, xt, xk, xi⟩, y)) _ _ hoW (row_kept rfl hsW (by omega)) rfl hx64 (by rw [HT.out]; simp only [List.length_append]; omega)).mono ?_
          rintro e w5 ⟨rfl, o5, hb5, _⟩
          have HO5 := Lib.hid (And.intro o5 (hbV.trans hb5))
          clear o5 hb5 hoW hbV hbW hW
          go_wp2_with fail
          go_roundw
          case rel => exact ⟨j + 1, by omega, by go_num, (by rw [HX.out, ← List.append_assoc]; exact HO5.out.1 : OutAt _ _ _ _), HO5.out.2⟩
          case measure => simp [intOf]; omega
        · have dj : decide (j < na) = false := decide_eq_false hjn
          obtain rfl : j = na := by omega
          have HT2 := Lib.hid (show l.take j = l from List.take_of_length_le (by rw [HEL.out.2]; exact Nat.le_refl _))
          go_wp2_with fail
          refine (out_done U.heap.size U.heap.size _ wr HO4.out (by rw [HT.out]; simp only [List.length_append]; omega)).mono ?_
          rintro e w6 ⟨A', n', c', rfl, m1, m2, m3, m4⟩
          have hs4 := HV4.out.size
          have HM := Lib.hid (And.intro m1 (And.intro m2 (And.intro m3 m4)))
          clear m1 m2 m3 m4
          go_wp2_with fail
          go_ret
          have heq : (encU k ++ (es.take k).flatMap fun e => encN (NM.evL e)) ++ encU j ++ (l.take j).flatMap (fun x => encN (anL x)) = encT es l := by
            unfold encT
            rw [HT.out, HT2.out, HEL.out.1, HEL.out.2]
          obtain ⟨m1, m2, m3, m4⟩ := HM.out
          rw [heq] at m1 m2 m3
          exact ⟨A', n', c', rfl, m1, m2, own_baseT m3 (by omega), HB.out.trans ((HV4.out.mono (by omega)).trans (m4.mono (by omega)))⟩
end Go.Proofs.Ytiokiecnglmbnaa
