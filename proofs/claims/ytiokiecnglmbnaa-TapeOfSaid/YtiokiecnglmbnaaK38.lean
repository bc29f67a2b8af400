/-
  The reference's Encode. Conditions: at most 1000 events and 1000 answers; the numbers are Go's.
-/
import Derived.Test.YtiokiecnglmbnaaK37
import Derived.Test.YtiokiecnglmbnaaK21
import Derived.Deep.AppendLies
import Derived.Test.YtiokiecnglmbnaaK15
import Derived.Test.YtiokiecnglmbnaaK31

namespace Go.Proofs.Ytiokiecnglmbnaa
open Go Go.RowKit Go.Proofs
attribute [local go_sem] Oper.semAt_some

theorem ints_row {V : World} {b : Nat} {zs : List Int} {C : Array Value} {n : Nat} (h : V.heap[b]? = some (.cells C 3 (0, 0))) (hC : C = (zs.map (Value.int .i64)).toArray) (hn : zs.length = n) : Ints .i64 V.heap.size V (some ⟨b, 0, none⟩) n zs := by
  subst hC
  refine ⟨hn, fun _ => ⟨b, 0, rfl, heap_lt h, fun j hj => ?_⟩⟩
  rw [cell_of_row V b (0 + j) _ _ (0, 0) h]
  simp [List.getElem?_eq_getElem (by omega : j < zs.length)]
/-- Bytes in a row, wherever it lies. -/
def RgX.Sp.slc (zs : List Int) : RgX.Sp := ⟨fun w x => ∃ B n c, x = .slice B n c ∧ zs.length = n ∧ Slc .u8 w B n c zs, fun ⟨B, n, c, e, h1, h2⟩ hb => ⟨B, n, c, e, h1, h2.below hb⟩⟩
theorem numbers_good {b n c : Nat} {zs : List Int} {C : Array Value} (w : World) (h : w.heap[b]? = some (.cells C 3 (0, 0))) (hC : C = (zs.map (Value.int .i64)).toArray) (hn : zs.length = n) (h64 : ∀ x ∈ zs, I64 x) (h100 : n ≤ 100) :
    Calls Try.prog 56 #[.slice (some ⟨b, 0, none⟩) n c] w fun e w' => (∃ v, e = .returned v ∧ (RgX.Sp.slc (encN zs)).p w' v) ∧ Below w.heap.size w w' :=
  (refNumbers_any w (ints_row h hC hn) h64 h100).mono fun _ _ ⟨P_, p_, q_, h1_, h2_, _, h3_, h4_⟩ => ⟨⟨_, h1_, P_, p_, q_, rfl, h2_, own_slc h3_⟩, h4_⟩
theorem encN_pos (l : List Int) (h : l ≠ []) : 0 < (encN l).length := by
  cases l with
  | nil => exact absurd rfl h
  | cons x xs =>
    have hx : 1 ≤ (encU (zig x)).length := by unfold encU encF; split <;> simp
    unfold encN
    rw [List.flatMap_cons, List.length_append]
    unfold encI
    omega
theorem take_evs {es : List NM.Ev} {k : Nat} {x : NM.Ev} (hx : es[k]? = some x) : (es.take (k + 1)).flatMap (fun e => encN (NM.evL e)) = (es.take k).flatMap (fun e => encN (NM.evL e)) ++ encN (NM.evL x) := by
  rw [List.take_add_one, hx, List.flatMap_append]; simp
theorem take_ans {l : List TP.An} {k : Nat} {x : TP.An} (hx : l[k]? = some x) : (l.take (k + 1)).flatMap (fun e => encN (anL e)) = (l.take k).flatMap (fun e => encN (anL e)) ++ encN (anL x) := by
  rw [List.take_add_one, hx, List.flatMap_append]; simp
set_option maxHeartbeats 8000000 in
set_option maxRecDepth 100000 in
theorem refEncode_any {E A : Option Addr} {ne ce na ca : Nat} {es : List NM.Ev} {l : List TP.An} (w : World) (h : TIn w E ne ce A na es l) (h1 : ne ≤ 1000) (h2 : na ≤ 1000) (he : ∀ e ∈ es, ∀ x ∈ NM.evL e, I64 x) (ha : ∀ a ∈ l, ∀ x ∈ anL a, I64 x) :
    Calls Try.prog 34 #[.agg #[.slice E ne ce, .slice A na ca]] w (Mk 5 .u8 w (encT es (TP.normA l))) := by
  obtain ⟨i0, hi0, hz0, hz1, hz2⟩ := info_parts info_byte
  have hb := one_box w (.cells #[.slice E ne ce, .slice A na ca] 26)
  obtain ⟨U, hU⟩ : ∃ U, w.alloc (.cells #[.slice E ne ce, .slice A na ca] 26) = U := ⟨_, rfl⟩
  rw [hU] at hb
  have hlt : U.heap.size = w.heap.size + 1 := by rw [← hU]; simp
  have k1 : U.heap[w.heap.size]? = some (.cells #[.slice E ne ce, .slice A na ca] 26 (0, 0)) := by rw [← hU]; exact new_at rfl
  obtain ⟨⟨b0, b1⟩, _, _⟩ := row2 k1
  have HN := Lib.hid (refNormal_any (ca := ca) U (h.keep hb) (by omega))
  have hel := h.ev.1
  have hal := h.an.1
  have hnl := TP.norm_len l
  have H64 := Lib.hid (And.intro he (normA_i64 ha))
  have HB := Lib.hid hb
  clear k1 hb h he ha
  go_enter Try.func34, Try.ntmps34
  go_wp2_with fail
  refine HN.out.mono ?_
  clear HN b0 b1 hU
  rintro e w1 ⟨⟨E1, c1, A1, na1, d1, rfl, hE1, hR1⟩, hb1⟩
  have HR1 := Lib.hid (And.intro hE1 (And.intro hR1 hb1))
  have hs1 := hb1.size
  clear hE1 hR1 hb1
  go_upto_region 2 with (fail)
  obtain ⟨W, hW⟩ : ∃ W, w1.alloc (.cells #[.slice E1 ne c1, .slice A1 na1 d1] 26) = W := ⟨_, rfl⟩
  rw [hW]
  have hbW : Below w1.heap.size w1 W := hW ▸ one_box w1 _
  have hsW : W.heap.size = w1.heap.size + 1 := by rw [← hW]; simp
  have kW : W.heap[w1.heap.size]? = some (.cells #[.slice E1 ne c1, .slice A1 na1 d1] 26 (0, 0)) := by rw [← hW]; exact World.alloc_heap_new w1 _
  have HBW := Lib.hid (HB.out.trans ((HR1.out.2.2.trans (hbW.mono hs1)).mono HB.out.size))
  have HEV := Lib.hid ((evs_of_own HR1.out.1 hel).keep hbW)
  have HAN := Lib.hid (HR1.out.2.1.keep hbW).ans
  have hnn : (TP.normA l).length = na1 := HR1.out.2.1.len
  have HK := Lib.hid (fun (V : World) (hV : Below W.heap.size W V) => (row2 ((hV.block _ (by omega)).trans kW)).1)
  obtain ⟨g3, hg3⟩ : ∃ g, w1.heap.size = g := ⟨_, rfl⟩
  rw [hg3] at HK hsW
  rw [hg3]
  obtain ⟨L, hL⟩ : ∃ L, TP.normA l = L := ⟨_, rfl⟩
  rw [hL] at HAN hnn H64 hnl
  rw [hL]
  clear hbW hW kW HR1 hg3 hs1
  obtain ⟨b0, b1⟩ := HK.out W (Below.refl _ _)
  have hwe : IntKind.u64.wrap (ne : Int) = ne := by rw [IntKind.wrap_u64]; omega
  have hwa : IntKind.u64.wrap (na1 : Int) = na1 := by rw [IntKind.wrap_u64]; omega
  go_wp2_with fail
  refine (ref_uint ne W ⟨by omega, by omega⟩).mono ?_
  rintro e w2 ⟨Bz, mz, xz, rfl, m1, _, m3, m4⟩
  have HO := Lib.hid (And.intro m3 m4)
  have hul := encU_len ne
  have hul2 := encU_len na1
  clear m3 m4 b0 b1 hwe
  go_wp2_with fail
  go_loopw [4, 5] (fun o i V => ∃ (k m d : Nat) (B : Option Addr), k ≤ ne ∧ m ≤ 10 + 80 * k ∧ i = .int .i64 (k : Int) ∧ o = .slice B m d ∧ Hid (V.ownsRow W.heap.size 5 1 (.slice B m d) m ((encU ne ++ (es.take k).flatMap fun e => encN (NM.evL e)).map (Value.int .u8)) ∧ Below W.heap.size W V)) (fun _ i _ => ne - (intOf i).toNat)
  case atStart => exact ⟨0, mz, xz, Bz, by omega, by omega, rfl, rfl, (by have := HO.out; simpa using this : _ ∧ _)⟩
  case round =>
    obtain ⟨k, m, d, B, hk, hmk, rfl, rfl, HV⟩ := hrel
    obtain ⟨b0, b1⟩ := HK.out wr HV.out.2
    by_cases hin : k < ne
    · have dk : decide (k < ne) = true := decide_eq_true hin
      obtain ⟨x, hx⟩ : ∃ x, es[k]? = some x := ⟨_, List.getElem?_eq_getElem (by omega)⟩
      obtain ⟨g, hg, hgl, hxa⟩ := HEV.out.2 (by omega)
      obtain ⟨p0, p1, p2, p3, p4, p5, p6, p7⟩ := (hxa k x hx).keep hgl HV.out.2
      subst hg
      have HX := Lib.hid (take_evs hx)
      have hx64 := H64.out.1 x (List.mem_of_getElem? hx)
      obtain ⟨xk, xn, xa, ⟨xc, xh, xt, xi, xp⟩⟩ := x
      have hki : (k : Int) < (ne : Int) := by omega
      have hEl := encN_len (NM.evL ⟨xk, xn, xa, ⟨xc, xh, xt, xi, xp⟩⟩)
      have h8 : (NM.evL ⟨xk, xn, xa, ⟨xc, xh, xt, xi, xp⟩⟩).length = 8 := rfl
      clear hxa hx
      go_wp2_with fail
      obtain ⟨V3, hV3, hb3, _, _, k3, hs3⟩ := three_boxes wr (.cells #[.int .i64 xk, .int .i64 xn, .int .i64 xa, .int .i64 xc, .int .i64 xh, .int .i64 xt, .int .i64 xi, .int .i64 xp] 47) (.cells #[.int .i64 xc, .int .i64 xh, .int .i64 xt] 28) (.cells #[.int .i64 xk, .int .i64 xn, .int .i64 xa, .int .i64 xc, .int .i64 xh, .int .i64 xt, .int .i64 xi, .int .i64 xp] 3)
      rw [hV3]
      have hD3 := HV.out.2.trans (hb3.mono HV.out.2.size)
      have hO3 := own_belowT HV.out.1 hb3
      refine (refNumbers_any V3 (ints_row (zs := NM.evL ⟨xk, xn, xa, ⟨xc, xh, xt, xi, xp⟩⟩) k3 rfl rfl) hx64 (by rw [h8]; decide)).mono ?_
      rintro e w4 ⟨P, p, q, rfl, n1, _, n3, n4⟩
      have HM := Lib.hid (And.intro (own_belowT hO3 n4) (hD3.trans (n4.mono hD3.size)))
      have HS := Lib.hid (src_slc (own_slc n3))
      have hnl4 : ((encN (NM.evL ⟨xk, xn, xa, ⟨xc, xh, xt, xi, xp⟩⟩)).map (Value.int .u8)).length = p * 1 := by rw [List.length_map, Nat.mul_one]; exact n1
      have hml2 : m + p ≤ maxLen := by simp only [maxLen]; omega
      clear n3 n4 hO3 hD3 hb3 k3 hV3 hx64
      go_wp2_with (at_builtin; refine RgX.wpList_append_any rfl _ _ 60 rfl W.heap.size 5 i0 _ 1 1 Try.underlying60 hi0 hz0 hz1 hz2 rfl (by decide) (.slice B m d) m _ rfl HM.out.1 P p q ((encN (NM.evL ⟨xk, xn, xa, ⟨xc, xh, xt, xi, xp⟩⟩)).map (Value.int .u8)) rfl hnl4 HS.out (bytes_one _) hml2 (by omega) HM.out.2.size ?_; intro B3 d3 w5 ho3 hg5)
      have HV5 := Lib.hid (And.intro ho3 (HM.out.2.grown hg5 HM.out.2.size fun b e => (HM.out.1.lt b e).1))
      clear hg5 ho3
      go_roundw
      case rel => exact ⟨k + 1, m + p, d3, B3, by omega, by omega, by go_num, rfl, (by rw [HX.out, ← List.append_assoc, List.map_append]; exact HV5.out : _ ∧ _)⟩
      case measure => simp [intOf]; omega
    · have dk : decide (k < ne) = false := decide_eq_false hin
      obtain rfl : k = ne := by omega
      have HT := Lib.hid (show es.take k = es from List.take_of_length_le (by omega))
      go_wp2_with fail
      refine (ref_uint na1 wr ⟨by omega, by omega⟩).mono ?_
      rintro e w4 ⟨P, p, q, rfl, n1, _, n3, n4⟩
      have HM := Lib.hid (And.intro (own_belowT HV.out.1 n4) (HV.out.2.trans (n4.mono HV.out.2.size)))
      have HS := Lib.hid (src_slc (own_slc n3))
      have hnl4 : ((encU na1).map (Value.int .u8)).length = p * 1 := by rw [List.length_map, Nat.mul_one]; exact n1
      have hml2 : m + p ≤ maxLen := by simp only [maxLen]; omega
      obtain ⟨b0, b1⟩ := HK.out w4 HM.out.2
      clear n3 n4
      go_upto_region 10 with (at_builtin; refine RgX.wpList_append_any rfl _ _ 60 rfl W.heap.size 5 i0 _ 1 1 Try.underlying60 hi0 hz0 hz1 hz2 rfl (by decide) (.slice B m d) m _ rfl HM.out.1 P p q ((encU na1).map (Value.int .u8)) rfl hnl4 HS.out (bytes_one _) hml2 (by omega) HM.out.2.size ?_; intro B3 d3 w5 ho3 hg5)
      have HV5 := Lib.hid (And.intro ho3 (HM.out.2.grown hg5 HM.out.2.size fun b e => (HM.out.1.lt b e).1))
      clear hg5 ho3
      obtain ⟨acc, hacc⟩ : ∃ a, (encU k ++ (es.take k).flatMap fun e => encN (NM.evL e)) ++ encU na1 = a := ⟨_, rfl⟩
      have hpu : p ≤ 10 := by omega
      have HA0 := Lib.hid (show w5.ownsRow W.heap.size 5 1 (.slice B3 (m + p) d3) (m + p) ((acc ++ (L.take 0).flatMap fun x => encN (anL x)).map (Value.int .u8)) ∧ Below W.heap.size W w5 from by
        have := HV5.out
        rw [← List.map_append, hacc] at this
        simpa using this)
      clear HV5 HM HS hnl4 n1 b0 b1 HV
      go_wp2_with fail
      go_loopw [4, 8] (fun o i V => ∃ (j m d : Nat) (B : Option Addr), j ≤ na1 ∧ m ≤ 20 + 80 * k + 60 * j ∧ i = .int .i64 (j : Int) ∧ o = .slice B m d ∧ Hid (V.ownsRow W.heap.size 5 1 (.slice B m d) m ((acc ++ (L.take j).flatMap fun x => encN (anL x)).map (Value.int .u8)) ∧ Below W.heap.size W V)) (fun _ i _ => na1 - (intOf i).toNat)
      case atStart => exact ⟨0, m + p, d3, B3, by omega, by omega, rfl, rfl, HA0.out⟩
      case round =>
        obtain ⟨j, mj, xj, Bj, hj, hmj, rfl, rfl, HV⟩ := hrel
        obtain ⟨b0, b1⟩ := HK.out wr HV.out.2
        by_cases hin : j < na1
        · have dj : decide (j < na1) = true := decide_eq_true hin
          obtain ⟨x, hx⟩ : ∃ x, L[j]? = some x := ⟨_, List.getElem?_eq_getElem (by omega)⟩
          obtain ⟨g, hg, hgl, hxa⟩ := HAN.out.2 (by omega)
          obtain ⟨p0, p1, p2, p3, p4, p5⟩ := (hxa j x hx).keep hgl HV.out.2
          subst hg
          have HX := Lib.hid (take_ans hx)
          have hx64 := Lib.hid (H64.out.2 x (List.mem_of_getElem? hx))
          obtain ⟨⟨xc, xh, xt, xk, xi⟩, y⟩ := x
          have hki : (j : Int) < (na1 : Int) := by omega
          have hEl := encN_len (anL (⟨xc, xh, xt, xk, xi⟩, y))
          have h6 : (anL (⟨xc, xh, xt, xk, xi⟩, y)).length = 6 := rfl
          go_upto_region 14 with (fail)
          obtain ⟨V2, hV2⟩ : ∃ V, wr.alloc (.cells #[.int .i64 xc, .int .i64 xh, .int .i64 xt, .int .i64 xk, .int .i64 xi] 30) = V := ⟨_, rfl⟩
          rw [hV2]
          have hb2 : Below wr.heap.size wr V2 := hV2 ▸ one_box wr _
          have hs2 : V2.heap.size = wr.heap.size + 1 := by rw [← hV2]; simp
          have HQ9 := Lib.hid (fun (V : World) (hV : Below V2.heap.size V2 V) => row5 ((hV.block wr.heap.size (by omega)).trans (show V2.heap[wr.heap.size]? = some (.cells #[.int .i64 xc, .int .i64 xh, .int .i64 xt, .int .i64 xk, .int .i64 xi] 30 (0, 0)) by rw [← hV2]; exact World.alloc_heap_new wr _)))
          have hD2 := HV.out.2.trans (hb2.mono HV.out.2.size)
          have HD2 := Lib.hid (And.intro (own_belowT HV.out.1 hb2) hD2)
          obtain ⟨g9, hg9⟩ : ∃ g, wr.heap.size = g := ⟨_, rfl⟩
          rw [hg9] at HQ9
          rw [hg9]
          have HCE := Lib.hid (fun (V : World) (hV : Below V2.heap.size V2 V) => And.intro (HQ9.out V hV) (And.intro (HK.out V (hD2.trans (hV.mono hD2.size))) ((hxa j _ hx).keep hgl (hD2.trans (hV.mono hD2.size)))))
          clear hxa hx hV2 hb2 hD2 p0 p1 p2 p3 p4 p5 b0 b1
          refine RgX.tail2 23 22 (fun i => ( 74 + i)) (fun ix_ => match ix_ with | 0 => .v (.slice Bj mj xj) | 1 => .v (.pointer (some ⟨g9, 0, none⟩)) | 2 => .v (.pointer (some ⟨g9, 0, none⟩)) | 3 => .v (.int .i64 xc) | 4 => .v (.pointer (some ⟨g9, 0, none⟩)) | 5 => .v (.pointer (some ⟨g9, 1, none⟩)) | 6 => .v (.int .i64 xh) | 7 => .v (.pointer (some ⟨g9, 0, none⟩)) | 8 => .v (.pointer (some ⟨g9, 2, none⟩)) | 9 => .v (.int .i64 xt) | 10 => .v (.pointer (some ⟨g9, 3, none⟩)) | 11 => .v (.int .i64 xk) | 12 => .v (.pointer (some ⟨g9, 4, none⟩)) | 13 => .v (.int .i64 xi) | 14 => .v (.pointer (some ⟨g3, 1, none⟩)) | 15 => .v (.slice (some ⟨g, 0, none⟩) na1 d1) | 16 => .v (.int .i64 (j : Int)) | 17 => .v (.pointer (some ⟨g, j * 6, none⟩)) | 18 => .v (.pointer (some ⟨g, j * 6 + 5, none⟩)) | 19 => .v (.int .i64 y) | 20 => .row #[.int .i64 xc, .int .i64 xh, .int .i64 xt, .int .i64 xk, .int .i64 xi, .int .i64 y] 3 6 | 21 => .slc (encN (anL (⟨xc, xh, xt, xk, xi⟩, y))) | 22 => .any | _ => .any) [] (fun ix_ => match ix_ with  | _ => undef) _ _ (fun v w' => ∃ (B' : Option Addr) (c' : Nat), v = .slice B' (mj + (encN (anL (⟨xc, xh, xt, xk, xi⟩, y))).length) c' ∧ w'.ownsRow W.heap.size 5 1 (.slice B' (mj + (encN (anL (⟨xc, xh, xt, xk, xi⟩, y))).length) c') (mj + (encN (anL (⟨xc, xh, xt, xk, xi⟩, y))).length) (((acc ++ (L.take j).flatMap fun x => encN (anL x)).map (Value.int .u8)) ++ (encN (anL (⟨xc, xh, xt, xk, xi⟩, y))).map (Value.int .u8)) ∧ Below W.heap.size W w') (by kernel_rfl) rfl rfl (by decide) rfl (by kernel_rfl) (by kernel_rfl) (by kernel_rfl) (by decide) (fun i hi => by show ( 74 + i) < 98; (repeat' split) <;> omega) (fun i j hi hj => by show ( 74 + i) = ( 74 + j) → i = j; (repeat' split) <;> omega) ?step ?app ?flo ?hF ?fin
          case step =>
            intro L_ A_ w3 ix op_ hi hnA hI ho hdep
            have hcase : ix = 0 ∨ ix = 1 ∨ ix = 2 ∨ ix = 3 ∨ ix = 4 ∨ ix = 5 ∨ ix = 6 ∨ ix = 7 ∨ ix = 8 ∨ ix = 9 ∨ ix = 10 ∨ ix = 11 ∨ ix = 12 ∨ ix = 13 ∨ ix = 14 ∨ ix = 15 ∨ ix = 16 ∨ ix = 17 ∨ ix = 18 ∨ ix = 19 ∨ ix = 20 ∨ ix = 21 := by omega
            have hh := hI.held
            clear hi hnA
            rcases hcase with rfl | rfl | rfl | rfl | rfl | rfl | rfl | rfl | rfl | rfl | rfl | rfl | rfl | rfl | rfl | rfl | rfl | rfl | rfl | rfl | rfl | rfl
            · simp only [List.getElem?_toArray, List.getElem?_cons_zero, Option.some.injEq] at ho
              subst ho
              refine ⟨rfl, ?_⟩
              have e4 : A_.tmps[4]?.getD undef = .slice Bj mj xj := by rw [hI.low 4 (by decide)]; rfl
              clear hI hdep
              exact .run rfl (.slice Bj mj xj) w3 (by simp [execOp, go_sem, Act.eval, e4]) (Below.refl _ _) rfl
            · simp only [List.getElem?_toArray, List.getElem?_cons_succ, List.getElem?_cons_zero, Option.some.injEq] at ho
              subst ho
              refine ⟨rfl, ?_⟩
              have e9 : A_.tmps[9]?.getD undef = .pointer (some ⟨g9, 0, none⟩) := by rw [hI.low 9 (by decide)]; rfl
              clear hI hdep
              exact .run rfl (.pointer (some ⟨g9, 0, none⟩)) w3 (by simp [execOp, go_sem, Act.eval, e9]) (Below.refl _ _) rfl
            · simp only [List.getElem?_toArray, List.getElem?_cons_succ, List.getElem?_cons_zero, Option.some.injEq] at ho
              subst ho
              refine ⟨rfl, ?_⟩
              have e75 : A_.tmps[75]?.getD undef = .pointer (some ⟨g9, 0, none⟩) := getD_of (hI.val_ (i := 1) rfl rfl (by decide) (hdep ⟨1, .data⟩ (by simp) rfl))
              clear hI hdep
              exact .run rfl (.pointer (some ⟨g9, 0, none⟩)) w3 (by simp [execOp, go_sem, Act.eval, e75]) (Below.refl _ _) rfl
            · simp only [List.getElem?_toArray, List.getElem?_cons_succ, List.getElem?_cons_zero, Option.some.injEq] at ho
              subst ho
              refine ⟨rfl, ?_⟩
              have e76 : A_.tmps[76]?.getD undef = .pointer (some ⟨g9, 0, none⟩) := getD_of (hI.val_ (i := 2) rfl rfl (by decide) (hdep ⟨2, .data⟩ (by simp) rfl))
              clear hI hdep
              obtain ⟨⟨q0, q1, q2, q3, q4⟩, ⟨s0, s1⟩, _, _, _, _, _, r5⟩ := HCE.out w3 hh
              exact .run rfl (.int .i64 xc) w3 (by simp [execOp, go_sem, Act.eval, *]) (Below.refl _ _) rfl
            · simp only [List.getElem?_toArray, List.getElem?_cons_succ, List.getElem?_cons_zero, Option.some.injEq] at ho
              subst ho
              refine ⟨rfl, ?_⟩
              have e9 : A_.tmps[9]?.getD undef = .pointer (some ⟨g9, 0, none⟩) := by rw [hI.low 9 (by decide)]; rfl
              clear hI hdep
              exact .run rfl (.pointer (some ⟨g9, 0, none⟩)) w3 (by simp [execOp, go_sem, Act.eval, e9]) (Below.refl _ _) rfl
            · simp only [List.getElem?_toArray, List.getElem?_cons_succ, List.getElem?_cons_zero, Option.some.injEq] at ho
              subst ho
              refine ⟨rfl, ?_⟩
              have e78 : A_.tmps[78]?.getD undef = .pointer (some ⟨g9, 0, none⟩) := getD_of (hI.val_ (i := 4) rfl rfl (by decide) (hdep ⟨4, .data⟩ (by simp) rfl))
              clear hI hdep
              exact .run rfl (.pointer (some ⟨g9, 1, none⟩)) w3 (by simp [execOp, go_sem, Act.eval, e78]) (Below.refl _ _) rfl
            · simp only [List.getElem?_toArray, List.getElem?_cons_succ, List.getElem?_cons_zero, Option.some.injEq] at ho
              subst ho
              refine ⟨rfl, ?_⟩
              have e79 : A_.tmps[79]?.getD undef = .pointer (some ⟨g9, 1, none⟩) := getD_of (hI.val_ (i := 5) rfl rfl (by decide) (hdep ⟨5, .data⟩ (by simp) rfl))
              clear hI hdep
              obtain ⟨⟨q0, q1, q2, q3, q4⟩, ⟨s0, s1⟩, _, _, _, _, _, r5⟩ := HCE.out w3 hh
              exact .run rfl (.int .i64 xh) w3 (by simp [execOp, go_sem, Act.eval, *]) (Below.refl _ _) rfl
            · simp only [List.getElem?_toArray, List.getElem?_cons_succ, List.getElem?_cons_zero, Option.some.injEq] at ho
              subst ho
              refine ⟨rfl, ?_⟩
              have e9 : A_.tmps[9]?.getD undef = .pointer (some ⟨g9, 0, none⟩) := by rw [hI.low 9 (by decide)]; rfl
              clear hI hdep
              exact .run rfl (.pointer (some ⟨g9, 0, none⟩)) w3 (by simp [execOp, go_sem, Act.eval, e9]) (Below.refl _ _) rfl
            · simp only [List.getElem?_toArray, List.getElem?_cons_succ, List.getElem?_cons_zero, Option.some.injEq] at ho
              subst ho
              refine ⟨rfl, ?_⟩
              have e81 : A_.tmps[81]?.getD undef = .pointer (some ⟨g9, 0, none⟩) := getD_of (hI.val_ (i := 7) rfl rfl (by decide) (hdep ⟨7, .data⟩ (by simp) rfl))
              clear hI hdep
              exact .run rfl (.pointer (some ⟨g9, 2, none⟩)) w3 (by simp [execOp, go_sem, Act.eval, e81]) (Below.refl _ _) rfl
            · simp only [List.getElem?_toArray, List.getElem?_cons_succ, List.getElem?_cons_zero, Option.some.injEq] at ho
              subst ho
              refine ⟨rfl, ?_⟩
              have e82 : A_.tmps[82]?.getD undef = .pointer (some ⟨g9, 2, none⟩) := getD_of (hI.val_ (i := 8) rfl rfl (by decide) (hdep ⟨8, .data⟩ (by simp) rfl))
              clear hI hdep
              obtain ⟨⟨q0, q1, q2, q3, q4⟩, ⟨s0, s1⟩, _, _, _, _, _, r5⟩ := HCE.out w3 hh
              exact .run rfl (.int .i64 xt) w3 (by simp [execOp, go_sem, Act.eval, *]) (Below.refl _ _) rfl
            · simp only [List.getElem?_toArray, List.getElem?_cons_succ, List.getElem?_cons_zero, Option.some.injEq] at ho
              subst ho
              refine ⟨rfl, ?_⟩
              have e9 : A_.tmps[9]?.getD undef = .pointer (some ⟨g9, 0, none⟩) := by rw [hI.low 9 (by decide)]; rfl
              clear hI hdep
              exact .run rfl (.pointer (some ⟨g9, 3, none⟩)) w3 (by simp [execOp, go_sem, Act.eval, e9]) (Below.refl _ _) rfl
            · simp only [List.getElem?_toArray, List.getElem?_cons_succ, List.getElem?_cons_zero, Option.some.injEq] at ho
              subst ho
              refine ⟨rfl, ?_⟩
              have e84 : A_.tmps[84]?.getD undef = .pointer (some ⟨g9, 3, none⟩) := getD_of (hI.val_ (i := 10) rfl rfl (by decide) (hdep ⟨10, .data⟩ (by simp) rfl))
              clear hI hdep
              obtain ⟨⟨q0, q1, q2, q3, q4⟩, ⟨s0, s1⟩, _, _, _, _, _, r5⟩ := HCE.out w3 hh
              exact .run rfl (.int .i64 xk) w3 (by simp [execOp, go_sem, Act.eval, *]) (Below.refl _ _) rfl
            · simp only [List.getElem?_toArray, List.getElem?_cons_succ, List.getElem?_cons_zero, Option.some.injEq] at ho
              subst ho
              refine ⟨rfl, ?_⟩
              have e9 : A_.tmps[9]?.getD undef = .pointer (some ⟨g9, 0, none⟩) := by rw [hI.low 9 (by decide)]; rfl
              clear hI hdep
              exact .run rfl (.pointer (some ⟨g9, 4, none⟩)) w3 (by simp [execOp, go_sem, Act.eval, e9]) (Below.refl _ _) rfl
            · simp only [List.getElem?_toArray, List.getElem?_cons_succ, List.getElem?_cons_zero, Option.some.injEq] at ho
              subst ho
              refine ⟨rfl, ?_⟩
              have e86 : A_.tmps[86]?.getD undef = .pointer (some ⟨g9, 4, none⟩) := getD_of (hI.val_ (i := 12) rfl rfl (by decide) (hdep ⟨12, .data⟩ (by simp) rfl))
              clear hI hdep
              obtain ⟨⟨q0, q1, q2, q3, q4⟩, ⟨s0, s1⟩, _, _, _, _, _, r5⟩ := HCE.out w3 hh
              exact .run rfl (.int .i64 xi) w3 (by simp [execOp, go_sem, Act.eval, *]) (Below.refl _ _) rfl
            · simp only [List.getElem?_toArray, List.getElem?_cons_succ, List.getElem?_cons_zero, Option.some.injEq] at ho
              subst ho
              refine ⟨rfl, ?_⟩
              have e3 : A_.tmps[3]?.getD undef = .pointer (some ⟨g3, 0, none⟩) := by rw [hI.low 3 (by decide)]; rfl
              clear hI hdep
              exact .run rfl (.pointer (some ⟨g3, 1, none⟩)) w3 (by simp [execOp, go_sem, Act.eval, e3]) (Below.refl _ _) rfl
            · simp only [List.getElem?_toArray, List.getElem?_cons_succ, List.getElem?_cons_zero, Option.some.injEq] at ho
              subst ho
              refine ⟨rfl, ?_⟩
              have e88 : A_.tmps[88]?.getD undef = .pointer (some ⟨g3, 1, none⟩) := getD_of (hI.val_ (i := 14) rfl rfl (by decide) (hdep ⟨14, .data⟩ (by simp) rfl))
              clear hI hdep
              obtain ⟨⟨q0, q1, q2, q3, q4⟩, ⟨s0, s1⟩, _, _, _, _, _, r5⟩ := HCE.out w3 hh
              exact .run rfl (.slice (some ⟨g, 0, none⟩) na1 d1) w3 (by simp [execOp, go_sem, Act.eval, *]) (Below.refl _ _) rfl
            · simp only [List.getElem?_toArray, List.getElem?_cons_succ, List.getElem?_cons_zero, Option.some.injEq] at ho
              subst ho
              refine ⟨rfl, ?_⟩
              have e8 : A_.tmps[8]?.getD undef = .int .i64 (j : Int) := by rw [hI.low 8 (by decide)]; rfl
              clear hI hdep
              exact .run rfl (.int .i64 (j : Int)) w3 (by simp [execOp, go_sem, Act.eval, e8]) (Below.refl _ _) rfl
            · simp only [List.getElem?_toArray, List.getElem?_cons_succ, List.getElem?_cons_zero, Option.some.injEq] at ho
              subst ho
              refine ⟨rfl, ?_⟩
              have e89 : A_.tmps[89]?.getD undef = .slice (some ⟨g, 0, none⟩) na1 d1 := getD_of (hI.val_ (i := 15) rfl rfl (by decide) (hdep ⟨15, .data⟩ (by simp) rfl))
              have e90 : A_.tmps[90]?.getD undef = .int .i64 (j : Int) := getD_of (hI.val_ (i := 16) rfl rfl (by decide) (hdep ⟨16, .data⟩ (by simp) rfl))
              clear hI hdep
              exact .run rfl (.pointer (some ⟨g, j * 6, none⟩)) w3 (by simp [execOp, go_sem, Act.eval, e89, e90, hin]) (Below.refl _ _) rfl
            · simp only [List.getElem?_toArray, List.getElem?_cons_succ, List.getElem?_cons_zero, Option.some.injEq] at ho
              subst ho
              refine ⟨rfl, ?_⟩
              have e91 : A_.tmps[91]?.getD undef = .pointer (some ⟨g, j * 6, none⟩) := getD_of (hI.val_ (i := 17) rfl rfl (by decide) (hdep ⟨17, .data⟩ (by simp) rfl))
              clear hI hdep
              exact .run rfl (.pointer (some ⟨g, j * 6 + 5, none⟩)) w3 (by simp [execOp, go_sem, Act.eval, e91]) (Below.refl _ _) rfl
            · simp only [List.getElem?_toArray, List.getElem?_cons_succ, List.getElem?_cons_zero, Option.some.injEq] at ho
              subst ho
              refine ⟨rfl, ?_⟩
              have e92 : A_.tmps[92]?.getD undef = .pointer (some ⟨g, j * 6 + 5, none⟩) := getD_of (hI.val_ (i := 18) rfl rfl (by decide) (hdep ⟨18, .data⟩ (by simp) rfl))
              clear hI hdep
              obtain ⟨_, _, _, _, _, _, _, r5⟩ := HCE.out w3 hh
              exact .run rfl (.int .i64 y) w3 (by simp [execOp, go_sem, Act.eval, e92, r5]) (Below.refl _ _) rfl
            · simp only [List.getElem?_toArray, List.getElem?_cons_succ, List.getElem?_cons_zero, Option.some.injEq] at ho
              subst ho
              refine ⟨rfl, ?_⟩
              have e77 : A_.tmps[77]?.getD undef = .int .i64 xc := getD_of (hI.val_ (i := 3) rfl rfl (by decide) (hdep ⟨3, .data⟩ (by simp) rfl))
              have e80 : A_.tmps[80]?.getD undef = .int .i64 xh := getD_of (hI.val_ (i := 6) rfl rfl (by decide) (hdep ⟨6, .data⟩ (by simp) rfl))
              have e83 : A_.tmps[83]?.getD undef = .int .i64 xt := getD_of (hI.val_ (i := 9) rfl rfl (by decide) (hdep ⟨9, .data⟩ (by simp) rfl))
              have e85 : A_.tmps[85]?.getD undef = .int .i64 xk := getD_of (hI.val_ (i := 11) rfl rfl (by decide) (hdep ⟨11, .data⟩ (by simp) rfl))
              have e87 : A_.tmps[87]?.getD undef = .int .i64 xi := getD_of (hI.val_ (i := 13) rfl rfl (by decide) (hdep ⟨13, .data⟩ (by simp) rfl))
              have e93 : A_.tmps[93]?.getD undef = .int .i64 y := getD_of (hI.val_ (i := 19) rfl rfl (by decide) (hdep ⟨19, .data⟩ (by simp) rfl))
              clear hI hdep
              exact .run rfl (.slice (some ⟨w3.heap.size, 0, none⟩) 6 6) (w3.alloc (.cells #[.int .i64 xc, .int .i64 xh, .int .i64 xt, .int .i64 xk, .int .i64 xi, .int .i64 y] 3)) (by simp [execOp, go_sem, Act.eval, e77, e80, e83, e85, e87, e93]) ((Below.refl _ _).alloc (Nat.le_refl _) _) (RgX.row_new _ _ _ _)
            · simp only [List.getElem?_toArray, List.getElem?_cons_succ, List.getElem?_cons_zero, Option.some.injEq] at ho
              subst ho
              refine ⟨rfl, ?_⟩
              obtain ⟨_, e94, g94, rfl, r94⟩ := hI.get_ (i := 20) (j := 94) rfl rfl (by decide) (hdep ⟨20, .data⟩ (by simp) rfl)
              clear hI hdep
              exact .call rfl 56 #[.slice (some ⟨g94, 0, none⟩) 6 6] (by simp [go_sem, Act.eval, e94]) (numbers_good w3 r94 rfl rfl hx64.out (by decide))
          case app =>
            intro A_ w3 hs hlow hh hok
            have e74 : A_.tmps[74]?.getD undef = .slice Bj mj xj := getD_of (RgX.val_at (hok 0 74 _ (by decide) (by decide) (by decide) rfl rfl))
            obtain ⟨_, q95, B95, n95, c95, rfl, l95, h95⟩ := hok 21 95 _ (by decide) (by decide) (by decide) rfl rfl
            have e95 : A_.tmps[95]?.getD undef = .slice B95 n95 c95 := getD_of q95
            clear hs hlow hok
            refine ⟨rfl, rfl, ?_⟩
            obtain rfl : (encN (anL (⟨xc, xh, xt, xk, xi⟩, y))).length = n95 := l95
            have ho3 := own_belowT HD2.out.1 hh
            have hb3 := HD2.out.2.trans (hh.mono HD2.out.2.size)
            refine RgX.app_src_exec (.tmp 74) (.tmp 95) 60 rfl W.heap.size 5 i0 _ 1 1 Try.underlying60 hi0 hz0 hz1 hz2 rfl (by decide) (.slice Bj mj xj) mj ((acc ++ (L.take j).flatMap fun x => encN (anL x)).map (Value.int .u8)) (by simpa [Act.eval] using e74) ho3 B95 (encN (anL (⟨xc, xh, xt, xk, xi⟩, y))).length c95 ((encN (anL (⟨xc, xh, xt, xk, xi⟩, y))).map (Value.int .u8)) (by simpa [Act.eval] using e95) (by rw [List.length_map, Nat.mul_one]) (src_slc h95) (bytes_one _) (by simp only [maxLen]; omega) (by omega) hb3.size ?_
            intro B' c' w' hown' hgr'
            exact ⟨B', c', rfl, hown', hb3.grown hgr' hb3.size (fun b e => (ho3.lt b e).1)⟩
          case flo => exact fun _ _ _ _ hi => by cases hi
          case hF => exact fun _ hi => by cases hi
          case fin =>
          intro A_ w3 y_ hs hd hlow hy hG hfl hex
          obtain ⟨z74, hz74⟩ := hex 0 74 (by decide) rfl
          obtain ⟨z75, hz75⟩ := hex 1 75 (by decide) rfl
          obtain ⟨z76, hz76⟩ := hex 2 76 (by decide) rfl
          obtain ⟨z77, hz77⟩ := hex 3 77 (by decide) rfl
          obtain ⟨z78, hz78⟩ := hex 4 78 (by decide) rfl
          obtain ⟨z79, hz79⟩ := hex 5 79 (by decide) rfl
          obtain ⟨z80, hz80⟩ := hex 6 80 (by decide) rfl
          obtain ⟨z81, hz81⟩ := hex 7 81 (by decide) rfl
          obtain ⟨z82, hz82⟩ := hex 8 82 (by decide) rfl
          obtain ⟨z83, hz83⟩ := hex 9 83 (by decide) rfl
          obtain ⟨z84, hz84⟩ := hex 10 84 (by decide) rfl
          obtain ⟨z85, hz85⟩ := hex 11 85 (by decide) rfl
          obtain ⟨z86, hz86⟩ := hex 12 86 (by decide) rfl
          obtain ⟨z87, hz87⟩ := hex 13 87 (by decide) rfl
          obtain ⟨z88, hz88⟩ := hex 14 88 (by decide) rfl
          obtain ⟨z89, hz89⟩ := hex 15 89 (by decide) rfl
          obtain ⟨z90, hz90⟩ := hex 16 90 (by decide) rfl
          obtain ⟨z91, hz91⟩ := hex 17 91 (by decide) rfl
          obtain ⟨z92, hz92⟩ := hex 18 92 (by decide) rfl
          obtain ⟨z93, hz93⟩ := hex 19 93 (by decide) rfl
          obtain ⟨z94, hz94⟩ := hex 20 94 (by decide) rfl
          obtain ⟨z95, hz95⟩ := hex 21 95 (by decide) rfl
          obtain rfl : A_ = ⟨#[.agg #[.slice E k ce, .slice A na ca], .pointer (some ⟨w.heap.size, 0, none⟩), .slice none 0 0, .pointer (some ⟨g3, 0, none⟩), .slice Bj mj xj, .int .i64 (k : Int), u6, u7, .int .i64 (j : Int), .pointer (some ⟨g9, 0, none⟩), .agg #[.slice E k ce, .slice A na ca], .agg #[.slice E1 k c1, .slice (some ⟨g, 0, none⟩) na1 d1], .pointer (some ⟨g3, 0, none⟩), .slice E1 k c1, .int .i64 (k : Int), .int .u64 (k : Int), .slice Bz mz xz, .int .i64 (k : Int), .pointer (some ⟨g3, 0, none⟩), .slice E1 k c1, .int .i64 (k : Int), .bool false, u22, u23, u24, u25, u26, u27, u28, u29, u30, u31, u32, u33, u34, u35, u36, u37, u38, u39, u40, u41, u42, u43, u44, u45, u46, u47, u48, u49, u50, u51, u52, u53, .slice B m d, .pointer (some ⟨g3, 1, none⟩), .slice (some ⟨g, 0, none⟩) na1 d1, .int .i64 (na1 : Int), .int .u64 (na1 : Int), .slice P p q, .slice B3 (m + p) d3, .int .i64 (j : Int), .pointer (some ⟨g3, 1, none⟩), .slice (some ⟨g, 0, none⟩) na1 d1, .int .i64 (na1 : Int), .bool true, u66, u67, .pointer (some ⟨g3, 1, none⟩), .slice (some ⟨g, 0, none⟩) na1 d1, .int .i64 (j : Int), .pointer (some { block := g, off := j * 6 }), .pointer (some { block := g, off := j * 6 }), .agg #[.int .i64 xc, .int .i64 xh, .int .i64 xt, .int .i64 xk, .int .i64 xi], z74, z75, z76, z77, z78, z79, z80, z81, z82, z83, z84, z85, z86, z87, z88, z89, z90, z91, z92, z93, z94, z95, y_, undef], []⟩ := act_ext hd hs (fun j hj => match j, hj with | 0, _ => (hlow 0 (by decide)).trans rfl | 1, _ => (hlow 1 (by decide)).trans rfl | 2, _ => (hlow 2 (by decide)).trans rfl | 3, _ => (hlow 3 (by decide)).trans rfl | 4, _ => (hlow 4 (by decide)).trans rfl | 5, _ => (hlow 5 (by decide)).trans rfl | 6, _ => (hlow 6 (by decide)).trans rfl | 7, _ => (hlow 7 (by decide)).trans rfl | 8, _ => (hlow 8 (by decide)).trans rfl | 9, _ => (hlow 9 (by decide)).trans rfl | 10, _ => (hlow 10 (by decide)).trans rfl | 11, _ => (hlow 11 (by decide)).trans rfl | 12, _ => (hlow 12 (by decide)).trans rfl | 13, _ => (hlow 13 (by decide)).trans rfl | 14, _ => (hlow 14 (by decide)).trans rfl | 15, _ => (hlow 15 (by decide)).trans rfl | 16, _ => (hlow 16 (by decide)).trans rfl | 17, _ => (hlow 17 (by decide)).trans rfl | 18, _ => (hlow 18 (by decide)).trans rfl | 19, _ => (hlow 19 (by decide)).trans rfl | 20, _ => (hlow 20 (by decide)).trans rfl | 21, _ => (hlow 21 (by decide)).trans rfl | 22, _ => (hlow 22 (by decide)).trans rfl | 23, _ => (hlow 23 (by decide)).trans rfl | 24, _ => (hlow 24 (by decide)).trans rfl | 25, _ => (hlow 25 (by decide)).trans rfl | 26, _ => (hlow 26 (by decide)).trans rfl | 27, _ => (hlow 27 (by decide)).trans rfl | 28, _ => (hlow 28 (by decide)).trans rfl | 29, _ => (hlow 29 (by decide)).trans rfl | 30, _ => (hlow 30 (by decide)).trans rfl | 31, _ => (hlow 31 (by decide)).trans rfl | 32, _ => (hlow 32 (by decide)).trans rfl | 33, _ => (hlow 33 (by decide)).trans rfl | 34, _ => (hlow 34 (by decide)).trans rfl | 35, _ => (hlow 35 (by decide)).trans rfl | 36, _ => (hlow 36 (by decide)).trans rfl | 37, _ => (hlow 37 (by decide)).trans rfl | 38, _ => (hlow 38 (by decide)).trans rfl | 39, _ => (hlow 39 (by decide)).trans rfl | 40, _ => (hlow 40 (by decide)).trans rfl | 41, _ => (hlow 41 (by decide)).trans rfl | 42, _ => (hlow 42 (by decide)).trans rfl | 43, _ => (hlow 43 (by decide)).trans rfl | 44, _ => (hlow 44 (by decide)).trans rfl | 45, _ => (hlow 45 (by decide)).trans rfl | 46, _ => (hlow 46 (by decide)).trans rfl | 47, _ => (hlow 47 (by decide)).trans rfl | 48, _ => (hlow 48 (by decide)).trans rfl | 49, _ => (hlow 49 (by decide)).trans rfl | 50, _ => (hlow 50 (by decide)).trans rfl | 51, _ => (hlow 51 (by decide)).trans rfl | 52, _ => (hlow 52 (by decide)).trans rfl | 53, _ => (hlow 53 (by decide)).trans rfl | 54, _ => (hlow 54 (by decide)).trans rfl | 55, _ => (hlow 55 (by decide)).trans rfl | 56, _ => (hlow 56 (by decide)).trans rfl | 57, _ => (hlow 57 (by decide)).trans rfl | 58, _ => (hlow 58 (by decide)).trans rfl | 59, _ => (hlow 59 (by decide)).trans rfl | 60, _ => (hlow 60 (by decide)).trans rfl | 61, _ => (hlow 61 (by decide)).trans rfl | 62, _ => (hlow 62 (by decide)).trans rfl | 63, _ => (hlow 63 (by decide)).trans rfl | 64, _ => (hlow 64 (by decide)).trans rfl | 65, _ => (hlow 65 (by decide)).trans rfl | 66, _ => (hlow 66 (by decide)).trans rfl | 67, _ => (hlow 67 (by decide)).trans rfl | 68, _ => (hlow 68 (by decide)).trans rfl | 69, _ => (hlow 69 (by decide)).trans rfl | 70, _ => (hlow 70 (by decide)).trans rfl | 71, _ => (hlow 71 (by decide)).trans rfl | 72, _ => (hlow 72 (by decide)).trans rfl | 73, _ => (hlow 73 (by decide)).trans rfl | 74, _ => hz74 | 75, _ => hz75 | 76, _ => hz76 | 77, _ => hz77 | 78, _ => hz78 | 79, _ => hz79 | 80, _ => hz80 | 81, _ => hz81 | 82, _ => hz82 | 83, _ => hz83 | 84, _ => hz84 | 85, _ => hz85 | 86, _ => hz86 | 87, _ => hz87 | 88, _ => hz88 | 89, _ => hz89 | 90, _ => hz90 | 91, _ => hz91 | 92, _ => hz92 | 93, _ => hz93 | 94, _ => hz94 | 95, _ => hz95 | 96, _ => hy | 97, _ => (hlow 97 (by decide)).trans rfl | n + 98, h => absurd h (by show ¬ n + 98 < 98; omega))
          clear hs hd hlow hy hfl hex hz74 hz75 hz76 hz77 hz78 hz79 hz80 hz81 hz82 hz83 hz84 hz85 hz86 hz87 hz88 hz89 hz90 hz91 hz92 hz93 hz94 hz95
          obtain ⟨B', c', rfl, hown', hb'⟩ := hG
          have HV5 := Lib.hid (And.intro hown' hb')
          clear hown' hb'
          go_wp2_with fail
          go_roundw
          case rel => exact ⟨j + 1, mj + (encN (anL (⟨xc, xh, xt, xk, xi⟩, y))).length, c', B', by omega, by omega, by go_num, rfl, (by rw [HX.out, ← List.append_assoc, List.map_append]; exact HV5.out : _ ∧ _)⟩
          case measure => simp [intOf]; omega
        · have dj : decide (j < na1) = false := decide_eq_false hin
          obtain rfl : j = na1 := by omega
          have HT2 := Lib.hid (show L.take j = L from List.take_of_length_le (by omega))
          go_wp2_with fail
          go_ret
          have hO := HV.out.1
          rw [HT2.out, ← hacc, HT.out] at hO
          have heq : encT es L = encU k ++ (es.flatMap fun e => encN (NM.evL e)) ++ encU j ++ L.flatMap (fun x => encN (anL x)) := by unfold encT; rw [hel, hnn]
          rw [hL, heq]
          exact mk_own (own_baseT hO (by have := HBW.out.size; omega)) (HBW.out.trans (HV.out.2.mono HBW.out.size))
end Go.Proofs.Ytiokiecnglmbnaa
