/-
  slices.Grow of nothing and slices.Concat of three slices of envelopes: a new row with all of them. Condition: the lengths.
-/
import Derived.Test.YtepbppckhfiplaaNwW
import Derived.Lib.AppendZeros
import Derived.Deep.Cut
namespace Go.Proofs.Ytepbppckhfiplaa
open Go Go.RowKit Go.Proofs
attribute [local go_sem] Oper.semAt_some

theorem RgX.Src.keep {w w' : World} {A : Option Addr} {m c : Nat} {news : List Value} (h : RgX.Src w A m c news) (hb : Below w.heap.size w w') : RgX.Src w' A m c news := by
  rcases h with h | ⟨ad, e, h⟩
  · exact .inl h
  · refine .inr ⟨ad, e, fun j u hu => ?_⟩
    have hc := h j u hu
    have hlt : (ad.add j).block < w.heap.size := by
      rcases Nat.lt_or_ge (ad.add j).block w.heap.size with h | h
      · exact h
      · simp [World.cell?, Array.getElem?_eq_none h] at hc
    exact (hb.cell hlt).trans hc
theorem wpList_append_runN {ops : Array Oper} {rest : List Oper} {o : Oper} {a : Act} {W : World} {Q : Exit → Act → World → Prop} (hgd : o.guard = none) (s x : Operand) (t tn : TypeId) (ho : o.op = .call { callee := .builtin .append, args := #[s, x], argTypes := #[t, tn] }) (vs vx : Value) (hs : a.eval s = vs) (hx : a.eval x = vx) (v' : Value) (w' : World) (hr : ∀ ty, (Builtin.append_ #[t, tn] ty #[vs, vx]).run Try.prog W = .ok v' w') (h : wpList Try.prog ops Q rest (a.put o.dst v') w') : wpList Try.prog ops Q (o :: rest) a W := by
  refine wpList_plain hgd fun _ hK => ?_
  unfold Oper.wp execOp
  simp only [ho, resolve, invoke, builtin, Sem.run_bind, Sem.run_pure, Result.andThen_ok, List.map_toArray, List.map_cons, List.map_nil, hs, hx, hr]
  exact hK _ _ h
theorem info_split5 {P : Program} {t : TypeId} {z : Option Value} {s b : Nat} (h : (P.info? t).map (fun i => (i.zero, i.size, i.bytes)) = some (z, s, b)) : ∃ i, P.info? t = some i ∧ i.zero = z ∧ i.size = s ∧ i.bytes = b := by
  cases hq : P.info? t with
  | none => rw [hq] at h; cases h
  | some i =>
    rw [hq] at h
    simp only [Option.map_some, Option.some.injEq, Prod.mk.injEq] at h
    exact ⟨i, rfl, h.1, h.2.1, h.2.2⟩
set_option maxHeartbeats 2000000 in
set_option maxRecDepth 100000 in
theorem growEn_any (n : Nat) (h0 : 0 < n) (hn : n ≤ 1000000) (W : World) : Calls Try.prog 36 #[.slice none 0 0, .int .i64 (n : Int)] W fun e w' => ∃ A c, e = .returned (.slice A 0 c) ∧ w'.ownsRow W.heap.size 28 9 (.slice A 0 c) 0 [] ∧ Below W.heap.size W w' := by
  obtain ⟨i0, hi, hz0, hz1, hz2⟩ := info_split5 info_en
  have hap := fun ty => Lib.run_append_nil_zeros (P := Try.prog) W 29 3 ty 28 i0 _ .i64 .i64 Try.underlying29 Try.underlying3 hi hz0 n (by omega) (by rw [hz1]; decide) (by omega) (by rw [hz2]; omega)
  obtain ⟨cap, hcap⟩ : ∃ c, grownCap W n 0 28 = c := ⟨_, rfl⟩
  have hg1 : n ≤ cap := by rw [← hcap]; exact grownCap_ge W n 0 _
  have hg2 : cap ≤ maxLen := by rw [← hcap]; exact grownCap_le_maxLen W n 0 _ (by simp only [maxLen]; omega)
  rw [hcap] at hap
  obtain ⟨z, hz⟩ : ∃ z : Value, z = .agg #[.int .i64 0, .int .i64 0, .int .i64 0, .int .i64 0, .int .i64 0, .int .i64 0, .int .i64 0, .int .i64 0, .int .i64 0] := ⟨_, rfl⟩
  rw [← hz] at hap
  obtain ⟨C, hC⟩ : ∃ C, Builtin.zeroCells z.cells n ++ Builtin.zeroCells z.cells (cap - n) = C := ⟨_, rfl⟩
  rw [hC] at hap
  have hCs : C.size = cap * 9 := by rw [← hC, Array.size_append, size_zeroCells, size_zeroCells, hz]; show n * 9 + (cap - n) * 9 = cap * 9; omega
  have HO := Lib.hid (World.ownsRow_made (base := W.heap.size) (e := 28) (size := 9) W.drew C cap (Nat.le_refl _) hg2 hCs)
  have HB := Lib.hid (show Below W.heap.size W (W.drew.alloc (.cells C 28)) from (Below.refl _ _).drew.alloc (Nat.le_refl _) _)
  have hn0 : 0 < n := by omega
  have HAP := Lib.hid hap
  clear hC hCs hcap h0 hi hz0 hz1 hz2 hap hz
  go_enter Try.func36, Try.ntmps36
  go_wp2_with (at_builtin; refine wpList_append_runN rfl _ _ 29 3 rfl _ _ rfl rfl _ _ HAP.out ?_)
  go_ret
  exact ⟨_, _, rfl, HO.out, HB.out⟩
set_option maxHeartbeats 8000000 in
set_option maxRecDepth 100000 in
theorem concat_any {g n1 c1 n2 c2 n3 c3 : Nat} {A1 A2 A3 : Option Addr} {xs1 xs2 xs3 : List Value} {t : TypeId} (w : World) (hg : w.heap[g]? = some (.cells #[.slice A1 n1 c1, .slice A2 n2 c2, .slice A3 n3 c3] t (0, 0))) (h1 : RgX.Src w A1 n1 c1 xs1) (h2 : RgX.Src w A2 n2 c2 xs2) (h3 : RgX.Src w A3 n3 c3 xs3)
    (l1 : xs1.length = n1 * 9) (l2 : xs2.length = n2 * 9) (l3 : xs3.length = n3 * 9) (o1 : ∀ u ∈ xs1, u.oneCell' = true) (o2 : ∀ u ∈ xs2, u.oneCell' = true) (o3 : ∀ u ∈ xs3, u.oneCell' = true) (h0 : 0 < n1 + n2 + n3) (b1 : n1 ≤ 100000) (b2 : n2 ≤ 100000) (b3 : n3 ≤ 100000) :
    Calls Try.prog 28 #[.slice (some ⟨g, 0, none⟩) 3 3] w fun e w' => ∃ B c', e = .returned (.slice B (n1 + n2 + n3) c') ∧ w'.ownsRow w.heap.size 28 9 (.slice B (n1 + n2 + n3) c') (n1 + n2 + n3) (xs1 ++ xs2 ++ xs3) ∧ Below w.heap.size w w' := by
  obtain ⟨i0, hi0, hz0, hs0, hb0⟩ := info_split5 info_en
  have HK := Lib.hid (fun (V : World) (hV : Below w.heap.size w V) => (show V.cell? ⟨g, 0, none⟩ = some (.slice A1 n1 c1) ∧ V.cell? ⟨g, 1, none⟩ = some (.slice A2 n2 c2) ∧ V.cell? ⟨g, 2, none⟩ = some (.slice A3 n3 c3) from
    ⟨cell_of_row _ _ 0 _ _ (0, 0) ((hV.block _ (heap_lt hg)).trans hg), cell_of_row _ _ 1 _ _ (0, 0) ((hV.block _ (heap_lt hg)).trans hg), cell_of_row _ _ 2 _ _ (0, 0) ((hV.block _ (heap_lt hg)).trans hg)⟩))
  have HS := Lib.hid (And.intro h1 (And.intro h2 h3))
  have HL := Lib.hid (And.intro (And.intro l1 o1) (And.intro (And.intro l2 o2) (And.intro l3 o3)))
  have HG := Lib.hid (fun V => growEn_any (n1 + n2 + n3) h0 (by omega) V)
  have e3 : ((n1 + n2 + n3 : Nat) : Int) = (n1 : Int) + (n2 : Int) + (n3 : Int) := by omega
  rw [e3] at HG
  clear hg h1 h2 h3 l1 l2 l3 o1 o2 o3 e3
  go_enter Try.func28, Try.ntmps28
  go_wp2_with fail
  go_loopw [3, 5, 11] (fun s _ i V => ((i = .int .i64 0 ∧ s = .int .i64 0) ∨ (i = .int .i64 1 ∧ s = .int .i64 (n1 : Int)) ∨ (i = .int .i64 2 ∧ s = .int .i64 ((n1 : Int) + (n2 : Int))) ∨ (i = .int .i64 3 ∧ s = .int .i64 ((n1 : Int) + (n2 : Int) + (n3 : Int)))) ∧ V = w) (fun _ _ i _ => 3 - (intOf i).toNat)
  case atStart => exact ⟨.inl ⟨rfl, rfl⟩, rfl⟩
  case round =>
    obtain ⟨hst, rfl⟩ := hrel
    obtain ⟨y0, y1, y2⟩ := HK.out wr (Below.refl _ _)
    rcases hst with ⟨rfl, rfl⟩ | ⟨rfl, rfl⟩ | ⟨rfl, rfl⟩ | ⟨rfl, rfl⟩
    · have hn : decide ((n1 : Int) < (0 : Int)) = false := decide_eq_false (by omega)
      go_wp2_with fail
      go_roundw
      case rel => exact ⟨.inr (.inl ⟨rfl, rfl⟩), by trivial⟩
      case measure => simp [intOf]
    · have hn : decide (((n1 : Int) + (n2 : Int)) < (0 : Int)) = false := decide_eq_false (by omega)
      go_wp2_with fail
      go_roundw
      case rel => exact ⟨.inr (.inr (.inl ⟨rfl, rfl⟩)), by trivial⟩
      case measure => simp [intOf]
    · have hn : decide (((n1 : Int) + (n2 : Int) + (n3 : Int)) < (0 : Int)) = false := decide_eq_false (by omega)
      go_wp2_with fail
      go_roundw
      case rel => exact ⟨.inr (.inr (.inr ⟨rfl, rfl⟩)), by trivial⟩
      case measure => simp [intOf]
    · go_upto_region 10 with (go_at_call 36; (with_reducible refine (HG.out _).mono ?_); rintro e w1 ⟨A0, c0, rfl, own0, hb0_⟩; have HO0 := Lib.hid own0; have HV0 := Lib.hid hb0_; clear own0 hb0_ y0 y1 y2)
      obtain ⟨w, hw⟩ : ∃ W, W = wr := ⟨_, rfl⟩
      subst hw
      go_wp2_with fail
      go_loopw [6, 8, 27] (fun s _ i V => ((i = .int .i64 0 ∧ (∃ B r, s = .slice B 0 r) ∧ Hid (V.ownsRow w.heap.size 28 9 s 0 [])) ∨ (i = .int .i64 1 ∧ (∃ B r, s = .slice B n1 r) ∧ Hid (V.ownsRow w.heap.size 28 9 s n1 xs1)) ∨ (i = .int .i64 2 ∧ (∃ B r, s = .slice B (n1 + n2) r) ∧ Hid (V.ownsRow w.heap.size 28 9 s (n1 + n2) (xs1 ++ xs2))) ∨ (i = .int .i64 3 ∧ (∃ B r, s = .slice B (n1 + n2 + n3) r) ∧ Hid (V.ownsRow w.heap.size 28 9 s (n1 + n2 + n3) (xs1 ++ xs2 ++ xs3)))) ∧ Hid (Below w.heap.size w V)) (fun _ _ i _ => 3 - (intOf i).toNat)
      case atStart => exact ⟨.inl ⟨rfl, ⟨A0, c0, rfl⟩, HO0⟩, HV0⟩
      case round =>
        obtain ⟨hst, HV⟩ := hrel
        obtain ⟨y0, y1, y2⟩ := HK.out wr HV.out
        rcases hst with ⟨rfl, ⟨B, r, rfl⟩, HO⟩ | ⟨rfl, ⟨B, r, rfl⟩, HO⟩ | ⟨rfl, ⟨B, r, rfl⟩, HO⟩ | ⟨rfl, ⟨B, r, rfl⟩, HO⟩
        · go_wp2_with (at_builtin; refine RgX.wpList_append_any rfl _ _ 29 rfl w.heap.size 28 i0 _ 9 72 Try.underlying29 hi0 hz0 hs0 hb0 rfl (by decide) _ _ _ rfl HO.out A1 n1 c1 xs1 rfl HL.out.1.1 (HS.out.1.keep HV.out) HL.out.1.2 (by simp only [maxLen]; omega) (by omega) HV.out.size ?_; intro B7 c7 w7 own7 gr7)
          have hb7 := HV.out.grown gr7 HV.out.size (fun b e => (HO.out.lt b e).1)
          rw [Nat.zero_add, List.nil_append] at own7
          have HO7 := Lib.hid own7
          have HV7 := Lib.hid hb7
          clear own7 hb7 gr7 HO HV
          go_roundw
          case rel => exact ⟨.inr (.inl ⟨rfl, ⟨B7, c7, rfl⟩, HO7⟩), HV7⟩
          case measure => simp [intOf]
        · go_wp2_with (at_builtin; refine RgX.wpList_append_any rfl _ _ 29 rfl w.heap.size 28 i0 _ 9 72 Try.underlying29 hi0 hz0 hs0 hb0 rfl (by decide) _ _ _ rfl HO.out A2 n2 c2 xs2 rfl HL.out.2.1.1 (HS.out.2.1.keep HV.out) HL.out.2.1.2 (by simp only [maxLen]; omega) (by omega) HV.out.size ?_; intro B7 c7 w7 own7 gr7)
          have hb7 := HV.out.grown gr7 HV.out.size (fun b e => (HO.out.lt b e).1)
          have HO7 := Lib.hid own7
          have HV7 := Lib.hid hb7
          clear own7 hb7 gr7 HO HV
          go_roundw
          case rel => exact ⟨.inr (.inr (.inl ⟨rfl, ⟨B7, c7, rfl⟩, HO7⟩)), HV7⟩
          case measure => simp [intOf]
        · go_wp2_with (at_builtin; refine RgX.wpList_append_any rfl _ _ 29 rfl w.heap.size 28 i0 _ 9 72 Try.underlying29 hi0 hz0 hs0 hb0 rfl (by decide) _ _ _ rfl HO.out A3 n3 c3 xs3 rfl HL.out.2.2.1 (HS.out.2.2.keep HV.out) HL.out.2.2.2 (by simp only [maxLen]; omega) (by omega) HV.out.size ?_; intro B7 c7 w7 own7 gr7)
          have hb7 := HV.out.grown gr7 HV.out.size (fun b e => (HO.out.lt b e).1)
          have HO7 := Lib.hid own7
          have HV7 := Lib.hid hb7
          clear own7 hb7 gr7 HO HV
          go_roundw
          case rel => exact ⟨.inr (.inr (.inr ⟨rfl, ⟨B7, c7, rfl⟩, HO7⟩)), HV7⟩
          case measure => simp [intOf]
        · go_wp2_with fail
          go_ret
          exact ⟨B, r, rfl, HO.out, HV.out⟩
end Go.Proofs.Ytepbppckhfiplaa
